import PyProof.Rows.All
import Wide.All
import OpenK.AllK
import PySem.Challenge.RW_likebook_k63_readings_of_one_word
open Lean.Parser.Command in
local macro_rules|`(def $a:declId $b:optDeclSig $c:declVal)=>`(noncomputable def $a:declId $b:optDeclSig $c:declVal)|`(abbrev $a:declId $b:optDeclSig $c:declVal)=>`(noncomputable abbrev $a:declId $b:optDeclSig $c:declVal)
noncomputable section
open Array renaming getD_eq_getD_getElem?→e8,getElem?_eq_some_iff→gu,length_toList→iw,getElem?_eq_getElem→m5,Perm→oy,toArray_toList→p8,append_assoc→qy,find?_toList→q9
open Bool renaming and_eq_true_iff→av,and_eq_true→br,false_ne_true→ce,or_eq_true_iff→fj,or_eq_true→j0,eq_iff_iff→j4,beq_eq_decide_eq→lf,eq_false_iff→m9,not_eq_true'→nc,true_and→qu
open Int renaming toNat_natCast→fi,emod_nonneg→fm,emod_lt_of_pos→gv,le_refl→ul
open List renaming length_map→ac,mem_cons→ak,mem_singleton→am,getElem?_eq_some_iff→aq,length_append→au,getElem?_eq_getElem→aw,size_toArray→ax,mem_append_right→ay,mem_cons_self→az,replicate→ba,getD_eq_getElem?_getD→bd,mem_map→bf,nodup_cons→bg,map_cons→bh,getElem?_map→bj,mem_cons_of_mem→bn,mem_append→bo,map_append→bp,mem_append_left→bu,length_cons→bv,all_eq_true→b8,length_replicate→cf,getElem?_set_ne→ci,mem_of_getElem?→cj,range→cn,getElem?_set_self→cq,append_nil→cr,length_set→cu,all_cons→cv,filterMap_cons→cx,lookup_cons→c7,contains_iff_mem→c8,pairwise_cons→c9,getElem_mem→dh,getElem?_replicate→dq,filter_eq_self→dr,replicate_succ→dt,map_map→dz,filter_cons→d6,append_assoc→d8,length_range→d9,map_inj_left→eg,getElem?_set→et,mem_flatMap→ez,getElem?_append_right→e9,getElem?_append_left→fq,length_zipIdx→f8,nodup_nil→gf,flatten_cons→gh,pairwise_singleton→gj,mem_range→gp,mem_filter→g7,nodup_append→ij,flatMap_cons→im,length_take→iz,not_mem_nil→i7,length_eq_zero_iff→i8,isEmpty_map→i9,mem_filterMap→jb,find?_cons→jg,any_cons→jh,toArray→jo,getElem_zip→jp,map_congr_left→ju,zipIdx_map_fst→jx,flatMap_append→jy,range_succ→j6,filter_append→j9,getElem?_cons_succ→km,filter_cons_of_pos→kt,filter_cons_of_neg→ku,take_of_length_le→k8,foldl_append→la,filter_eq_nil_iff→lb,length_filter_le→lg,isEmpty_iff→ln,getElem?_append→lu,length_zip→l9,getElem?_range→ma,getElem_zipIdx→mh,getElem?_eq_none_iff→mx,drop_eq_getElem_cons→my,mem_or_eq_of_mem_set→m6,pairwise_map→nh,Pairwise→nq,filterMap_cons_none→nz,filterMap_cons_some→n5,take_length→oh,find?_cons_of_pos→ow,of_mem_zip→o9,foldl_cons→pc,dropLast_eq_take→pj,countP_mono_left→pp,take_succ→qb,getElem_of_mem→qj,mem_replicate→rq,contains_cons→si,map_nil→tm,ext_getElem?→tx,set_set→t8,length→uf,map_id→uj,foldl→uy
open Nat renaming le_refl→ag,lt_of_lt_of_le→cb,le_trans→cg,ne_of_lt→cw,lt_irrefl→cy,zero_le→cz,le_of_lt→jc,lt_of_le_of_lt→j8,le_of_eq→kw,pow_le_pow_right→l5,lt_trans→mn,zero_add→oz,pow_succ→o8,add_le_add_right→qa,add_sub_cancel'→qh,add_sub_cancel→sg,mul_comm→tw,sub_self→ua
open Option renaming map_eq_some_iff→b9,isNone_iff_eq_none→gz,bind_eq_some_iff→ko,isSome_map→m8,isSome→qv,isNone→qx
open Prod renaming fst→vc
open PyProof.Rows renaming seqObj→jw,kindOf→lh,AllBare→ml,subscriptTail_builtinR→ot,envOfC→p3,Constant_none→ql,IntsAre→uo
open PySem renaming wpAny_bind→ae,Shared→af,PyData→ao,sizeLine→bc,wpAny_pure→bq,Program→bx,mainGlobals→bz,compareOp→c0,sizeLine_eq→df,bootBuiltins→dg,wpAny_loadPart_at→dj,behindInMarks→dw,starEach→d5,Around→d7,FuncData→eh,assignEach→eu,Params→fz,binaryOp→gc,foldedSetIterable→gg,wpAny_field→gm,wpAny_holding→gn,NameKind→gq,PassesOwn→g8,wpAny_newObj_type→ig,wpAny_getItem_str_slice→i6,sysModules→ja,tupleKind_room_in1→jd,letOwnedTupleGo→jf,wpAny_truthy_bool→jk,wpAny_mono→jl,codeAny_call_builtin→jn,noteFrame→jq,Paired→jt,wpAny_passesOwn→jz,importedModules→j5,wpAny_Call_Name_kw→j7,swapsWith→ke,wpAny_callSpecial?_slot→kg,sliceBounds→kh,treeTable→kr,codeAny→kz,wpAny_setField→k9,wpAny_call_entry→li,checkBuiltinCall→lj,setFlight→lm,attributeBase→lq,unbindBehindTheSuite→lx,backTo→l6,rawInt→l7,post_val_or_str→l8,OsState→mo,call_meets→mw,wpAny_pyIter_list→m7,wpAny_comprehension_free→ny,tupleKind→n8,Operator→oa,noFill_tuple_add→og,codeAny_mono→om,concat_meets→oo,wpAny_typeOf→oq,wpAny_rule→ox,codeAny_builtin→ph,wpAny_isTrue_Compare1→pi,GenState→pq,wpAny_loadName_local→pv,sliceRange_one→p7,wpAny_seqItems→p9,BindsTo→qd,Keyword→qe,valueAt→qf,callerA→qg,wpAny_isSubtype_exc→qk,swapsWithSole→qm,swappedStores→qo,seq_tuple_add→qp,wpAny_standAt→qq,plainId_quiet→qt,wpAny_Name→qz,assign→q8,IsPart→rh,wpAny_pyIter_tuple→se,isInstance→sj,wpAny_assign_Name→sr,getItem→tq,seqIndex_neg→tt,slot_list_getitem→tu,getAttr?→tz,wpAny_pyIter_enum→t0,handleBy→t9,isTrue→ub,pyIter→uc,typeOf→ud,keywordEach→ue,seqIndex_of→ug,excClassObj→uh,builtinKind→ui,leaving→um,OwnTail→uq,builtinsNs→ur,bindArgs→ut,typeIs_str→uu,typeIs_int→uw,PlainAttrs→ux,excMatches→uz,holding→vf
open PySem.Builtin.Dict renaming updateFrom→ol
open PySem.Builtin.List renaming listTooLong→iu
open PySem.Builtin.Slice renaming slicePlaces→gy,sliceAdjust→jr,sliceApplied→mv
open PySem.Builtin.SmallTypes renaming nextOf→mz
open PySem.Builtin.Str renaming strSliceIndices→gk,occurrences→iy
open PySem.Builtin.Tuple renaming tupleExact→ip
open PySem.Calls renaming Name_function_global→jm,loadGlobal_global→n9,callWith_builtin→ou
open PySem.Heap renaming get?_push_of_some→ah,lt_size→bt,get?_push_size→bw,get?_update_other→fg,get?_update_self→gw,SameBut→g9,get?_update_ne→jv,get?_none_of_le→lr,NewExcOf→qr
open PySem.Heap.Ns1 renaming of_empty→sw
set_option Elab.async false
set_option genInjectivity false
set_option genSizeOf false
set_option compiler.extract_closed false
set_option linter.all false
set_option maxRecDepth 100000
theorem dc {p:Prop} [Decidable p] (h:decide p=true:=by rfl):p:=by simpa using h
theorem vg {c:Prop}{d:Decidable c}(h:c){α:Sort _}{a b:α}:@ite α c d a b=a:=if_pos h
theorem vh {c:Prop}{d:Decidable c}(h:¬c){α:Sort _}{a b:α}:@ite α c d a b=b:=if_neg h
theorem vi {α}{a b:α}(h:some a=some b):a=b:=Option.some.inj h
theorem vj {α β}{a c:α}{b d:β}(h:(a,b)=(c,d)):a=c∧b=d:=Prod.mk.inj h
theorem vm {p:Prop} [Decidable p] (h:decide p=true):p:=of_decide_eq_true h
theorem vn {p:Prop} [Decidable p] (h:p):decide p=true:=decide_eq_true h
theorem vo {p:Prop} [Decidable p] (h:¬p):decide p=false:=decide_eq_false h
theorem vp {α} [BEq α] [LawfulBEq α] {a b:α}(h:(a==b)=true):a=b:=beq_iff_eq.mp h
abbrev aab (x:PySem.Str):Prop:=(x==("__debug__":PySem.Str))=false
namespace Tp
open PySem PySem.W PyProof.Rows
def q0:Pos:=⟨0,0,0,0⟩
def an:Option Value:=some (.ref 6)
def ev (p:bx):Env:={scope:=p.main.scope,locals:=mainNs,globals:=mainNs,cells:=[],code:=.ref 13,frame:=some 14}
def cd (p:bx):Code:=.body (behindTheImports p) (ev p)
def grow:List Obj->Nat->BT->BT
 | [],_,t=>t
 |o::l,i,t=>grow l (i+1) (t.ins i o)
def lift (s:af):SharedT:=⟨grow s.heap.objs.toList 0 .nil,s.heap.objs.size,s.heap.life,s.gens,s.drawn,s.toks,s.os⟩
def pre (p:bx)(H:fz->Heap)(d:Drawn)(k:Nat)(w:World)(os:mo):Option (af×Thread):=topGo kr p w 11 an 12 ⟨H w.params,#[],d,k,os⟩ (topStub p)
def pV (p:bx)(H:fz->Heap)(d:Drawn)(k:Nat)(w:World)(os:mo):SharedT:=lift (((pre p H d k w os).map vc).getD ⟨H w.params,#[],d,k,os⟩)
def run (p:bx)(H:fz->Heap)(d:Drawn)(k N:Nat)(w:World)(os:mo):Option (Flow×SharedT×Code×Pos):=segRunT kr p w 11 an 1 N (pV p H d k w os) (piecesOf (behindTheImports p) (ev p) (cd p) q0 [topFrame q0])
def PreEq (p:bx)(H:fz->Heap)(d:Drawn)(k:Nat):Prop:=∀(w:World) (os:mo),((H w.params).isNs bz&&(#[]:Array pq).size==0,(H w.params).objs.size,(H w.params).nsMap bz "__annotations__",pre p H d k w os,λs c=>segRun kr p w 11 an 1 1 s (blockOf (behindTheImports p) (ev p) c q0 [topFrame q0]))=(true,11,an,some ((pV p H d k w os).abs,⟨denote kr (cd p),cd p,q0,[topFrame q0]⟩),λs c=>some (.next,s,c,q0))
def seen (p q:bx)(R:WRecords)(as:List Addr)(H:fz->Heap)(w:World)(s:SharedT):=(staticsOk (j5 p.main.body) (H w.params) s.abs.heap&&namesBound p s.abs.heap&&gensDone s.abs&&laidKept (H w.params) s.abs.heap,openSeen q [] (j5 p.main.body) (λs=>xlAt q [] s&&recOk R s) true s.abs,as.map s.abs.heap.get?)
def pick {α:Type}(f:SharedT->α):Flow×SharedT×Code×Pos->Option (Code×α)
 |(.next,s,c,_)=>some (c,f s)
 |_=>none
def kF (p q:bx)(R:WRecords)(as:List Addr)(K:fz->List (Addr×Obj))(H:fz->Heap)(d:Drawn)(k N:Nat):Prop:=∀(w:World) (os:mo),(run p H d k N w os).bind (pick (seen p q R as H w))=some (cd p,true,openGood q [],(K w.params).map λx=>some x.2)
theorem Ec (tb:String->Option Builtin)(p:bx)(w:World)(n:Nat)(a:Option Value)(s:af)(c:Code)(ps q:Pos):topRun tb p w n a 2 s ⟨doneF .next,c,ps,[topFrame q]⟩=some s:=by rfl
theorem left {K:fz->List (Addr×Obj)}(o:∀w,(fencedOpening kr p w N).map (fun s=>(s.heap,s.gens,s.drawn,s.toks))=some (boot_heap w.params,#[],boot_drawn,boot_toks))(le:12+(1+(M+2))<=N)
  (h1:PreEq p boot_heap boot_drawn boot_toks) (h2:kF p q R as K boot_heap boot_drawn boot_toks M):LeftO p q [] (λs=>xlAt q [] s&&recOk R s) (λs=>as.map s.heap.get?) (λw=>(K w.params).map λx=>some x.2) N:=λw=>by
 obtain⟨⟨h,gs,d,k,os⟩,e,e'⟩:=b9.mp (o w);have e1:=vj e';have e2:=vj e1.2;have e3:=vj e2.2;obtain rfl:h=boot_heap w.params:=e1.1;obtain rfl:gs=#[]:=e2.1;obtain rfl:d=boot_drawn:=e3.1;obtain rfl:k=boot_toks:=e3.2;have a:=vj (h1 w os);have a2:=vj a.2;have a3:=vj a2.2;have a4:=vj a3.2;obtain⟨⟨f,s,c,ps⟩,r1,r2⟩:=ko.mp (h2 w os);cases f with
 |next=>
  have b:=vj (vi r2);have b1:=vj b.2;have b2:=vj b1.2;obtain rfl:c=cd p:=b.1;have t1:topRun kr p w 11 an (M+2) (pV p boot_heap boot_drawn boot_toks w os).abs (restOf (behindTheImports p++[]) (ev p) (cd p) q0 [topFrame q0])=some s.abs:=piece_app (segRun_of r1) (Ec kr p w 11 an s.abs (cd p) ps q0);rw[cr]at t1;have t4:=topRun_mono (N-(12+(1+(M+2)))) _ _ _ _ (go_top a4.1 (piece_block (congrFun (congrFun a4.2 (pV p boot_heap boot_drawn boot_toks w os).abs) (cd p)) t1));rw[qh le]at t4;have t:topFrom kr p w N ⟨boot_heap w.params,#[],boot_drawn,boot_toks,os⟩=some s.abs:=by unfold topFrom;rw[a.1,a2.1,a3.1,t4];show(match staticsOk (j5 p.main.body) (boot_heap w.params) s.abs.heap&&namesBound p s.abs.heap&&gensDone s.abs&&laidKept (boot_heap w.params) s.abs.heap with|true=>some s.abs|false=>none)=_;rw[b1.1]
  unfold openEnds;rw[e];show(topFrom kr p w N _).map _=_;rw[t];exact congrArg some (Prod.ext b2.1 b2.2)
 |_=>cases r2
theorem pre_r:PreEq=PreEq:=rfl
def Ed (p q:bx)(R:WRecords)(H:fz->Heap)(w:World)(s:SharedT):=(staticsOk (j5 p.main.body) (H w.params) s.abs.heap&&namesBound p s.abs.heap&&gensDone s.abs&&laidKept (H w.params) s.abs.heap,openSeen q [] (j5 p.main.body) (λs=>xlAt q [] s&&recOk R s) true s.abs)
def RunA (p q:bx)(R:WRecords)(H:fz->Heap)(d:Drawn)(k N:Nat):Prop:=∀(w:World) (os:mo),(run p H d k N w os).bind (pick (Ed p q R H w))=some (cd p,true,openGood q [])
def RunB (p:bx)(as:List Addr)(K:fz->List (Addr×Obj))(H:fz->Heap)(d:Drawn)(k N:Nat):Prop:=∀(w:World) (os:mo),(run p H d k N w os).bind (pick λs=>as.map s.abs.heap.get?)=some (cd p,(K w.params).map λx=>some x.2)
theorem Qe {α β:Type}{f:SharedT->α}{g:SharedT->β}{x:Option (Flow×SharedT×Code×Pos)}{a:α}{b:β}(h1:x.bind (pick f)=some (c,a))(h2:x.bind (pick g)=some (c,b)):x.bind (pick λs=>(f s,g s))=some (c,a,b):=by
 cases x with
 |none=>cases h1
 |some y=>
  obtain⟨fl,s,c',ps⟩:=y;cases fl with
  |next=>have e1:=vj (vi h1);show some (c',f s,g s)=_;rw[e1.1,e1.2,(vj (vi h2)).2]
  |_=>cases h1
theorem uR {K:fz->List (Addr×Obj)}(h1:RunA p q R H d k N)(h2:RunB p as K H d k N):kF p q R as K H d k N:=λw os=>by
 have h:=Qe (h1 w os) (h2 w os);cases e:run p H d k N w os with
 |none=>rw[e]at h;cases h
 |some y=>
  rw[e]at h;obtain⟨fl,s,c',ps⟩:=y;cases fl with
  |next=>have e1:=vj (vi h);have e2:=vj e1.2;show some (c',(Ed p q R H w s).1,(Ed p q R H w s).2,as.map s.abs.heap.get?)=_;rw[e1.1,e2.2,e2.1]
  |_=>cases h
theorem runA_r:RunA=RunA:=rfl
theorem runB_r:RunB=RunB:=rfl
end Tp
lay_quick Tp.PreEq Tp.RunA Tp.RunB
name_quick tpre for Tp.PreEq by Tp.pre_r
name_quick truna for Tp.RunA by Tp.runA_r
name_quick trunb for Tp.RunB by Tp.runB_r
namespace Tp
open PySem PySem.W PyProof.Rows
theorem rn_r:run=run:=rfl
end Tp
name_quick trn for Tp.run by Tp.rn_r
namespace Tp
open PySem PySem.W PyProof.Rows
def obj (p:bx)(M:Nat)(P:fz)(a:Addr):Obj:=((PySem.W.Fast.trn p boot_heap boot_drawn boot_toks M ⟨λ_ _=>0,P⟩ default).map λx=>(x.2.1.tree.get a).getD default).getD default
def Ko (p:bx)(M:Nat)(as:List Addr)(P:fz):Frag:=as.map λa=>(a,obj p M P a)
theorem yT (p:bx)(M:Nat)(as:List Addr)(P:fz):as=(Ko p M as P).map (·.1):=by unfold Ko;rw[dz];exact(uj _).symm
def said (l:OpenLaw):Bool:=l.wellSaid
theorem said_r:said=said:=rfl
theorem holds {K:fz->Frag}(ws:said l=true)(ek:∀P,as=(K P).map (·.1))(o1:opening l.row.prog=plainProg l.row.prog.main.scope.names)(o2:Nat.ble 600 N=true)(o3:∀s,fenceModules? l.row.prog s=some s)(le:12+(1+(M+2))<=N)
  (h1:PreEq l.row.prog boot_heap boot_drawn boot_toks) (h2:kF l.row.prog q l.row.records as K boot_heap boot_drawn boot_toks M) (a1:defOf q l.row.name=some (d,[])) (a2:l.row.prog.theDef l.row.name=some (d.params,d.body,d.scope)) (a3:kwWritten? d.params.kwonlyargs d.params.kw_defaults=some []) (a4:(!l.row.writes||l.row.records.isEmpty)=true)
  (a5:(chainsOk q&&opensWell l.row.prog&&(frees l.row.toRowW&&l.row.within.isEmpty))=true) (a6:l.row.prog.bare) (a7:l.row.toRowW.promised) (call:WalkO q [] (XL q []) (InK K) l.row.toRowW d [] λf vs=>PySem.call f vs):l.Holds:=
 holds_law ws λz=>holds_open (left (boot_open o1 o2 o3) le h1 h2) (InK.of ek) InK.keeps (λs e=>xl_of s (av.mp e).1) XL.keeps a1 a2 a3 (λs e=>recFacts_of (av.mp e).2) a4 z a5 a6 a7 call
end Tp
lay_quick Tp.said
name_quick tsaid for Tp.said by Tp.said_r
namespace Mk
open PySem PySem.Spec PyProof.Rows
abbrev nH:bx:=PySem.Challenge.rw_likebook_k63_readings_of_one_word.row.prog
def yU:bx:=W.view nH [1,2,3,4,6,7,8,10,11,12,13,15,16,17,18,20,21,23,24,25,26,28,29,30,31,32,33,34,36,37,38,39,40,41,42,43,44,45,46,47,48]
def BS:List Addr:=cn 288
def yV:fz->W.Frag:=Tp.Ko nH 100000 BS
theorem Qf:Tp.PreEq nH W.boot_heap W.boot_drawn W.boot_toks:=by
 intro w os
 kernel_rfl
theorem Ee:Tp.RunA nH yU PySem.Challenge.rw_likebook_k63_readings_of_one_word.row.records W.boot_heap W.boot_drawn W.boot_toks 100000:=by
 rw[PySem.W.Fast.truna_eq];intro w os
 kernel_rfl
theorem Ef:Tp.RunB nH BS yV W.boot_heap W.boot_drawn W.boot_toks 100000:=by
 rw[PySem.W.Fast.trunb_eq];intro w os
 kernel_rfl
theorem Qg:Tp.kF nH yU PySem.Challenge.rw_likebook_k63_readings_of_one_word.row.records BS yV W.boot_heap W.boot_drawn W.boot_toks 100000:=Tp.uR Ee Ef
end Mk
namespace L2
open PySem PySem.Spec PyProof.Rows
abbrev Key:=Sum Int Str
def xQ:Key->Value->Bool
 |.inl k,v=>Value.isInt k v
 |.inr x,v=>Value.isStrOf x v
def Eg (w:World):Key->Int
 |.inl k=>hashInt k
 |.inr x=>hashStr w x
theorem pC:∀{k:Key} {v:Value},xQ k v=true->(∃i t,k=Sum.inl i/\v=Value.int i t)\/(∃x t,k=Sum.inr x/\v=Value.str x t)
 |.inl i,v,h=>by obtain⟨t,e⟩:=Value.isInt_shape (k:=i) (v:=v) h;exact .inl ⟨i,t,rfl,e⟩
 |.inr x,v,h=>by obtain⟨t,e⟩:=Value.isStrOf_shape (x:=x) (v:=v) h;exact .inr ⟨x,t,rfl,e⟩
theorem Qh (i:Int)(t:Tok):xQ (.inl i) (.int i t)=true:=by simp[xQ,Value.isInt]
theorem Qi (x:Str)(t:Tok):xQ (.inr x) (.str x t)=true:=by simp[xQ,Value.isStrOf]
theorem Qj (a b:Int):decide ((Sum.inl a:Key)=Sum.inl b)=(a==b):=by
 by_cases e:a=b
 ·subst e;simp
 ·have h:¬(Sum.inl a:Key)=Sum.inl b:=λq=>e (Sum.inl.inj q);rw[vo h];exact(beq_eq_false_iff_ne.mpr e).symm
theorem Qk (a b:Str):decide ((Sum.inr a:Key)=Sum.inr b)=decide (a=b):=by
 by_cases e:a=b
 ·subst e;simp
 ·have h:¬(Sum.inr a:Key)=Sum.inr b:=λq=>e (Sum.inr.inj q);rw[vo h,vo e]
theorem Ql (a:Int)(b:Str):decide ((Sum.inl a:Key)=Sum.inr b)=false:=vo (λq=>nomatch q)
theorem Qm (a:Str)(b:Int):decide ((Sum.inr a:Key)=Sum.inl b)=false:=vo (λq=>nomatch q)
def z0k (prog:bx)(w:World):PySem.KeyKind prog w Key where
 is:=xQ
 hash:=Eg w
 inj:=λv a b ha hb=>by
  rcases pC ha with⟨i,t,rfl,rfl⟩|⟨x,t,rfl,rfl⟩
  ·rcases pC hb with⟨j,u,rfl,e⟩|⟨y,u,rfl,e⟩
   ·injection e with e1 _;rw[e1]
   ·exact nomatch e
  ·rcases pC hb with⟨j,u,rfl,e⟩|⟨y,u,rfl,e⟩
   ·exact nomatch e
   ·injection e with e1 _;rw[e1]
 byValue:=λk v h=>by rcases pC h with⟨i,t,rfl,rfl⟩|⟨x,t,rfl,rfl⟩<;>rfl
 pyHash:=λhv h=>by
  rcases pC hv with⟨i,t,rfl,rfl⟩|⟨x,t,rfl,rfl⟩
  ·exact wpAny_pyHash_int h
  ·exact wpAny_pyHash_str h
 eqBool:=λhu hv h=>by
  rcases pC hu with⟨i,t,rfl,rfl⟩|⟨x,t,rfl,rfl⟩
  ·rcases pC hv with⟨j,u,rfl,rfl⟩|⟨y,u,rfl,rfl⟩
   ·rw[Qj]at h;exact wpAny_eqBool_int h
   ·rw[Ql]at h;exact SeqAt.EqAt.int_str i t y u _ _ _ _ h
  ·rcases pC hv with⟨j,u,rfl,rfl⟩|⟨y,u,rfl,rfl⟩
   ·rw[Qm]at h;exact SeqAt.EqAt.str_int x t j u _ _ _ _ h
   ·rw[Qk]at h;exact wpAny_eqBool_str h
 «strs»:=λk x t v h=>by
  rcases pC h with⟨i,u,rfl,e⟩|⟨y,u,rfl,e⟩
  ·exact nomatch e
  ·injection e with e1 _;subst e1;cases v<;>rfl
theorem Qn (prog:bx)(w:World)(i:Int)(t:Tok):(z0k prog w).is (.inl i) (.int i t)=true:=Qh i t
theorem Qo (prog:bx)(w:World)(x:Str)(t:Tok):(z0k prog w).is (.inr x) (.str x t)=true:=Qi x t
inductive V where
 |bA|bl (b:Bool)|int (i:Int)|str (x:Str)|ref (a:Addr)|ty (n:String)
 deriving DecidableEq
def RelV:V->Value->Prop
 |.bA,u=>u=Value.none
 |.bl b,u=>u=Value.bool b
 |.int i,u=>∃t,u=Value.int i t
 |.str x,u=>∃t,u=Value.str x t
 |.ref a,u=>u=Value.ref a
 |.ty n,u=>u=Value.type n
abbrev Vals:List V->List Value->Prop:=jt RelV
theorem Vals.length {xs:List V}{us:List Value}(r:Vals xs us):xs.length=us.length:=Paired.length r
theorem Vals.get:∀{xs:List V} {us:List Value} {i:Nat} {x:V},Vals xs us->xs[i]?=some x->∃u,us[i]?=some u/\RelV x u
 |_,_,_,_,.nil,e=>by simp at e
 |_,_,0,_,.cons r _,e=>by simp at e;subst e;exact⟨_,rfl,r⟩
 |_,_,i+1,x,.cons _ t,e=>by obtain⟨u,h1,h2⟩:=Vals.get (i:=i) (x:=x) t (by simpa using e);exact⟨u,by simpa using h1,h2⟩
theorem Vals.set {x:V}{u:Value}(r:RelV x u):∀{xs:List V} {us:List Value} (i:Nat),Vals xs us->Vals (xs.set i x) (us.set i u)
 |_,_,_,.nil=>.nil
 |_,_,0,.cons _ t=>.cons r t
 |_,_,i+1,.cons q t=>.cons q (Vals.set r i t)
theorem Vals.append:∀{xs ys:List V} {us ws:List Value},Vals xs us->Vals ys ws->Vals (xs++ys) (us++ws)
 |_,_,_,_,.nil,s=>s
 |_,_,_,_,.cons r t,s=>.cons r (Vals.append t s)
theorem Vals.take:∀{xs:List V} {us:List Value} (n:Nat),Vals xs us->Vals (xs.take n) (us.take n)
 |_,_,0,_=>.nil
 |_,_,_+1,.nil=>.nil
 |_,_,n+1,.cons r t=>.cons r (Vals.take n t)
theorem Vals.drop:∀{xs:List V} {us:List Value} (n:Nat),Vals xs us->Vals (xs.drop n) (us.drop n)
 |_,_,0,r=>r
 |_,_,_+1,.nil=>.nil
 |_,_,n+1,.cons _ t=>Vals.drop n t
def dB:Option V->Option Value->Prop
 |some v,some u=>RelV v u
 |none,none=>True
 |_,_=>False
def KV {κ:Type}:List (κ×V)->List (κ×Value)->Prop:=jt λ(p:κ×V) (q:κ×Value)=>p.1=q.1/\RelV p.2 q.2
def kV:Key->V
 |.inl i=>.int i
 |.inr x=>.str x
inductive HO where
 |lst (xs:List V)
 |tup (xs:List V)
 |dK (kvs:List (Key×V))|dT (kvs:List (List Key×V))
 |set (S:Int->Bool) (n:Nat)
 |ins (C dx:Addr) (fs:List (Str×V))
 |own (x:Addr)
 |xd (fs:List (Str×V))
 |fL (o:Obj) (u:HO)
 |nI (ps:Array Value)
 |ext (φ:Heap->Prop)
abbrev Hp:=Addr->Option HO
def upd (H:Hp)(a:Addr)(o:HO):Hp:=λb=>if b=a then some o else H b
theorem bE {H:Hp}{a:Addr}{o:HO}:upd H a o a=some o:=by unfold upd;rw[vg rfl]
theorem aL {H:Hp}{a b:Addr}{o:HO}(h:b≠a):upd H a o b=H b:=by unfold upd;rw[vh h]
theorem Qp {H:Hp}{a b:Addr}{o u:HO}(h:H a=some o)(h':H b=some u)(d:o≠u):a≠b:=by intro e;subst e;rw[h]at h';exact d (vi h')
theorem eB {H:Hp}{a b:Addr}{o:HO}(h:H a=some o)(h':H b=none):a≠b:=by intro e;subst e;rw[h]at h';cases h'
def TupN (h:Heap)(a:Addr)(l:Array Value):Prop:=∃n,h.get? a=some {cls:=.type "tuple",data:=.seq l n}
theorem TupN.tup {h:Heap}{a:Addr}{l:Array Value}(x:TupN h a l):IsTup h a l:=let⟨n,q⟩:=x;⟨_,q,rfl,n,rfl⟩
theorem TupN.new (h:Heap)(l:Array Value):TupN (h.push {cls:=.type "tuple",data:=.seq l}) h.objs.size l:=⟨_,bw _ rfl⟩
def Qq (h:Heap)(a:Addr)(l:Array Value):Prop:=∃o n,h.get? a=some o/\o.cls=.type "tuple"/\o.dict=none/\o.data=.seq l n
section
variable (P:bx)(w:World)
def z12 (H:Hp)(h:Heap)(a:Addr):HO->Prop
 |.lst xs=>xs.length<=bc/\∃(its:List Value) (n:Nat),Vals xs its/\h.get? a=some {cls:=.type "list",data:=.seq its.toArray n}
 |.tup xs=>xs.length<=bc/\∃its:List Value,Vals xs its/\TupN h a its.toArray
 |.dK kvs=>kvs.length<=bc/\(a==ja)=false/\∃vs,KV kvs vs/\h.DictOf (z0k P w) a vs
 |.dT kvs=>kvs.length<=bc/\(a==ja)=false/\∃xs:List (List Key×Addr×Value),
  jt (λ(p:List Key×V) (q:List Key×Addr×Value)=>p.1=q.1/\H q.2.1=some (.tup (p.1.map kV))/\RelV p.2 q.2.2) kvs xs/\
  ∃o es ep,h.get? a=some o/\o.ExactDict/\o.data=.dict es ep/\es.toList=xs.map (entryOfKey (n8 (z0k P w)))/\(xs.map (·.1)).Nodup
 |.set S n=>h.SetOf (intKind P w) a S n
 |.ins C dx fs=>H dx=some (.own a)/\fs.length<=1000/\dx≠a/\h.get? a=some (W.instObj C dx)/\∃mA,h.Ns1 dx mA/\(∀f,dB (fs.lookup f) (mA f))/\PySem.Within mA (fs.map (·.1))
 |.own _=>∃o,h.get? a=some o
 |.xd fs=>∃mA,h.Ns1 a mA/\∀f,dB (fs.lookup f) (mA f)
 |.fL o u=>h.get? a=some o/\z12 H h a u
 |.nI ps=>h.get? a=some {cls:=.none,data:=.fields ps}
 |.ext φ=>φ h/\(∃o,h.get? a=some o)/\∀h1 h2:Heap,φ h1->(∀o,h1.get? a=some o->h2.get? a=some o)->φ h2
def HOk (H:Hp)(h:Heap):Prop:=∀a o,H a=some o->z12 P w H h a o
end
section
variable {P:bx}{w:World}{H H':Hp}{h h':Heap}{a:Addr}{o:HO}
theorem z12.lt (x:z12 P w H h a o):a<h.objs.size:=by
 cases o with
 |lst xs=>obtain⟨_,_,_,_,e⟩:=x;exact bt e
 |tup xs=>obtain⟨_,_,_,_,q⟩:=x;exact bt q
 |dK kvs=>obtain⟨_,_,_,_,o,_,_,e,_⟩:=x;exact bt e
 |dT kvs=>obtain⟨_,_,_,_,o,_,_,e,_⟩:=x;exact bt e
 |set S n=>obtain⟨o,_,_,_,e,_⟩:=x;exact bt e
 |ins C dx fs=>obtain⟨_,_,_,e,_⟩:=x;exact bt e
 |own y=>obtain⟨_,e⟩:=x;exact bt e
 |xd fs=>obtain⟨_,⟨_,_,_,e,_⟩,_⟩:=x;exact bt e
 |fL ob u=>obtain⟨e,_⟩:=x;exact bt e
 |nI ps=>exact bt (show h.get? a=some _ from x)
 |ext φ=>obtain⟨_,⟨_,e⟩,_⟩:=x;exact bt e
theorem Paired.uS {α β:Type}{F G:α->β->Prop}:∀{yW:List α} {yX:List β},jt F yW yX->(∀a b,F a b->G a b)->jt G yW yX
 |_,_,.nil,_=>.nil
 |_,_,.cons r t,f=>.cons (f _ _ r) (Paired.uS t f)
theorem z12.stay (x:z12 P w H h a o)(k:∀b u,(b=a\/H b=some (.own a))->h.get? b=some u->h'.get? b=some u)
  (ho:∀b,H b=some (.own a)->H' b=some (.own a)) (ht:∀b xs,H b=some (.tup xs)->H' b=some (.tup xs)):z12 P w H' h' a o:=by
 induction o with
 |lst xs=>obtain⟨z,its,n,r,e⟩:=x;exact⟨z,its,n,r,k _ _ (.inl rfl) e⟩
 |tup xs=>obtain⟨z,l,r,n,q⟩:=x;exact⟨z,l,r,n,k _ _ (.inl rfl) q⟩
 |dK kvs=>obtain⟨z,y,vs,r,ob,es,ep,e,c⟩:=x;exact⟨z,y,vs,r,ob,es,ep,k _ _ (.inl rfl) e,c⟩
 |dT kvs=>obtain⟨z,y,xs,r,ob,es,ep,e,c⟩:=x;exact⟨z,y,xs,Paired.uS r λp q z=>⟨z.1,ht _ _ z.2.1,z.2.2⟩,ob,es,ep,k _ _ (.inl rfl) e,c⟩
 |set S n=>obtain⟨ob,es,ep,t,e,c⟩:=x;exact⟨ob,es,ep,t,k _ _ (.inl rfl) e,c⟩
 |ins C dx fs=>obtain⟨d,z,ne,e,mA,⟨od,es,ep,e2,c⟩,r⟩:=x;exact⟨ho _ d,z,ne,k _ _ (.inl rfl) e,mA,⟨od,es,ep,k _ _ (.inr d) e2,c⟩,r⟩
 |own y=>obtain⟨ob,e⟩:=x;exact⟨ob,k _ _ (.inl rfl) e⟩
 |xd fs=>obtain⟨mA,⟨od,es,ep,e,c⟩,r⟩:=x;exact⟨mA,⟨od,es,ep,k _ _ (.inl rfl) e,c⟩,r⟩
 |fL ob u ih=>obtain⟨e,q⟩:=x;exact⟨k _ _ (.inl rfl) e,ih q⟩
 |nI ps=>have e:h.get? a=some {cls:=.none,data:=.fields ps}:=x;show h'.get? a=some {cls:=.none,data:=.fields ps};exact k a _ (.inl rfl) e
 |ext φ=>obtain⟨p,⟨o,e⟩,st⟩:=x;exact⟨st _ _ p λo q=>k _ _ (.inl rfl) q,⟨o,k _ _ (.inl rfl) e⟩,st⟩
theorem HOk.lt (x:HOk P w H h)(e:H a=some o):a<h.objs.size:=(x a o e).lt
theorem HOk.fresh (x:HOk P w H h)(e:h.objs.size<=a):H a=none:=by
 cases q:H a with
 |none=>rfl
 |some u=>exact absurd (cb (x.lt q) e) (cy _)
theorem HOk.kept (x:HOk P w H h)(k:∀b u,h.get? b=some u->h'.get? b=some u):HOk P w H h':=λa o e=>(x a o e).stay (λb u _ q=>k b u q) (λ_ q=>q) λ_ _ q=>q
theorem HOk.laid (x:HOk P w H h)(k:∀b u,h.get? b=some u->h'.get? b=some u)(hp:h.objs.size<=a)(new:z12 P w (upd H a o) h' a o):HOk P w (upd H a o) h':=λb u e=>by
 have hn:=x.fresh hp;by_cases hb:b=a
 ·subst hb;rw[bE]at e;cases e;exact new
 ·rw[aL hb]at e;exact(x b u e).stay (λc v _ q=>k c v q) (λc q=>by rw[aL (eB q hn)];exact q) λc xs q=>by rw[aL (eB q hn)];exact q
end
def Rd (H:Hp)(a:Addr)(u:HO):Prop:=H a=some u\/∃o,H a=some (.fL o u)
theorem Rd.ok {P:bx}{w:World}{H:Hp}{h:Heap}{a:Addr}{u:HO}(r:Rd H a u)(x:HOk P w H h):z12 P w H h a u:=by
 rcases r with r|⟨o,r⟩
 ·exact x a u r
 ·obtain⟨_,q⟩:=x a _ r;exact q
def Mut:Option HO->Prop
 |some (.lst _)=>True
 |some (.dK _)=>True
 |some (.dT _)=>True
 |some (.set _ _)=>True
 |some (.ins _ _ _)=>True
 |some (.ext _)=>True
 |_=>False
section
variable {P:bx}{w:World}{H:Hp}{h h':Heap}{x e:Addr}{o':HO}
theorem HOk.write (ok:HOk P w H h)(mu:Mut (H x))(he:e=x\/H e=some (.own x))(k:∀b u,b≠e->h.get? b=some u->h'.get? b=some u)(heo:∃u,h'.get? e=some u)
  (new:z12 P w (upd H x o') h' x o'):HOk P w (upd H x o') h':=λb u q=>by
 have yY:∀c y,H c=some (.own y)->c≠x:=λc y r z=>by subst z;rw[r]at mu;exact mu
 have Eh:∀c xs,H c=some (.tup xs)->c≠x:=λc xs r z=>by subst z;rw[r]at mu;exact mu
 by_cases hb:b=x
 ·subst hb;rw[bE]at q;cases q;exact new
 ·rw[aL hb]at q;by_cases uU:b=e
  ·have q':H b=some (.own x):=by
    rcases he with z|z
    ·exact absurd (uU.trans z) hb
    ·rw[uU];exact z
   rw[q]at q';cases q';obtain⟨v,hv⟩:=heo;exact⟨v,by rw[uU];exact hv⟩
  ·refine(ok b u q).stay (λc v hc r=>k c v ?_ r) (λc r=>by rw[aL (yY c b r)];exact r) λc xs r=>by rw[aL (Eh c xs r)];exact r
   rcases hc with rfl|hc
   ·exact uU
   ·rintro rfl
    rcases he with z|z
    ·exact yY c b hc z
    ·rw[hc]at z;cases z;exact hb rfl
end
structure Un (fs ex:List Addr)(H H':Hp)(h h':Heap):Prop where
 keep:∀b o,h.get? b=some o->H b=none->b∉fs->b∉ex->h'.get? b=some o
 slot:∀b o,h.get? b=some o->H b=none->b∈fs->b∉ex->∃sl,h'.get? b=some {o with slots:=sl}
 free:∀b o,h.get? b=some o->H b=none->b∉ex->H' b=none
 there:∀b o,h.get? b=some o->b∉ex->∃o',h'.get? b=some o'
 cT:∀b xs,H b=some (.tup xs)->H' b=some (.tup xs)
 cL:∀b o u,H b=some (.fL o u)->H' b=some (.fL o u)
 cU:∀b ps,H b=some (.nI ps)->∃more,H' b=some (.nI (ps++more))
section
variable {fs Qr ex ex':List Addr}{H H1 H2:Hp}{h h1 h2 h':Heap}{a x e:Addr}{o:HO}
theorem Un.any (u:Un fs ex H H1 h h1){b:Addr}{ob:Obj}(q:h.get? b=some ob)(n:H b=none)(hx:b∉ex):∃sl,h1.get? b=some {ob with slots:=sl}:=by
 by_cases hb:b∈fs
 ·exact u.slot b ob q n hb hx
 ·exact⟨ob.slots,u.keep b ob q n hb hx⟩
theorem Un.kept (k:∀b u,h.get? b=some u->h'.get? b=some u):Un fs ex H H h h':=⟨λb ob q _ _ _=>k b ob q,λb ob q _ _ _=>⟨ob.slots,k b ob q⟩,λ_ _ _ n _=>n,λb ob q _=>⟨ob,k b ob q⟩,λ_ _ q=>q,λ_ _ _ q=>q,λ_ ps q=>⟨#[],by rw[q];simp⟩⟩
theorem Un.refl:Un fs ex H H h h:=Un.kept λ_ _ q=>q
theorem Un.laid (k:∀b u,h.get? b=some u->h'.get? b=some u)(hp:h.objs.size<=a)(hn:H a=none):Un fs ex H (upd H a o) h h' where
 keep:=λb u q _ _ _=>k b u q
 slot:=λb u q _ _ _=>⟨u.slots,k b u q⟩
 free:=λb u q n _=>by rw[aL (cw (cb (bt q) hp))];exact n
 there:=λb u q _=>⟨u,k b u q⟩
 cT:=λb xs q=>by rw[aL (eB q hn)];exact q
 cL:=λb u xs q=>by rw[aL (eB q hn)];exact q
 cU:=λb ps q=>⟨#[],by rw[aL (eB q hn),q];simp⟩
theorem Un.write (mu:Mut (H x))(he:e=x\/H e=some (.own x))(k:∀b u,b≠e->h.get? b=some u->h'.get? b=some u)(heo:∃u,h'.get? e=some u):Un fs ex H (upd H x o) h h':=by
 have hx:∀b,H b=none->b≠x:=λb n z=>by subst z;rw[n]at mu;exact mu
 have hb:∀b,H b=none->b≠e:=λb n z=>by
  subst z;rcases he with r|r
  ·exact hx b n r
  ·rw[n]at r;cases r
 have hm:∀b u,H b=some u->¬Mut (some u)->b≠x:=λb u q nm z=>by subst z;rw[q]at mu;exact nm mu
 refine⟨λb u q n _ _=>k b u (hb b n) q,λb u q n _ _=>⟨u.slots,k b u (hb b n) q⟩,λb u q n _=>by rw[aL (hx b n)];exact n,λb u q _=>?_,λb xs q=>by rw[aL (hm b _ q λz=>z)];exact q,λb u xs q=>by rw[aL (hm b _ q λz=>z)];exact q,λb ps q=>⟨#[],by rw[aL (hm b _ q λz=>z),q];simp⟩⟩;by_cases uU:b=e
 ·subst uU;exact heo
 ·exact⟨u,k b u uU q⟩
end
def BU (h:Heap)(H:Hp):List Addr:=(cn h.objs.size).filter λa=>(H a).isSome
def gF (h:Heap)(H:Hp):Heap:=W.hideAll h (BU h H)
theorem Qs (h:Heap)(H:Hp):(gF h H).objs.size=h.objs.size:=W.hideAll_size _ _
theorem Qt {h:Heap}{H:Hp}{b:Addr}{o:Obj}(e:h.get? b=some o)(n:H b=none):(gF h H).get? b=some o:=W.hideAll_get _ e λhm=>by have q:(H b).isSome=true:=(g7.mp hm).2;rw[n]at q;simp at q
theorem Qu {h:Heap}{H:Hp}{b:Addr}{o:Obj}(e:(gF h H).get? b=some o):h.get? b=some o/\H b=none:=by
 have e':h.get? b=some o:=W.of_hideAll (BU h H) e;refine⟨e',?_⟩;cases q:H b with
 |none=>rfl
 |some x=>have hm:b∈BU h H:=g7.mpr ⟨gp.mpr (bt e'),by simp[q]⟩;have z:(gF h H).get? b=none:=W.hideAll_none (BU h H) hm;rw[z]at e;cases e
def BV (g h:Heap)(L:Addr):List (Addr×Obj):=(cn h.objs.size).filterMap λa=>if a=L\/(g.get? a).isSome=true then none else(h.get? a).map λo=>(a,o)
theorem Qv {g h:Heap}{L a:Addr}{o:Obj}(h1:a≠L)(h2:g.get? a=none)(h3:h.get? a=some o):(a,o)∈BV g h L:=jb.mpr ⟨a,gp.mpr (bt h3),by simp[h1,h2,h3]⟩
theorem Qw {g h:Heap}{L:Addr}{p:Addr×Obj}(hp:p∈BV g h L):p.1≠L/\g.get? p.1=none/\h.get? p.1=some p.2:=by
 obtain⟨b,_,e⟩:=jb.mp hp;split at e
 ·cases e
 ·rename_i hn;cases q:h.get? b with
  |none=>rw[q]at e;simp at e
  |some u=>
   rw[q]at e;simp only[Option.map_some,Option.some.injEq]at e;subst e;refine⟨λz=>hn (.inl z),?_,q⟩;show g.get? b=none;cases r:g.get? b with
   |none=>rfl
   |some v=>exact(hn (.inr (by simp[r]))).elim
def rest (g h:Heap)(L d:Addr):List (Addr×Obj):=(BV g h L).filter λp=>decide (p.1≠d)
theorem Ka {g h:Heap}{L d:Addr}:∀p∈rest g h L d,p.1≠d:=λp hp=>vm (g7.mp hp).2
theorem Qx {g h:Heap}{L d a:Addr}{o:Obj}(h1:a≠L)(h2:g.get? a=none)(h3:h.get? a=some o)(h4:a≠d):(a,o)∈rest g h L d:=g7.mpr ⟨Qv h1 h2 h3,vn h4⟩
theorem Qy {g h:Heap}{L:Addr}:News g L h (BV g h L):=λp hp=>let⟨a,b,c⟩:=Qw hp;⟨c,a,b⟩
theorem pW {g h:Heap}{L d:Addr}{o:Obj}(h1:d≠L)(h2:g.get? d=none)(h3:h.get? d=some o):News g L h ((d,o)::rest g h L d):=λp hp=>by
 rcases ak.mp hp with rfl|hp
 ·exact⟨h3,h1,h2⟩
 ·exact Qy p (g7.mp hp).1
theorem z6i {g h h':Heap}{L d:Addr}{m:Str->Option Value}(k:∀b o,g.get? b=some o->h.get? b=some o)(F:Fr g L h' m)(N:News g L h' (rest g h L d)):
  ∀b o,b≠L->b≠d->h.get? b=some o->h'.get? b=some o:=λb o h1 h2 e=>by
 cases q:g.get? b with
 |some u=>have:=k b u q;rw[e]at this;cases this;exact F.keep b _ q
 |none=>exact(N (b,o) (Qx h1 q e h2)).1
structure Mod (K:W.Frag)(mg:Str->Option Value)(base:Heap):Prop where
 Ei:K.In base
 glob:base.Ns bz mg
 blt:∃mb,base.Ns ur mb/\∀x:Str,x≠"__name__"->mb x=dg x
 nolimit:base.NoLimit
structure Cx where
 prog:bx
 w:World
 K:W.Frag
 mg:Str->Option Value
 base:Heap
 A:d7
 N:List Str
 s₀:af
 iH:Hp
 env:Env
 outer:List Env
 stack:List Env
 ex:List Addr
 fn:Str->Bool
 calm:Bool
 pn:List (Addr×Obj)
 xe:Value->af->Prop
 fx:List (Str×Value):=[]
def frs (l:List Env):List Addr:=l.filterMap (·.frame)
abbrev Cx.fs (X:Cx):List Addr:=frs X.outer
def Vis (sc:Scope)(x:Str):Prop:=sc.names.lookup x=some .local\/sc.names.lookup x=some .cell\/sc.names.lookup x=some .free
def Loc (sc:Scope)(x:Str):Prop:=sc.names.lookup x=some .local\/sc.names.lookup x=some .cell
def Look (env:Env)(h:Heap)(m:Str->Option Value)(x:Str)(u:Value):Prop:=(env.kindOf x=some .local/\m x=some u)\/((env.kindOf x=some .cell\/env.kindOf x=some .free)/\∃c,env.cells.lookup x=some c/\h.IsCell c (some u))
def Sto (X:Cx)(x:Str):Prop:=(X.fn x=true\/X.env.scope.names.lookup x=some .local)/\∀u,(x,u)∉X.fx
structure Cx.Ok (X:Cx):Prop where
 mod:Mod X.K X.mg X.base
 kind:X.env.scope.kind=.function
 glob:X.env.globals=bz
 blt:X.env.builtins=ur
 above:X.s₀.heap.objs.size<=X.env.locals
 inj:∀x y c,X.env.cells.lookup x=some c->X.env.cells.lookup y=some c->x=y
 has:∀x,(X.env.kindOf x=some .cell\/X.env.kindOf x=some .free)->∃c,X.env.cells.lookup x=some c
 sQ:∀x c,X.fn x=true->X.env.cells.lookup x=some c->X.s₀.heap.objs.size<=c
 hd:X.calm=true->X.A.handled=none
 frames:X.A.frames=some X.stack
 uV:X.stack=X.outer\/(X.stack=X.env::X.outer/\X.env.frame=some X.env.locals)
 uW:∀b∈X.ex,b≠X.env.locals/\∀x c,X.env.cells.lookup x=some c->c≠b
 bs:∀b o,X.base.get? b=some o->X.s₀.heap.get? b=some o/\X.iH b=none
 kW:X.base.objs.size<=X.s₀.heap.objs.size
 iI:∀b o,X.base.get? b=some o->b∉X.ex
 iJ:∀b∈X.ex,b∉X.fs
 cV:X.s₀.heap.FunFrames X.base X.outer
 pX:∀b∈X.fs,X.iH b=none
 BW:∀x u,(x,u)∈X.fx->X.env.scope.names.lookup x=some .local
structure Inv (X:Cx)(pins:List (Addr×Obj))(Y:List (Option V))(H:Hp)(s:af):Prop where
 ok:X.Ok
 os:s.os=X.s₀.os
 bare:ml s.gens
 base:Un X.fs X.ex X.iH H X.s₀.heap s.heap
 loc:∃m,s.heap.Ns X.env.locals m/\∀(i:Nat) (x:Str) (v:V),X.N[i]?=some x->Y[i]?=some (some v)->Vis X.env.scope x->∃u,RelV v u/\Look X.env s.heap m x u
 cell:∀x c,X.env.cells.lookup x=some c->∃v,s.heap.IsCell c v
 free:H X.env.locals=none
 bF:∀x c,X.env.cells.lookup x=some c->H c=none
 pin:∀p∈X.pn++pins,s.heap.get? p.1=some p.2/\H p.1=none/\p.1≠X.env.locals/\p.1∉X.fs/\∀v,p.2.data≠.cell v
 hok:HOk X.prog X.w H s.heap
 len:Y.length=X.N.length
 fx:∀x u,(x,u)∈X.fx->∃m,s.heap.Ns X.env.locals m/\m x=some u
section
variable {X:Cx}{pins:List (Addr×Obj)}{Y:List (Option V)}{H H':Hp}{s:af}{h':Heap}
theorem Cx.Ok.yZ (ok:X.Ok){b:Addr}{o:Obj}(e:X.base.get? b=some o):b∉X.fs:=λhb=>by have:=(ok.cV.mem hb).1;rw[e]at this;cases this
theorem Inv.bs (I:Inv X pins Y H s):∀b o,X.base.get? b=some o->s.heap.get? b=some o/\H b=none:=λb o e=>⟨I.base.keep b o (I.ok.bs b o e).1 (I.ok.bs b o e).2 (I.ok.yZ e) (I.ok.iI b o e),I.base.free b o (I.ok.bs b o e).1 (I.ok.bs b o e).2 (I.ok.iI b o e)⟩
theorem Inv.bk (I:Inv X pins Y H s):∀b o,X.base.get? b=some o->s.heap.get? b=some o:=λb o e=>(I.bs b o e).1
theorem Inv.mod (I:Inv X pins Y H s):Mod X.K X.mg X.base:=I.ok.mod
theorem Inv.fF (I:Inv X pins Y H s):X.K.In s.heap:=I.ok.mod.Ei.keeps I.bk
theorem Inv.fr (I:Inv X pins Y H s):∃m,Fr X.base X.env.locals s.heap m:=
 let⟨m,hn,_⟩:=I.loc
 ⟨m,hn,I.bk,cg I.ok.kW I.ok.above⟩
theorem Inv.lt (I:Inv X pins Y H s):X.env.locals<s.heap.objs.size:=let⟨_,hn,_⟩:=I.loc;hn.lt
theorem Inv.sz (I:Inv X pins Y H s):X.s₀.heap.objs.size<=s.heap.objs.size:=cg I.ok.above (jc I.lt)
theorem Inv.y4 (I:Inv X pins Y H s){a:Addr}(h:s.heap.objs.size<=a):a∉X.fs:=λhb=>by obtain⟨_,o,ho,_⟩:=I.ok.cV.mem hb;exact absurd (cb (bt ho) (cg I.sz h)) (cy _)
theorem Inv.mO (I:Inv X pins Y H s):∀x c,X.env.cells.lookup x=some c->c≠X.env.locals:=λx c e z=>by obtain⟨v,o,ho,hd⟩:=I.cell x c e;obtain⟨m,⟨o',es,ep,ho',iY,_⟩,_⟩:=I.loc;rw[z,ho']at ho;cases ho;rw[iY]at hd;cases hd
theorem Inv.cV (I:Inv X pins Y H s):s.heap.FunFrames X.base X.outer:=by
 have all:∀(l:List Env),(∀b∈frs l,b∈X.fs)->X.s₀.heap.FunFrames X.base l->s.heap.FunFrames X.base l:=by
  intro l
  induction l with
  |nil=>intro _ _;trivial
  |cons env r ih=>intro hs hl;obtain⟨hk,⟨L,o,hf,hn,ho,hd⟩,hr⟩:=hl;have hL:L∈X.fs:=hs L (by unfold frs;rw[cx,hf];exact az);obtain⟨sl,e⟩:=I.base.slot L o ho (I.ok.pX L hL) hL λz=>I.ok.iJ L z hL;exact⟨hk,⟨L,_,hf,hn,e,hd⟩,ih (λb hb=>hs b (by unfold frs;rw[cx,hf];exact bn _ hb)) hr⟩
 exact all X.outer (λ_ hb=>hb) I.ok.cV
theorem Inv.stack (I:Inv X pins Y H s):s.heap.FunFrames X.base X.stack:=by
 rcases I.ok.uV with e|⟨e,hf⟩
 ·rw[e];exact I.cV
 ·rw[e];obtain⟨m,hn,_⟩:=I.loc;refine .cons (by rw[I.ok.kind];decide) hf hn ?_ I.cV;exact lr (cg I.ok.kW I.ok.above)
theorem Inv.gG (I:Inv X pins Y H s):∀b∈frs X.stack,b∈X.env.locals::X.fs:=λb hb=>by
 rcases I.ok.uV with e|⟨e,hf⟩
 ·rw[e]at hb;exact bn _ hb
 ·rw[e]at hb;unfold frs at hb;rw[cx,hf]at hb;exact hb
theorem Inv.gI (I:Inv X pins Y H s):∀b∈frs X.stack,H b=none:=λb hb=>by
 rcases ak.mp (I.gG b hb)with e|hb
 ·rw[e];exact I.free
 ·obtain⟨_,o,ho,_⟩:=I.ok.cV.mem hb;exact I.base.free b o ho (I.ok.pX b hb) λz=>I.ok.iJ b z hb
theorem Inv.step {g':Array pq}{t':Nat}{d':Drawn}{ch:List Addr}(I:Inv X pins Y H s)
  (pD:∀b∈ch,(b∈X.ex\/X.s₀.heap.objs.size<=b)/\b≠X.env.locals/\(∀x c,X.env.cells.lookup x=some c->c≠b)/\∀p∈X.pn++pins,p.1≠b)
  (keep:∀b o,b≠X.env.locals->b∉X.fs->b∉ch->s.heap.get? b=some o->H b=none->h'.get? b=some o)
  (slot:∀b o,b≠X.env.locals->b∈X.fs->b∉ch->s.heap.get? b=some o->H b=none->∃sl,h'.get? b=some {o with slots:=sl}) (free:∀b o,b∉ch->s.heap.get? b=some o->H b=none->H' b=none)
  (there:∀b o,b∉ch->s.heap.get? b=some o->∃o',h'.get? b=some o')
  (cT:∀b xs,H b=some (.tup xs)->H' b=some (.tup xs)) (cL:∀b o u,H b=some (.fL o u)->H' b=some (.fL o u)) (cU:∀b ps,H b=some (.nI ps)->∃more,H' b=some (.nI (ps++more)))
  (ns:∀m,s.heap.Ns X.env.locals m->h'.Ns X.env.locals m) (hok:HOk X.prog X.w H' h') (hg:ml g'):
  Inv X pins Y H' {s with heap:=h',gens:=g',drawn:=d',toks:=t'}:=by
 have Kb:∀b o,X.s₀.heap.get? b=some o->b≠X.env.locals:=λb o e=>cw (cb (bt e) I.ok.above)
 have BX:∀b o,X.s₀.heap.get? b=some o->b∉X.ex->b∉ch:=λb o e hx hb=>by
  rcases(pD b hb).1 with z|z
  ·exact hx z
  ·exact absurd (cb (bt e) z) (cy _)
 have cellK:∀x c,X.env.cells.lookup x=some c->∀v,s.heap.IsCell c v->h'.IsCell c v:=λx c e v ⟨o,ho,hd⟩=>by
  have y6:c∉ch:=λz=>(pD c z).2.2.1 x c e rfl;by_cases hc:c∈X.fs
  ·obtain⟨sl,q⟩:=slot c o (I.mO x c e) hc y6 ho (I.bF x c e);exact⟨_,q,hd⟩
  ·exact⟨o,keep c o (I.mO x c e) hc y6 ho (I.bF x c e),hd⟩
 refine⟨I.ok,I.os,hg,⟨λb o e n hb hx=>?_,λb o e n hb hx=>?_,λb o e n hx=>?_,λb o e hx=>?_,λb xs e=>cT b xs (I.base.cT b xs e),λb o xs e=>cL b o xs (I.base.cL b o xs e),λb ps e=>?_⟩,?_,λx c e=>?_,?_,λx c e=>?_,λp hp=>?_,hok,I.len,λx u e=>let⟨m,hn,q⟩:=I.fx x u e;⟨m,ns m hn,q⟩⟩
 ·exact keep b o (Kb b o e) hb (BX b o e hx) (I.base.keep b o e n hb hx) (I.base.free b o e n hx)
 ·obtain⟨sl,e1⟩:=I.base.slot b o e n hb hx;obtain⟨y7,e2⟩:=slot b _ (Kb b o e) hb (BX b o e hx) e1 (I.base.free b o e n hx);exact⟨y7,e2⟩
 ·obtain⟨o',e1⟩:=I.base.there b o e hx;exact free b o' (BX b o e hx) e1 (I.base.free b o e n hx)
 ·obtain⟨o',e1⟩:=I.base.there b o e hx;exact there b o' (BX b o e hx) e1
 ·obtain⟨m1,e1⟩:=I.base.cU b ps e;obtain⟨m2,e2⟩:=cU b _ e1;exact⟨m1++m2,by rw[e2,qy]⟩
 ·obtain⟨m,hn,hl⟩:=I.loc;refine⟨m,ns m hn,λi x v e1 e2 e3=>?_⟩;obtain⟨u,r,l⟩:=hl i x v e1 e2 e3;refine⟨u,r,?_⟩;rcases l with l|⟨k,c,e,z⟩
  ·exact .inl l
  ·exact .inr ⟨k,c,e,cellK x c e _ z⟩
 ·obtain⟨v,z⟩:=I.cell x c e;exact⟨v,cellK x c e v z⟩
 ·obtain⟨m,⟨o,_,_,ho,_⟩,_⟩:=I.loc;exact free _ o (λz=>(pD _ z).2.1 rfl) ho I.free
 ·obtain⟨v,o,ho,hd⟩:=I.cell x c e;exact free c o (λz=>(pD c z).2.2.1 x c e rfl) ho (I.bF x c e)
 ·obtain⟨e,n,ne,nf,d⟩:=I.pin p hp;have y6:p.1∉ch:=λz=>(pD p.1 z).2.2.2 p hp rfl;exact⟨keep p.1 p.2 ne nf y6 e n,free p.1 p.2 y6 e n,ne,nf,d⟩
theorem Inv.un {t':Nat}(I:Inv X pins Y H s)(u:Un X.fs [] H H' s.heap h')(hok:HOk X.prog X.w H' h'):Inv X pins Y H' {s with heap:=h',toks:=t'}:=by obtain⟨m,⟨o,es,ep,ho,r⟩,_⟩:=id I.loc;obtain⟨sl,hL⟩:=u.any ho I.free (by simp);exact I.step (g':=s.gens) (d':=s.drawn) (ch:=[]) (λ_ z=>nomatch z) (λb o _ hb _ e n=>u.keep b o e n hb (by simp)) (λb o _ hb _ e n=>u.slot b o e n hb (by simp)) (λb o _ e n=>u.free b o e n (by simp)) (λb o _ e=>u.there b o e (by simp)) u.cT u.cL u.cU (λm' hm=>by obtain⟨o',es',xR,ho',r'⟩:=hm;rw[ho]at ho';cases ho';exact⟨_,es',xR,hL,r'⟩) hok I.bare
theorem Inv.call {g':Array pq}{t':Nat}{d':Drawn}{ch:List Addr}(I:Inv X pins Y H s)(u:Un (frs X.stack) ch H H' s.heap h')(hok:HOk X.prog X.w H' h')(hg:ml g')
  (pD:∀b∈ch,(b∈X.ex\/X.s₀.heap.objs.size<=b)/\b≠X.env.locals/\(∀x c,X.env.cells.lookup x=some c->c≠b)/\∀p∈X.pn++pins,p.1≠b):
  Inv X pins Y H' {s with heap:=h',gens:=g',drawn:=d',toks:=t'}:=by
 obtain⟨m,⟨o,es,ep,ho,r⟩,_⟩:=id I.loc;obtain⟨sl,hL⟩:=u.any ho I.free λz=>(pD _ z).2.1 rfl;exact I.step (ch:=ch) pD (λb o hL hb hc e n=>u.keep b o e n (λz=>(ak.mp (I.gG b z)).elim hL hb) hc) (λb o _ _ hc e n=>u.any e n hc) (λb o hc e n=>u.free b o e n hc) (λb o hc e=>u.there b o e hc) u.cT u.cL u.cU (λm' hm=>by obtain⟨o',es',xR,ho',r'⟩:=hm;rw[ho]at ho';cases ho';exact⟨_,es',xR,hL,r'⟩) hok hg
theorem Inv.turned {t':Nat}{it:Addr}(I:Inv X pins Y H s)(k:∀b o,b≠it->s.heap.get? b=some o->h'.get? b=some o)(hn:H it=none)(hL:it≠X.env.locals)
  (h1:it∈X.ex\/X.s₀.heap.objs.size<=it) (h2:∀x c,X.env.cells.lookup x=some c->c≠it) (h3:∀p∈X.pn++pins,p.1≠it):Inv X pins Y H {s with heap:=h',toks:=t'}:=by
 have Kc:∀b u,H b=some u->b≠it:=λb u e z=>by rw[z,hn]at e;cases e
 refine I.step (g':=s.gens) (d':=s.drawn) (ch:=[it]) (λb hb=>?_) (λb o _ _ hc e _=>k b o (λz=>hc (by simp[z])) e) (λb o _ _ hc e _=>⟨o.slots,k b o (λz=>hc (by simp[z])) e⟩) (λ_ _ _ _ n=>n) (λb o hc e=>⟨o,k b o (λz=>hc (by simp[z])) e⟩) (λ_ _ e=>e) (λ_ _ _ e=>e) (λb ps e=>⟨#[],by rw[e];simp⟩) (λm hm=>?_) (λb u e=>?_) I.bare
 ·have e:b=it:=by simpa using hb
  subst e;exact⟨h1,hL,h2,h3⟩
 ·obtain⟨o,es,ep,ho,r⟩:=hm;exact⟨o,es,ep,k _ o (Ne.symm hL) ho,r⟩
 ·refine(I.hok b u e).stay (λc v hc q=>k c v ?_ q) (λ_ q=>q) λ_ _ q=>q;rcases hc with z|z
  ·rw[z];exact Kc b u e
  ·exact Kc c _ z
theorem Inv.tok (I:Inv X pins Y H s)(t:Nat):Inv X pins Y H {s with toks:=t}:=I.un (h':=s.heap) (t':=t) Un.refl I.hok
theorem Inv.kept {t':Nat}(I:Inv X pins Y H s)(k:∀b u,s.heap.get? b=some u->h'.get? b=some u):Inv X pins Y H {s with heap:=h',toks:=t'}:=I.un (Un.kept k) (I.hok.kept k)
theorem Inv.laid {a:Addr}{o:HO}{t':Nat}(I:Inv X pins Y H s)(k:∀b u,s.heap.get? b=some u->h'.get? b=some u)(hp:s.heap.objs.size<=a)(new:z12 X.prog X.w (upd H a o) h' a o): Inv X pins Y (upd H a o) {s with heap:=h',toks:=t'}:=I.un (Un.laid k hp (I.hok.fresh hp)) (I.hok.laid k hp new)
theorem Inv.write {x e:Addr}{o:HO}{t':Nat}(I:Inv X pins Y H s)(mu:Mut (H x))(he:e=x\/H e=some (.own x))(k:∀b u,b≠e->s.heap.get? b=some u->h'.get? b=some u)(heo:∃u,h'.get? e=some u) (new:z12 X.prog X.w (upd H x o) h' x o):Inv X pins Y (upd H x o) {s with heap:=h',toks:=t'}:=I.un (Un.write mu he k heo) (I.hok.write mu he k heo new)
theorem Inv.weak {σ':List (Option V)}(I:Inv X pins Y H s)(hl:σ'.length=Y.length)(w:∀(i:Nat) v,σ'[i]?=some (some v)->Y[i]?=some (some v)):Inv X pins σ' H s:=⟨I.ok,I.os,I.bare,I.base,let⟨m,hn,Qz⟩:=I.loc;⟨m,hn,λi x v e1 e2 e3=>Qz i x v e1 (w i v e2) e3⟩,I.cell,I.free,I.bF,I.pin,I.hok,hl.trans I.len,I.fx⟩
theorem Inv.gK {nJ:List (Addr×Obj)}(I:Inv X pins Y H s)(h:∀p∈nJ,s.heap.get? p.1=some p.2/\H p.1=none/\p.1≠X.env.locals/\p.1∉X.fs/\∀v,p.2.data≠.cell v):Inv X nJ Y H s:=⟨I.ok,I.os,I.bare,I.base,I.loc,I.cell,I.free,I.bF,λp hp=>(bo.mp hp).elim (λz=>I.pin p (bu _ z)) (h p),I.hok,I.len,I.fx⟩
theorem QA {h:Heap}{a:Addr}{m m':Str->Option Value}(x:h.Ns a m)(y:h.Ns a m')(n:Str):m n=m' n:=by obtain⟨o,es,ep,e,d,_,f⟩:=x;obtain⟨o',es',xR,e',d',_,f'⟩:=y;rw[e]at e';cases e';rw[d]at d';cases d';rw[<-f n,f' n]
theorem Ej {N:List Str}(hN:N.Nodup){i j:Nat}{x:Str}(a:N[i]?=some x)(b:N[j]?=some x):i=j:=by obtain⟨h1,e1⟩:=aq.mp a;obtain⟨h2,e2⟩:=aq.mp b;exact(List.getElem_inj hN).mp (e1.trans e2.symm)
theorem z4c {M:Model}{A:d7}{E:Value->af->Prop}{i:Nat}{x:Str}{v:V}{u:Value}{Q:Unit->af->Prop}(I:Inv X pins Y H s)(hN:X.N.Nodup)(hi:X.N[i]?=some x)(hx:Loc X.env.scope x)(r:RelV v u)
  (h:∀s',Inv X pins (Y.set i (some v)) H s'->(∃a,g9 a s.heap s'.heap/\(a=X.env.locals\/X.env.cells.lookup x=some a))->Q () s') (hf:Sto X x:=by first|exact⟨.inl rfl,nofun⟩|exact⟨.inr rfl,nofun⟩|assumption):wpAny M A (storeName X.env x u) Q E s:=by
 obtain⟨m,hn,hl⟩:=id I.loc;have Ek:(X.env.scope.kind==.class||(X.env.scope.kind==.module&&X.env.locals != X.env.globals))=false:=by rw[I.ok.kind];rfl
 have y8:i<Y.length:=by rw[I.len];exact(aq.mp hi).1
 have mO:=I.mO
 have tracked:∀{a:Addr} {h':Heap},(∃o,s.heap.get? a=some o/\H a=none)->g9 a s.heap h'->HOk X.prog X.w H h':=λ{a h'} ha hs b ob e=>by
  obtain⟨_,_,eJ⟩:=ha;refine(I.hok b ob e).stay (λc w' hc q=>(hs.2 c ?_).trans q) (λ_ q=>q) λ_ _ q=>q
  rintro rfl
  rcases hc with rfl|hc
  ·rw[eJ]at e;cases e
  ·rw[eJ]at hc;cases hc
 rcases hx with hk|hk
 ·refine wpAny_storeName_local hk hn (λh' hn' hs=>?_) Ek;obtain⟨oL,_,_,hoL,_⟩:=id hn;refine h _ ⟨I.ok,I.os,I.bare,⟨λb o e n hb hx=>?_,λb o e n hb hx=>?_,I.base.free,λb o e hx=>?_,I.base.cT,I.base.cL,I.base.cU⟩,⟨_,hn',λj y v' e1 e2 e3=>?_⟩,λy c e=>?_,I.free,I.bF,λp hp=>?_,tracked ⟨oL,hoL,I.free⟩ hs,by simpa using I.len,λy u e=>by obtain⟨m',hn2,q⟩:=I.fx y u e;refine⟨_,hn',?_⟩;have hy:y≠x:=λz=>hf.2 u (z▸e);have:=QA hn hn2 y;simp[hy,this,q]⟩ ⟨_,hs,.inl rfl⟩
  ·exact(hs.2 b (cw (cb (bt e) I.ok.above))).trans (I.base.keep b o e n hb hx)
  ·obtain⟨sl,e1⟩:=I.base.slot b o e n hb hx;exact⟨sl,(hs.2 b (cw (cb (bt e) I.ok.above))).trans e1⟩
  ·obtain⟨o',e1⟩:=I.base.there b o e hx;exact⟨o',(hs.2 b (cw (cb (bt e) I.ok.above))).trans e1⟩
  ·by_cases hj:j=i
   ·subst hj;rw[hi]at e1;cases e1;rw[cq y8]at e2;cases e2;exact⟨u,r,.inl ⟨hk,by simp⟩⟩
   ·rw[ci (Ne.symm hj)]at e2;obtain⟨u',r',q⟩:=hl j y v' e1 e2 e3;refine⟨u',r',?_⟩;rcases q with⟨k,e⟩|⟨k,c,e,z⟩
    ·refine .inl ⟨k,?_⟩;have:y≠x:=λe=>hj (Ej hN e1 (e▸hi));simp[this,e]
    ·exact .inr ⟨k,c,e,z.sameBut hs (mO y c e)⟩
  ·obtain⟨w',z⟩:=I.cell y c e;exact⟨w',z.sameBut hs (mO y c e)⟩
  ·obtain⟨e,n,ne,nf,d⟩:=I.pin p hp;exact⟨(hs.2 p.1 ne).trans e,n,ne,nf,d⟩
 ·have hfn:X.fn x=true:=by
   rcases hf.1 with z|z
   ·exact z
   ·rw[z]at hk;cases hk
  obtain⟨c,hc⟩:=I.ok.has x (.inl hk);obtain⟨w',z⟩:=I.cell x c hc;refine wpAny_storeName_cell I.ok.kind hk hc z (λh' sR hs=>?_);obtain⟨oc,xS,pY⟩:=id z;refine h {s with heap:=h'} ⟨I.ok,I.os,I.bare,⟨λb o e n hb hx=>?_,λb o e n hb hx=>?_,I.base.free,λb o e hx=>?_,I.base.cT,I.base.cL,I.base.cU⟩,⟨m,hn.sameBut hs (Ne.symm (mO x c hc)),λj y v' e1 e2 e3=>?_⟩,λy c' e=>?_,I.free,I.bF,λp hp=>?_,tracked ⟨oc,xS,I.bF x c hc⟩ hs,by simpa using I.len,λy u e=>let⟨m',hn2,q⟩:=I.fx y u e;⟨m',hn2.sameBut hs (Ne.symm (mO x c hc)),q⟩⟩ ⟨c,hs,.inr hc⟩
  ·exact(hs.2 b (cw (cb (bt e) (I.ok.sQ x c hfn hc)))).trans (I.base.keep b o e n hb hx)
  ·obtain⟨sl,e1⟩:=I.base.slot b o e n hb hx;exact⟨sl,(hs.2 b (cw (cb (bt e) (I.ok.sQ x c hfn hc)))).trans e1⟩
  ·obtain⟨o',e1⟩:=I.base.there b o e hx;exact⟨o',(hs.2 b (cw (cb (bt e) (I.ok.sQ x c hfn hc)))).trans e1⟩
  ·by_cases hj:j=i
   ·subst hj;rw[hi]at e1;cases e1;rw[cq y8]at e2;cases e2;exact⟨u,r,.inr ⟨.inl hk,c,hc,sR⟩⟩
   ·rw[ci (Ne.symm hj)]at e2;obtain⟨u',r',q⟩:=hl j y v' e1 e2 e3;refine⟨u',r',?_⟩;rcases q with q|⟨k,c',e,z'⟩
    ·exact .inl q
    ·refine .inr ⟨k,c',e,z'.sameBut hs ?_⟩
     rintro rfl
     exact hj (Ej hN e1 (I.ok.inj _ _ _ e hc▸hi))
  ·by_cases Ke:c'=c
   ·subst Ke;exact⟨_,sR⟩
   ·obtain⟨w2,z2⟩:=I.cell y c' e;exact⟨w2,z2.sameBut hs Ke⟩
  ·obtain⟨e,n,ne,nf,d⟩:=I.pin p hp;refine⟨(hs.2 p.1 ?_).trans e,n,ne,nf,d⟩;intro q;rw[q,xS]at e;have q':oc=p.2:=vi e;exact d w' (by rw[<-q'];exact pY)
theorem z6g {M:Model}{A:d7}{E:Value->af->Prop}{i:Nat}{x:Str}{v:V}{u:Value}{Q:Unit->af->Prop}(I:Inv X pins Y H s)(hN:X.N.Nodup)(hi:X.N[i]?=some x)(hx:Loc X.env.scope x)(r:RelV v u)
  (h:∀s',Inv X pins (Y.set i (some v)) H s'->Q () s') (hf:Sto X x:=by first|exact⟨.inl rfl,nofun⟩|exact⟨.inr rfl,nofun⟩|assumption):wpAny M A (storeName X.env x u) Q E s:=
 z4c I hN hi hx r (λs' I' _=>h s' I') hf
theorem Inv.call' {s':af}{ch:List Addr}(I:Inv X pins Y H s)(ho:s'.os=s.os)(u:Un (frs X.stack) ch H H' s.heap s'.heap)(hok:HOk X.prog X.w H' s'.heap)(hg:ml s'.gens)
  (pD:∀b∈ch,(b∈X.ex\/X.s₀.heap.objs.size<=b)/\b≠X.env.locals/\(∀x c,X.env.cells.lookup x=some c->c≠b)/\∀p∈X.pn++pins,p.1≠b):Inv X pins Y H' s':=by
 obtain⟨h',g',d',t',o'⟩:=s';have e:o'=s.os:=ho;subst e;exact I.call (g':=g') (t':=t') (d':=d') u hok hg pD
end
abbrev XK:=Value->Option Addr->Hp->Prop
abbrev St:=List (Option V)
abbrev VK:=V->Hp->Prop
abbrev TE:=St->Hp->VK->Prop
abbrev TT:=St->Hp->(Bool->Hp->Prop)->Prop
abbrev TA:=St->Hp->(List V->Hp->Prop)->Prop
structure Ends where
 nx:St->Hp->Prop
 rt:VK
 bk:St->Hp->Prop:=λ_ _=>False
 ct:St->Hp->Prop:=λ_ _=>False
abbrev TS:=Ends->St->Hp->Prop
def EP (X:Cx)(pins:List (Addr×Obj))(Y:St)(Q:VK)(u:Value)(s':af):Prop:=∃v H',Inv X pins Y H' s'/\RelV v u/\Q v H'
def TP (X:Cx)(pins:List (Addr×Obj))(Y:St)(Q:Bool->Hp->Prop)(b:Bool)(s':af):Prop:=∃H',Inv X pins Y H' s'/\Q b H'
def AP (X:Cx)(pins:List (Addr×Obj))(Y:St)(Q:List V->Hp->Prop)(us:List Value)(s':af):Prop:=∃vs H',Inv X pins Y H' s'/\Vals vs us/\Q vs H'
def SP (X:Cx)(pins:List (Addr×Obj))(D:Ends)(f:Flow)(s':af):Prop:=
 match f with
 |.next=>∃σ' H',Inv X pins σ' H' s'/\D.nx σ' H'
 |.brk=>∃σ' H',Inv X pins σ' H' s'/\D.bk σ' H'
 |.cont=>∃σ' H',Inv X pins σ' H' s'/\D.ct σ' H'
 |.ret u=>∃v σ' H',Inv X pins σ' H' s'/\RelV v u/\D.rt v H'
def PE (X:Cx)(e:Expr)(t:TE):Prop:=∀(pins:List (Addr×Obj)) (s:af) (Y:St) (H:Hp) (Q:VK),Inv X pins Y H s->t Y H Q->wpAny (model X.prog X.w) X.A (eval e X.env) (EP X pins Y Q) X.xe s
def PT (X:Cx)(e:Expr)(t:TT):Prop:=∀(pins:List (Addr×Obj)) (s:af) (Y:St) (H:Hp) (Q:Bool->Hp->Prop),Inv X pins Y H s->t Y H Q->wpAny (model X.prog X.w) X.A (ub e X.env (eval e X.env)) (TP X pins Y Q) X.xe s
def PW (X:Cx)(e:Expr)(t:TT):Prop:=∀(whole:Sem Value) (pins:List (Addr×Obj)) (s:af) (Y:St) (H:Hp) (Q:Bool->Hp->Prop),Inv X pins Y H s->t Y H Q->wpAny (model X.prog X.w) X.A (ub e X.env whole) (TP X pins Y Q) X.xe s
theorem PW.pt {X:Cx}{e:Expr}{t:TT}(h:PW X e t):PT X e t:=h _
def PA (X:Cx)(es:List Expr)(t:TA):Prop:=∀(pos:Pos) (pins:List (Addr×Obj)) (s:af) (Y:St) (H:Hp) (Q:List V->Hp->Prop),Inv X pins Y H s->t Y H Q->wpAny (model X.prog X.w) X.A (spliced (l6 pos (d5 es X.env))) (AP X pins Y Q) X.xe s
def PS (X:Cx)(st:Stmt)(t:TS):Prop:=∀(pins:List (Addr×Obj)) (s:af) (Y:St) (H:Hp) (D:Ends),Inv X pins Y H s->t D Y H->wpAny (model X.prog X.w) X.A (exec st X.env) (SP X pins D) X.xe s
def PSs (X:Cx)(st:List Stmt)(t:TS):Prop:=∀(pins:List (Addr×Obj)) (s:af) (Y:St) (H:Hp) (D:Ends),Inv X pins Y H s->t D Y H->wpAny (model X.prog X.w) X.A (execs st X.env) (SP X pins D) X.xe s
theorem aO {α:Type}{t:Sem α}{Q Q':α->af->Prop}{M:Model}{A:d7}{E:Value->af->Prop}{s:af}(h:wpAny M A t Q E s)(hQ:∀a s,Q a s->Q' a s):wpAny M A t Q' E s:=jl h hQ λ_ _ x=>x
section
variable {X:Cx}
theorem bin {a b:Expr}{ta tb:TE}(ha:PE X a ta)(hb:PE X b tb){pins:List (Addr×Obj)}{s:af}{Y:St}{H:Hp}{R:V->V->Hp->Prop}(I:Inv X pins Y H s)(h:ta Y H fun x H1=>tb Y H1 fun y H2=>R x y H2)
  {α:Type} {Q:α->af->Prop} {f:Value->Value->Sem α}
  (hf:∀v u s2 x y H2,Inv X pins Y H2 s2->RelV x v->RelV y u->R x y H2->wpAny (model X.prog X.w) X.A (f v u) Q X.xe s2):
  wpAny (model X.prog X.w) X.A (eval a X.env) (λv s₁=>wpAny (model X.prog X.w) X.A (eval b X.env) (λu jH=>wpAny (model X.prog X.w) X.A (f v u) Q X.xe jH) X.xe s₁) X.xe s:=by
 refine aO (ha pins s Y H _ I h) λv s1 ⟨x,H1,I1,r1,q1⟩=>?_;refine aO (hb pins s1 Y H1 _ I1 q1) λu s2 ⟨y,H2,I2,r2,q2⟩=>?_;exact hf v u s2 x y H2 I2 r1 r2 q2
def y9 (i:Nat):TE:=λY H Q=>∃v,Y[i]?=some (some v)/\Q v H
def tC (v:V):TE:=λ_ H Q=>Q v H
theorem sS {i:Nat}{x:Str}{pos:Pos}(hN:X.N[i]?=some x)(hv:Vis X.env.scope x)(hd:aab x:=by decide)(hcd:(x==("__classdict__":Str))=false:=by decide):PE X (.Name x pos) (y9 i):=by
 intro pins s Y H Q I h;obtain⟨v,e,h⟩:=h;obtain⟨m,hn,hl⟩:=I.loc;obtain⟨u,r,l⟩:=hl i x v hN e hv;have fin:EP X pins Y Q u s:=⟨v,H,I,r,h⟩;rcases l with⟨hk,hm⟩|⟨hk,c,hc,kG⟩
 ·exact qz (pv I.ok.kind hk hn hm fin) hd
 ·rcases hk with hk|hk
  ·exact qz (wpAny_loadName_cell I.ok.kind hk hc kG fin) hd
  ·exact qz (wpAny_loadName_free I.ok.kind hk hc kG fin hcd) hd
theorem QB {i j pos}:PE X (.Constant (.int i) j pos) (tC (.int i)):=λ_ _ _ H _ I h=>wpAny_Constant_int ⟨.int i,H,I.tok _,⟨_,rfl⟩,h⟩
theorem QC {b j pos}:PE X (.Constant (.bool b) j pos) (tC (.bl b)):=λ_ _ _ H _ I h=>Constant_bool ⟨.bl b,H,I,rfl,h⟩
theorem QD {j pos}:PE X (.Constant .none j pos) (tC .bA):=λ_ _ _ H _ I h=>ql ⟨.bA,H,I,rfl,h⟩
theorem QE {x j pos}:PE X (.Constant (.str x) j pos) (tC (.str x)):=λ_ _ _ H _ I h=>Calls.Constant_str ⟨.str x,H,I.tok _,⟨_,rfl⟩,h⟩
def Gl (X:Cx)(x:Str):Prop:=X.env.kindOf x=some .globalImplicit
theorem z82 {E:Value->af->Prop}{pins:List (Addr×Obj)}{s:af}{Y:St}{H:Hp}{x:Str}{u:Value}{pos:Pos}{Q:Value->af->Prop}(I:Inv X pins Y H s)(hg:Gl X x)(hm:X.mg x=some u)(h:Q u s)
  (hd:aab x:=by decide):wpAny (model X.prog X.w) X.A (eval (.Name x pos) X.env) Q E s:=
 jm I.ok.kind hg (n9 (by rw[I.ok.glob];exact I.mod.glob.keeps I.bk) hm h) hd
theorem z38 {E:Value->af->Prop}{pins:List (Addr×Obj)}{s:af}{Y:St}{H:Hp}{x:Str}{u:Value}{pos:Pos}{Q:Value->af->Prop}(I:Inv X pins Y H s)(hg:Gl X x)(hm:X.mg x=none)(hv:dg x=some u)(h:Q u s)
  (hn:x≠"__name__":=by decide) (hd:aab x:=by decide):wpAny (model X.prog X.w) X.A (eval (.Name x pos) X.env) Q E s:=by
 obtain⟨mb,h1,h2⟩:=I.mod.blt;exact jm I.ok.kind hg (Calls.loadGlobal_builtin (by rw[I.ok.glob];exact I.mod.glob.keeps I.bk) hm (by rw[I.ok.blt];exact h1.keeps I.bk) ((h2 x hn).trans hv) h) hd
theorem QF {x:Str}{v:V}{u:Value}{pos:Pos}(hg:Gl X x)(hm:X.mg x=none)(hv:dg x=some u)(r:RelV v u)(hn:x≠"__name__":=by decide)(hd:aab x:=by decide):PE X (.Name x pos) (tC v):=λ_ _ _ H _ I h=>z38 I hg hm hv ⟨v,H,I,r,h⟩ hn hd
variable {a b:Expr}{ta tb:TE}{pos:Pos}
def PC (X:Cx)(op:CmpOp)(a b:Expr)(t:TE):Prop:=∀(pins:List (Addr×Obj)) (s:af) (Y:St) (H:Hp) (Q:VK),Inv X pins Y H s->t Y H Q->wpAny (model X.prog X.w) X.A (eval a X.env) (λv s₁=>wpAny (model X.prog X.w) X.A (eval b X.env) (λu jH=>wpAny (model X.prog X.w) X.A (c0 op v u) (EP X pins Y Q) X.xe jH) X.xe s₁) X.xe s
theorem Kg (b:Expr){op:CmpOp}(h:op≠.In)(h2:op≠.NotIn):dw op b=false:=by
 have e1:(op==CmpOp.In)=false:=by cases op<;>first|rfl|exact absurd rfl h
 have e2:(op==CmpOp.NotIn)=false:=by cases op<;>first|rfl|exact absurd rfl h2
 cases b<;>simp[dw,e1,e2]
def pZ (ta:TE):TE:=λY H Q=>ta Y H λx H1=>Q (.bl (decide (x=.bA))) H1
def BY (ta:TE):TE:=λY H Q=>ta Y H λx H1=>Q (.bl (!decide (x=.bA))) H1
theorem RelV.iK {x:V}{v:Value}(r:RelV x v):(v==Value.none)=decide (x=.bA):=by
 cases x with
 |bA=>cases r;rfl
 |bl _=>cases r;rfl
 |int _=>obtain⟨t,rfl⟩:=r;rfl
 |str _=>obtain⟨t,rfl⟩:=r;rfl
 |ref _=>cases r;rfl
 |ty _=>cases r;rfl
theorem BZ {j pos'}(ha:PE X a ta):PC X .Is a (.Constant .none j pos') (pZ ta):=by intro pins s Y H Q I h;refine aO (ha pins s Y H _ I h) λv s1 ⟨x,H1,I1,r1,q1⟩=>?_;exact ql (is_none_gen ⟨.bl _,H1,I1,by rw[r1.iK];rfl,q1⟩)
theorem B1 {j pos'}(ha:PE X a ta):PC X .IsNot a (.Constant .none j pos') (BY ta):=by intro pins s Y H Q I h;refine aO (ha pins s Y H _ I h) λv s1 ⟨x,H1,I1,r1,q1⟩=>?_;exact ql (isnot_none_gen ⟨.bl _,H1,I1,by rw[r1.iK];rfl,q1⟩)
def tB (t:TE):TT:=λY H Q=>t Y H λx H1=>∃c,x=.bl c/\Q c H1
theorem B2 {op:CmpOp}{t:TE}(h:PC X op a b t)(h1:dw op b=false:=by first|exact Kg _ (by decide) (by decide)|rfl):PE X (.Compare a [op] [b] pos) t:=λpins s Y H Q I hw=>wpAny_Compare1 (h pins s Y H Q I hw) h1
theorem B3 {op:CmpOp}{t:TE}(h:PC X op a b t)(h1:dw op b=false:=by first|exact Kg _ (by decide) (by decide)|rfl):PT X (.Compare a [op] [b] pos) (tB t):=by intro pins s Y H Q I hw;refine pi (aO (h pins s Y H _ I hw) λv s1 h1=>aO h1 λu s2 h2=>aO h2 λc s3 ⟨x,H1,I1,r1,q1⟩=>?_) h1;obtain⟨d,rfl,q⟩:=q1;cases r1;exact jk ⟨H1,I1,q⟩
variable {tA B4:TT}{rest:List Expr}
def El (t u:TT):TT:=λY H Q=>t Y H λc H1=>if c=true then u Y H1 Q else Q false H1
def Kh (t u:TT):TT:=λY H Q=>t Y H λc H1=>if c=true then Q true H1 else u Y H1 Q
def za (t:TT):TT:=λY H Q=>t Y H λc H1=>Q (!c) H1
theorem QG (ha:PT X a tA):PW X (.BoolOp .And [a] pos) tA:=by
 intro wh pins s Y H Q I h;refine isTrue_and (aO (ha pins s Y H Q I h) λc s1 e=>?_);cases c with
 |true=>exact isTrue_and_nil e
 |false=>exact e
theorem Ki (ha:PT X a tA):PW X (.BoolOp .Or [a] pos) tA:=by
 intro wh pins s Y H Q I h;refine isTrue_or (aO (ha pins s Y H Q I h) λc s1 e=>?_);cases c with
 |false=>exact isTrue_or_nil e
 |true=>exact e
theorem QH (ha:PT X a tA)(hb:PW X (.BoolOp .And (b::rest) pos) B4):PW X (.BoolOp .And (a::b::rest) pos) (El tA B4):=by
 intro wh pins s Y H Q I h;refine isTrue_and (aO (ha pins s Y H _ I h) λc s1 ⟨H1,I1,q1⟩=>?_);cases c with
 |true=>exact hb wh pins s1 Y H1 Q I1 q1
 |false=>exact⟨H1,I1,q1⟩
theorem Em (ha:PT X a tA)(hb:PW X (.BoolOp .Or (b::rest) pos) B4):PW X (.BoolOp .Or (a::b::rest) pos) (Kh tA B4):=by
 intro wh pins s Y H Q I h;refine isTrue_or (aO (ha pins s Y H _ I h) λc s1 ⟨H1,I1,q1⟩=>?_);cases c with
 |true=>exact⟨H1,I1,q1⟩
 |false=>exact hb wh pins s1 Y H1 Q I1 q1
theorem Kj (ha:PT X a tA):PT X (.UnaryOp .Not a pos) (za tA):=by intro pins s Y H Q I h;exact isTrue_not (ha pins s Y H (λc H1=>Q (!c) H1) I h)
def Kk (ta tb:TE):TE:=λY H Q=>ta Y H λx H1=>∃c,x=.bl c/\if c=true then tb Y H1 Q else Q (.bl false) H1
def En (ta tb:TE):TE:=λY H Q=>ta Y H λx H1=>∃c,x=.bl c/\if c=true then Q (.bl true) H1 else tb Y H1 Q
theorem Eo {op}{t:TE}(h:PE X a t):PE X (.BoolOp op [a] pos) t:=λpins s Y H Q I hw=>BoolOp_one (h pins s Y H Q I hw)
theorem Ep (ha:PE X a ta)(hb:PE X (.BoolOp .And (b::rest) pos) tb):PE X (.BoolOp .And (a::b::rest) pos) (Kk ta tb):=by
 intro pins s Y H Q I h;refine BoolOp_and (aO (ha pins s Y H _ I h) λv s1 ⟨x,H1,I1,r1,q1⟩=>?_);obtain⟨c,rfl,q1⟩:=q1;cases r1;refine jk ?_;cases c with
 |true=>exact hb pins s1 Y H1 Q I1 q1
 |false=>exact⟨.bl false,H1,I1,rfl,q1⟩
theorem QI (ha:PE X a ta)(hb:PE X (.BoolOp .Or (b::rest) pos) tb):PE X (.BoolOp .Or (a::b::rest) pos) (En ta tb):=by
 intro pins s Y H Q I h;refine BoolOp_or (aO (ha pins s Y H _ I h) λv s1 ⟨x,H1,I1,r1,q1⟩=>?_);obtain⟨c,rfl,q1⟩:=q1;cases r1;refine jk ?_;cases c with
 |false=>exact hb pins s1 Y H1 Q I1 q1
 |true=>exact⟨.bl true,H1,I1,rfl,q1⟩
def QJ (t:TT)(ta tb:TE):TE:=λY H Q=>t Y H λc H1=>if c=true then ta Y H1 Q else tb Y H1 Q
theorem QK {c:Expr}(hc:PT X c tA)(ha:PE X a ta)(hb:PE X b tb):PE X (.IfExp c a b pos) (QJ tA ta tb):=by
 intro pins s Y H Q I h;refine wpAny_IfExp (aO (hc pins s Y H _ I h) λd s1 ⟨H1,I1,q1⟩=>?_);cases d with
 |true=>exact ha pins s1 Y H1 Q I1 q1
 |false=>exact hb pins s1 Y H1 Q I1 q1
end
def SqL (K:W.Frag)(H:Hp)(a:Addr)(xs:List V):Prop:=Rd H a (.lst xs)\/∃(o:Obj) (its:Array Value) (n:Nat),K.lookup a=some o/\o.cls=.type "list"/\o.dict=none/\o.data=.seq its n/\its.size<=bc/\Vals xs its.toList
def bS (K:W.Frag)(H:Hp)(a:Addr)(xs:List V):Prop:=Rd H a (.tup xs)\/∃(o:Obj) (its:Array Value) (n:Nat),K.lookup a=some o/\o.cls=.type "tuple"/\o.dict=none/\o.data=.seq its n/\its.size<=bc/\Vals xs its.toList
def Er:Value->Option V
 |.none=>some .bA
 |.bool b=>some (.bl b)
 |.int i _=>some (.int i)
 |.str x _=>some (.str x)
 |.ref a=>some (.ref a)
 |.type n=>some (.ty n)
 |_=>none
theorem RelV.abs {x:V}{u:Value}(r:RelV x u):Er u=some x:=by
 cases x with
 |bA=>cases r;rfl
 |bl _=>cases r;rfl
 |int _=>obtain⟨t,rfl⟩:=r;rfl
 |str _=>obtain⟨t,rfl⟩:=r;rfl
 |ref _=>cases r;rfl
 |ty _=>cases r;rfl
theorem RelV.inj {x y:V}{u:Value}(r:RelV x u)(q:RelV y u):x=y:=vi (r.abs.symm.trans q.abs)
theorem Vals.inj:∀{xs ys:List V} {us:List Value},Vals xs us->Vals ys us->xs=ys
 |_,_,_,.nil,.nil=>rfl
 |_,_,_,.cons r t,.cons r' t'=>by rw[r.inj r',Vals.inj t t']
section
variable {X:Cx}{pins:List (Addr×Obj)}{Y:St}{H:Hp}{s:af}{a:Addr}{xs ys:List V}
theorem SqL.of {K:W.Frag}(h:H a=some (.lst xs)):SqL K H a xs:=.inl (.inl h)
theorem bS.of {K:W.Frag}(h:H a=some (.tup xs)):bS K H a xs:=.inl (.inl h)
theorem Inv.list (I:Inv X pins Y H s)(h:SqL X.K H a xs):∃its:List Value,Vals xs its/\PlainL s.heap a its.toArray/\xs.length<=bc:=by
 rcases h with h|⟨o,its,n,hk,hc,hd,hs,hz,r⟩
 ·obtain⟨z,its,n,r,e⟩:=h.ok I.hok;exact⟨its,r,⟨_,n,e,rfl,rfl,rfl⟩,z⟩
 ·refine⟨its.toList,r,⟨o,n,I.fF a o hk,hc,hd,by simpa using hs⟩,?_⟩;have e:=r.length;simp only[iw]at e;omega
theorem Inv.tuple (I:Inv X pins Y H s)(h:bS X.K H a xs):∃its:List Value,Vals xs its/\IsTup s.heap a its.toArray/\xs.length<=bc:=by
 rcases h with h|⟨o,its,n,hk,hc,_,hs,hz,r⟩
 ·obtain⟨z,its,r,p⟩:=h.ok I.hok;exact⟨its,r,p.tup,z⟩
 ·refine⟨its.toList,r,⟨o,I.fF a o hk,hc,n,by simpa using hs⟩,?_⟩;have e:=r.length;simp only[iw]at e;omega
theorem Inv.uX (I:Inv X pins Y H s)(h:bS X.K H a xs):∃l:List Value,Vals xs l/\Qq s.heap a l.toArray/\xs.length<=bc:=by
 rcases h with h|⟨o,l,n,q,hc,hd,hs,hz,r⟩
 ·obtain⟨z,l,r,n,q⟩:=h.ok I.hok;exact⟨l,r,⟨_,n,q,rfl,rfl,rfl⟩,z⟩
 ·exact⟨l.toList,r,⟨o,n,I.fF a o q,hc,hd,(by simpa using hs)⟩,(by have w:=r.length;simp only[iw]at w;omega)⟩
theorem Inv.nK (I:Inv X pins Y H s)(h:SqL X.K H a xs)(h':SqL X.K H a ys):xs=ys:=by
 obtain⟨its,r,⟨o,n,e,_,_,d⟩,_⟩:=I.list h;obtain⟨its',r',⟨o',n',e',_,_,d'⟩,_⟩:=I.list h';rw[e]at e';cases e';rw[d]at d';injection d' with d1 _;have:its=its':=by simpa using congrArg Array.toList d1
 subst this;exact r.inj r'
theorem Inv.kY (I:Inv X pins Y H s)(h:bS X.K H a xs)(h':bS X.K H a ys):xs=ys:=by
 obtain⟨its,r,⟨o,e,_,n,d⟩,_⟩:=I.tuple h;obtain⟨its',r',⟨o',e',_,n',d'⟩,_⟩:=I.tuple h';rw[e]at e';cases e';rw[d]at d';injection d' with d1 _;have:its=its':=by simpa using congrArg Array.toList d1
 subst this;exact r.inj r'
end
abbrev Cx.eS (X:Cx)(E:Value->af->Prop):Cx:={X with xe:=E}
abbrev Cx.zb (X:Cx):Cx:=X.eS λ_ _=>False
theorem Cx.Ok.eS {X:Cx}(ok:X.Ok)(E:Value->af->Prop):(X.eS E).Ok:=⟨ok.mod,ok.kind,ok.glob,ok.blt,ok.above,ok.inj,ok.has,ok.sQ,ok.hd,ok.frames,ok.uV,ok.uW,ok.bs,ok.kW,ok.iI,ok.iJ,ok.cV,ok.pX,ok.BW⟩
theorem Cx.Ok.cH {X:Cx}{E:Value->af->Prop}(ok:(X.eS E).Ok):X.Ok:=⟨ok.mod,ok.kind,ok.glob,ok.blt,ok.above,ok.inj,ok.has,ok.sQ,ok.hd,ok.frames,ok.uV,ok.uW,ok.bs,ok.kW,ok.iI,ok.iJ,ok.cV,ok.pX,ok.BW⟩
section
variable {X:Cx}{pins:List (Addr×Obj)}{Y:St}{H:Hp}{s:af}{E:Value->af->Prop}
theorem Inv.eS (I:Inv X pins Y H s)(E:Value->af->Prop):Inv (X.eS E) pins Y H s:=⟨I.ok.eS E,I.os,I.bare,I.base,I.loc,I.cell,I.free,I.bF,I.pin,I.hok,I.len,I.fx⟩
theorem Inv.cH (I:Inv (X.eS E) pins Y H s):Inv X pins Y H s:=⟨I.ok.cH,I.os,I.bare,I.base,I.loc,I.cell,I.free,I.bF,I.pin,I.hok,I.len,I.fx⟩
theorem SP.cH {D:Ends}{f:Flow}{s':af}(h:SP (X.eS E) pins D f s'):SP X pins D f s':=by
 cases f with
 |next=>obtain⟨σ',H',I,q⟩:=h;exact⟨σ',H',I.cH,q⟩
 |brk=>obtain⟨σ',H',I,q⟩:=h;exact⟨σ',H',I.cH,q⟩
 |cont=>obtain⟨σ',H',I,q⟩:=h;exact⟨σ',H',I.cH,q⟩
 |ret u=>obtain⟨v,σ',H',I,r,q⟩:=h;exact⟨v,σ',H',I.cH,r,q⟩
theorem PSs.zb {st:List Stmt}{t:TS}(h:PSs X.zb st t):PSs X st t:=λpins s Y H D I hw=>jl (h pins s Y H D (I.eS _) hw) (λ_ _ q=>q.cH) λ_ _ z=>False.elim z
end
section
variable {X:Cx}{st:Stmt}{rest:List Stmt}{t u:TS}{e:Expr}{te:TE}{pos:Pos}
def Kl:TS:=λD Y H=>D.nx Y H
def zc (t u:TS):TS:=λD Y H=>t {D with nx:=u D} Y H
theorem Km:PSs X [] Kl:=λ_ _ Y H _ I h=>wpAny_execs_nil ⟨Y,H,I,h⟩
theorem Kn (h1:PS X st t)(h2:PSs X rest u):PSs X (st::rest) (zc t u):=by
 intro pins s Y H D I h;refine wpAny_execs_cons (aO (h1 pins s Y H {D with nx:=u D} I h) λf s1 q=>?_);cases f with
 |next=>obtain⟨σ',H',I',q⟩:=q;exact h2 pins s1 σ' H' D I' q
 |ret v=>exact q
 |brk=>exact q
 |cont=>exact q
theorem Inv.quiet {pins:List (Addr×Obj)}{Y:St}{H:Hp}{s:af}(I:Inv X pins Y H s):interactive X.env=false:=by simp[interactive,I.ok.kind]
def sT (te:TE):TS:=λD Y H=>te Y H λ_ H1=>D.nx Y H1
theorem QL (he:PE X e te)(hs:ke e none pos.line X.env=pure false:=by rfl):PS X (.Expr e pos) (sT te):=by intro pins s Y H D I h;exact wpAny_Expr_any (aO (he pins s Y H _ I h) λv s1 ⟨x,H1,I1,r1,q1⟩=>⟨Y,H1,I1,q1⟩) I.quiet hs
def zd (te:TE):TS:=λD Y H=>te Y H D.rt
theorem Es (he:PE X e te):PS X (.Return (some e) pos) (zd te):=by intro pins s Y H D I h;exact wpAny_Return_some (aO (he pins s Y H _ I h) λv s1 ⟨x,H1,I1,r1,q1⟩=>⟨x,Y,H1,I1,r1,q1⟩)
def ze (c:TT)(t u:TS):TS:=λD Y H=>c Y H λb H1=>if b=true then t D Y H1 else u D Y H1
theorem Kq {c:Expr}{a b:List Stmt}{tc:TT}(hc:PT X c tc)(ha:PSs X a t)(hb:PSs X b u):PS X (.If c a b pos) (ze tc t u):=by
 intro pins s Y H D I h;refine wpAny_If (aO (hc pins s Y H _ I h) λd s1 ⟨H1,I1,q1⟩=>?_);cases d with
 |true=>exact ha pins s1 Y H1 D I1 q1
 |false=>exact hb pins s1 Y H1 D I1 q1
end
abbrev TG:=V->St->Hp->(St->Hp->Prop)->Prop
abbrev TGs:=List V->St->Hp->(St->Hp->Prop)->Prop
def PG (X:Cx)(target:Expr)(t:TG):Prop:=∀(pins:List (Addr×Obj)) (s:af) (Y:St) (H:Hp) (v:V) (u:Value) (Q:St->Hp->Prop),Inv X pins Y H s->RelV v u->t v Y H Q->wpAny (model X.prog X.w) X.A (q8 target X.env u) (λ_ s'=>∃σ' H',Inv X pins σ' H' s'/\Q σ' H') X.xe s
def PGs (X:Cx)(ts:List Expr)(t:TGs):Prop:=∀(pins:List (Addr×Obj)) (s:af) (Y:St) (H:Hp) (vs:List V) (us:List Value) (Q:St->Hp->Prop),Inv X pins Y H s->Vals vs us->t vs Y H Q->wpAny (model X.prog X.w) X.A (assignInOrder ((eu ts X.env).map (·.2)) us) (λ_ s'=>∃σ' H',Inv X pins σ' H' s'/\Q σ' H') X.xe s
abbrev Et:=V->V->V->Hp->(Hp->Prop)->Prop
def Eu (X:Cx)(t:Et):Prop:=∀(pins:List (Addr×Obj)) (s:af) (Y:St) (H:Hp) (o i v:V) (ov iv u:Value) (Q:Hp->Prop),Inv X pins Y H s->RelV o ov->RelV i iv->RelV v u->t o i v H Q->wpAny (model X.prog X.w) X.A (setItem ov iv u) (λ_ s'=>∃H',Inv X pins Y H' s'/\Q H') X.xe s
section
variable {X:Cx}{pos:Pos}
def pE (i:Nat):TG:=λv Y H Q=>Q (Y.set i (some v)) H
theorem Ew {i:Nat}{x:Str}(hN:X.N.Nodup)(hi:X.N[i]?=some x)(hx:Loc X.env.scope x)(hf:Sto X x:=by first|exact⟨.inl rfl,nofun⟩|exact⟨.inr rfl,nofun⟩|assumption):PG X (.Name x pos) (pE i):=by intro pins s Y H v u Q I r h;exact sr (z6g I hN hi hx r (λs' I'=>⟨_,H,I',h⟩) hf)
def Ex:TGs:=λvs Y H Q=>vs=[]/\Q Y H
def QM (t:TG)(u:TGs):TGs:=λvs Y H Q=>∃v r,vs=v::r/\t v Y H λσ' H'=>u r σ' H' Q
theorem QN:PGs X [] Ex:=by intro pins s Y H vs us Q I r h;obtain⟨e,h⟩:=h;subst e;cases r;exact assignInOrder_nil ⟨Y,H,I,h⟩
theorem zh3 {e:Expr}{es:List Expr}{t:TG}{u:TGs}(h1:PG X e t)(h2:PGs X es u)
  (hs:(eu (e::es) X.env).map (·.2)=q8 e X.env::(eu es X.env).map (·.2):=by rfl):PGs X (e::es) (QM t u):=by
 intro pins s Y H vs us Q I r h;obtain⟨v,vr,e1,h⟩:=h;subst e1;cases r with
 |cons r rr=>rw[hs];refine assignInOrder_cons (aO (h1 pins s Y H _ _ _ I r h) λ_ s1 ⟨QO,H1,I1,q1⟩=>?_);exact h2 pins s1 QO H1 _ _ Q I1 rr q1
def Ey (K:W.Frag)(n:Nat)(t:TGs):TG:=λv Y H Q=>∃a xs,v=.ref a/\bS K H a xs/\xs.length=n/\t xs Y H Q
theorem zq2 {es:List Expr}{k:Nat}{t:TGs}{n:Nat}(hc:X.calm=true)(h:PGs X es t)
  (hn:(eu es X.env).length=n:=by rfl) (hst:(eu es X.env).findIdx? (·.1)=none:=by rfl):PG X (.Tuple es k pos) (Ey X.K n t):=by
 intro pins s Y H v u Q I r hw;obtain⟨a,xs,e1,hq,hl,hw⟩:=hw;subst e1;cases r;obtain⟨its,rv,ht,hz⟩:=I.tuple hq;refine assign_Tuple_tuple (I.ok.hd hc) ht (by simp[hn,<-hl,rv.length]) hst λh' hx=>?_;have I1:Inv X pins Y H {s with heap:=h'}:=I.kept (t':=s.toks) λb o e=>hx b o (cw (bt e)) e;exact h pins _ Y H xs _ Q I1 (by simpa using rv) hw
def iL (te:TE)(g:TG):TS:=λD Y H=>te Y H λx H1=>g x Y H1 D.nx
theorem zp7 {tg e:Expr}{te:TE}{g:TG}(he:PE X e te)(hg:PG X tg g)(hs:qm [tg] e pos.line X.env=pure false:=by rfl)(hw:qo [tg] e X.env=pure none:=by rfl)
  (h1:(eu [tg] X.env).map (·.2)=[q8 tg X.env]:=by rfl):PS X (.Assign [tg] e pos) (iL te g):=by
 intro pins s Y H D I h;refine wpAny_Assign_stores (aO (he pins s Y H _ I h) λv s1 ⟨x,H1,I1,r1,q1⟩=>?_) hs hw;rw[h1];exact aO (hg pins s1 Y H1 x v _ I1 r1 q1) λ_ s2 q=>q
theorem z8s {i:Nat}{x:Str}{e:Expr}{te:TE}{pos':Pos}(hN:X.N.Nodup)(hi:X.N[i]?=some x)(hx:Loc X.env.scope x)(he:PE X e te)(hs:ke e (some (.Name x pos')) pos.line X.env=pure false:=by rfl)(hf:Sto X x:=by first|exact⟨.inl rfl,nofun⟩|exact⟨.inr rfl,nofun⟩|assumption):
  PS X (.Assign [.Name x pos'] e pos) (iL te (pE i)):=by
 intro pins s Y H D I h;refine wpAny_Assign_Name (aO (he pins s Y H _ I h) λv s1 ⟨y,H1,I1,r1,q1⟩=>?_) hs;exact z6g I1 hN hi hx r1 (λs2 I2=>⟨_,H1,I2,q1⟩) hf
end
structure It where
 go:Nat->Hp->Prop
 iM:Nat->Hp->V->Hp->Prop
 stop:Nat->Hp->Prop
def FpOk (X:Cx)(pins:List (Addr×Obj))(H:Hp)(b:Addr):Prop:=H b=none/\b≠X.env.locals/\b∉X.fs/\(b∈X.ex\/X.s₀.heap.objs.size<=b)/\(∀x c,X.env.cells.lookup x=some c->c≠b)/\∀p∈X.pn++pins,p.1≠b
theorem Inv.iN {X:Cx}{pins:List (Addr×Obj)}{Y:St}{H H':Hp}{s:af}{b:Addr}(I:Inv X pins Y H s)(hb:s.heap.objs.size<=b)(hn:H' b=none):FpOk X pins H' b:=by
 refine⟨hn,Nat.ne_of_gt (cb I.lt hb),I.y4 hb,.inr (cg I.sz hb),λx c e z=>?_,λp hp z=>?_⟩
 ·obtain⟨v,q⟩:=I.cell x c e;exact absurd (cb q.lt (by rw[z];exact hb)) (cy _)
 ·exact absurd (cb (bt (I.pin p hp).1) (by rw[z];exact hb)) (cy _)
structure Turn (P:bx)(w:World)(K:W.Frag)(tg:Expr)(J:It)(fp:List Addr)(it:Addr)(tn:Nat->Heap->Prop):Prop where
 mem:it∈fp
 obj:∀i h,tn i h->∀b∈fp,∃o,h.get? b=some o/\∀v,o.data≠.cell v
 keep:∀i h h',tn i h->(∀b∈fp,∀o,h.get? b=some o->h'.get? b=some o)->tn i h'
 item:∀(X:Cx),X.prog=P->X.w=w->X.K=K->X.calm=true->∀(i:Nat) (pins:List (Addr×Obj)) (s:af) (Y:St) (H:Hp) (E:Value->af->Prop),Inv X pins Y H s->(∀b∈fp,FpOk X pins H b)->tn i s.heap->J.go i H->wpAny (model P w) X.A (pyNext (.ref it)) (λr s1=>∃u,r=some u/\wpAny (model P w) X.A (jf tg (.ref it) u) (λ_ s2=>∃x H',Inv X pins Y H' s2/\RelV x u/\J.iM i H x H'/\tn (i+1) s2.heap/\∀b∈fp,H' b=none) E s1) E s
 done:∀(X:Cx),X.prog=P->X.w=w->X.K=K->X.calm=true->∀(i:Nat) (pins:List (Addr×Obj)) (s:af) (Y:St) (H:Hp) (E:Value->af->Prop),Inv X pins Y H s->(∀b∈fp,FpOk X pins H b)->tn i s.heap->J.stop i H->wpAny (model P w) X.A (pyNext (.ref it)) (λr s1=>r=none/\Inv X pins Y H s1) E s
 self:∀(A:d7) (i:Nat) (s:af) (Q:Value->af->Prop) (E:Value->af->Prop),tn i s.heap->Q (.ref it) s->wpAny (model P w) A (uc (.ref it)) Q E s
abbrev TI:=St->Hp->(It->Hp->Prop)->Prop
def xT (X:Cx)(pins:List (Addr×Obj))(Y:St)(tg:Expr)(R:It->Hp->Prop)(nM:Value)(s2:af):Prop:=∃(it:Addr) (fp:List Addr) (tn:Nat->Heap->Prop) (J:It) (H':Hp),nM=.ref it/\Inv X pins Y H' s2/\Turn X.prog X.w X.K tg J fp it tn/\tn 0 s2.heap/\(∀b∈fp,FpOk X pins H' b)/\R J H'
def PI (X:Cx)(tg iter:Expr)(wi:TI):Prop:=∀(pins:List (Addr×Obj)) (s:af) (Y:St) (H:Hp) (R:It->Hp->Prop),Inv X pins Y H s->wi Y H R->wpAny (model X.prog X.w) X.A (eval iter X.env) (λv s1=>wpAny (model X.prog X.w) X.A (uc v) (xT X pins Y tg R) X.xe s1) X.xe s
theorem zhf {M:Model}{A:d7}{E:Value->af->Prop}{s:af}{tg:Expr}{it:Addr}{u:Value}{o:Obj}{n:String}{vs:Array Value}{Q:Unit->af->Prop}(ho:s.heap.get? it=some o)(hc:o.cls=.type n)(hd:o.data=.fields vs)
  (hn:["enumerate","zip","dict_itemiterator","dict_reverseitemiterator","odict_iterator","itertools.zip_longest","itertools.pairwise"].contains n=false) (hQ:Q () s):wpAny M A (jf tg (.ref it) u) Q E s:=by
 unfold jf
 cases tg<;>first
  |exact bq hQ
  |(cases u<;>first
   |exact bq hQ
   |(refine ae (wpAny_load ho ?_)
     rw[hc,hd];show wpAny M A (if(["enumerate","zip","dict_itemiterator","dict_reverseitemiterator","odict_iterator","itertools.zip_longest","itertools.pairwise"].contains n&&vs[0]?==some (l7 _))=true then _ else _) Q E s;rw[vh (by intro h;rw[hn,Bool.false_and]at h;cases h)];exact bq hQ))
def Ez (K:W.Frag)(a:Addr):It:=⟨λi H=>∃xs x,SqL K H a xs/\xs[i]?=some x,λi H x H'=>H'=H/\∀xs,SqL K H a xs->xs[i]?=some x,λi H=>∃xs,SqL K H a xs/\xs.length<=i⟩
def Kr (K:W.Frag)(a:Addr):It:=⟨λi H=>∃xs x,bS K H a xs/\xs[i]?=some x,λi H x H'=>H'=H/\∀xs,bS K H a xs->xs[i]?=some x,λi H=>∃xs,bS K H a xs/\xs.length<=i⟩
def B5 (lo:Int)(n:Nat):It:=⟨λi _=>i<n,λi H x H'=>H'=H/\x=.int (lo+i),λi _=>n<=i⟩
theorem Ks {P:bx}{w:World}{K:W.Frag}{tg:Expr}(a it:Addr):Turn P w K tg (Ez K a) [it] it (λi h=>h.IsListIter it a i) where
 mem:=by simp
 obj:=λi h st b hb=>by
  have e:b=it:=by simpa using hb
  subst e;obtain⟨o,e,c,d⟩:=st;exact⟨o,e,λv z=>by rw[d]at z;cases z⟩
 keep:=λi h h' st k=>st.at λo e=>k it (by simp) o e
 item:=by intro X hP hw hK hc i pins s Y H E I hf st hg;subst hP hw hK;obtain⟨xs,x,hq,hx⟩:=hg;obtain⟨its,rv,p,hz⟩:=I.list hq;obtain⟨u,hu,ru⟩:=rv.get hx;obtain⟨f0,f1,f2,f3,f4,f5⟩:=hf it (by simp);refine wpAny_pyNext_list_item st p.isList (x:=u) (by simpa using hu) λh' jI sb=>?_;have I1:Inv X pins Y H {s with heap:=h'}:=I.turned (t':=s.toks) (λb o hb e=>(sb.2 b hb).trans e) f0 f1 f3 f4 f5;obtain⟨o,e,c,d⟩:=id jI;exact⟨u,rfl,zhf (s:={s with heap:=h'}) e c d (by decide) ⟨x,H,I1,ru,⟨rfl,λys hy=>by rw[I.nK hy hq];exact hx⟩,jI,λb hb=>(hf b hb).1⟩⟩
 done:=by intro X hP hw hK hc i pins s Y H E I hf st hg;subst hP hw hK;obtain⟨xs,hq,hx⟩:=hg;obtain⟨its,rv,p,hz⟩:=I.list hq;obtain⟨f0,f1,f2,f3,f4,f5⟩:=hf it (by simp);have hl:=rv.length;exact wpAny_pyNext_list_end (I.ok.hd hc) st p.isList (by simp;omega) λh' eb=>⟨rfl,I.turned (t':=s.toks) (λb o hb e=>eb b o hb e) f0 f1 f3 f4 f5⟩
 self:=λ_ _ _ _ _ st h=>wpAny_pyIter_listiter st h
theorem QP {P:bx}{w:World}{K:W.Frag}{tg:Expr}(a it:Addr):Turn P w K tg (Kr K a) [it] it (λi h=>h.IsTupleIter it a i) where
 mem:=by simp
 obj:=λi h st b hb=>by
  have e:b=it:=by simpa using hb
  subst e;obtain⟨o,e,c,d⟩:=st;exact⟨o,e,λv z=>by rw[d]at z;cases z⟩
 keep:=λi h h' st k=>st.at λo e=>k it (by simp) o e
 item:=by intro X hP hw hK hc i pins s Y H E I hf st hg;subst hP hw hK;obtain⟨xs,x,hq,hx⟩:=hg;obtain⟨its,rv,p,hz⟩:=I.tuple hq;obtain⟨u,hu,ru⟩:=rv.get hx;obtain⟨f0,f1,f2,f3,f4,f5⟩:=hf it (by simp);refine wpAny_pyNext_tuple_item st (show s.heap.IsTuple a its.toArray from p) (x:=u) (by simpa using hu) λh' jI sb=>?_;have I1:Inv X pins Y H {s with heap:=h'}:=I.turned (t':=s.toks) (λb o hb e=>(sb.2 b hb).trans e) f0 f1 f3 f4 f5;obtain⟨o,e,c,d⟩:=id jI;exact⟨u,rfl,zhf (s:={s with heap:=h'}) e c d (by decide) ⟨x,H,I1,ru,⟨rfl,λys hy=>by rw[I.kY hy hq];exact hx⟩,jI,λb hb=>(hf b hb).1⟩⟩
 done:=by intro X hP hw hK hc i pins s Y H E I hf st hg;subst hP hw hK;obtain⟨xs,hq,hx⟩:=hg;obtain⟨its,rv,p,hz⟩:=I.tuple hq;obtain⟨f0,f1,f2,f3,f4,f5⟩:=hf it (by simp);have hl:=rv.length;exact wpAny_pyNext_tuple_end (I.ok.hd hc) st (show s.heap.IsTuple a its.toArray from p) (by simp;omega) λh' eb=>⟨rfl,I.turned (t':=s.toks) (λb o hb e=>eb b o hb e) f0 f1 f3 f4 f5⟩
 self:=λ_ _ _ _ _ st h=>wpAny_pyIter_tupleiter st h
theorem QQ {P:bx}{w:World}{K:W.Frag}{tg:Expr}(it:Addr)(lo:Int)(n:Nat):Turn P w K tg (B5 lo n) [it] it (λi h=>IsRangeIter h it (lo+(i:Nat)*1) ((n:Int)-(i:Nat)) 1) where
 mem:=by simp
 obj:=λi h st b hb=>by
  have e:b=it:=by simpa using hb
  subst e;exact⟨_,st,λv z=>by have z':Data.fields _=Data.cell v:=z;cases z'⟩
 keep:=λi h h' st k=>k it (by simp) _ st
 item:=by intro X hP hw hK hc i pins s Y H E I hf st hg;subst hP hw hK;obtain⟨f0,f1,f2,f3,f4,f5⟩:=hf it (by simp);have W:=Walks.range (prog:=X.prog) (w:=X.w) (I.ok.hd hc) it lo 1 n;refine W.item i s _ _ hg st λv h' tk hv jI kk=>?_;obtain⟨t,rfl⟩:=hv;have I1:Inv X pins Y H {s with heap:=h',toks:=tk}:=I.turned (λb o hb e=>kk b o (by simpa using hb) e) f0 f1 f3 f4 f5;refine⟨_,rfl,zhf (s:={s with heap:=h',toks:=tk}) (n:="range_iterator") jI rfl rfl (by decide) ⟨.int (lo+i),H,I1,⟨t,?_⟩,⟨rfl,rfl⟩,jI,λb hb=>(hf b hb).1⟩⟩;rw[Int.mul_one]
 done:=by intro X hP hw hK hc i pins s Y H E I hf st hg;subst hP hw hK;obtain⟨f0,f1,f2,f3,f4,f5⟩:=hf it (by simp);exact wpAny_pyNext_range_end (I.ok.hd hc) st (by have:n<=i:=hg;omega) λh' eb=>⟨rfl,I.turned (t':=s.toks) (λb o hb e=>eb b o hb e) f0 f1 f3 f4 f5⟩
 self:=λ_ _ _ _ _ st h=>wpAny_pyIter_rangeiter st h
section
variable {X:Cx}{tg:Expr}
def zf (K:W.Frag)(tl:TE):TI:=λY H R=>tl Y H λx H1=>∃a,x=.ref a/\(∃xs,SqL K H1 a xs)/\R (Ez K a) H1
theorem Kt {l:Expr}{tl:TE}(hl:PE X l tl):PI X tg l (zf X.K tl):=by
 intro pins s Y H R I h;refine aO (hl pins s Y H _ I h) λv s1 ⟨x,H1,I1,r1,q1⟩=>?_;obtain⟨a,e,⟨xs,hq⟩,q⟩:=q1;subst e;cases r1;obtain⟨its,rv,p,hz⟩:=I1.list hq;refine m7 p.isList ?_;refine⟨s1.heap.objs.size,[s1.heap.objs.size],_,_,H1,rfl,I1.kept (t':=s1.toks) λb o e=>ah _ e,Ks a _,⟨_,bw _ rfl,rfl,rfl⟩,λb hb=>?_,q⟩;have e:b=s1.heap.objs.size:=by simpa using hb
 subst e;exact I1.iN (ag _) (I1.hok.fresh (ag _))
theorem zgx {pins:List (Addr×Obj)}{Y:St}{H:Hp}{s:af}{R:It->Hp->Prop}{E:Value->af->Prop}{lo hi:Int}{t u v:Tok}{tk:Nat}(I:Inv X pins Y H s)(h1:-(2 ^ 62)<=lo)(h2:lo<2 ^ 62)(h3:-(2 ^ 62)<=hi)(h4:hi<2 ^ 62)
  (q:R (B5 lo (hi-lo).toNat) H):wpAny (model X.prog X.w) X.A (uc (.ref s.heap.objs.size)) (xT X pins Y tg R) E {s with heap:=s.heap.push {cls:=.type "range",data:=.fields #[.int lo t,.int hi u,.int 1 v]},toks:=tk}:=by
 refine wpAny_pyIter_range (IsRange.new ..) (small_one h1 h2 h3 h4) ?_;have I1:Inv X pins Y H {s with heap:=s.heap.push {cls:=.type "range",data:=.fields #[.int lo t,.int hi u,.int 1 v]},toks:=tk}:=I.kept λb o e=>ah _ e;refine⟨(s.heap.push {cls:=.type "range",data:=.fields #[.int lo t,.int hi u,.int 1 v]}).objs.size,[(s.heap.push {cls:=.type "range",data:=.fields #[.int lo t,.int hi u,.int 1 v]}).objs.size],_,_,H,rfl,I1.kept (t':=tk) λb o e=>ah _ e,QQ _ lo (hi-lo).toNat,?_,λb hb=>?_,q⟩
 ·have e1:lo+((0:Nat):Int)*1=lo:=by simp
  have e2:(((hi-lo).toNat:Nat):Int)-((0:Nat):Int)=Builtin.Range.rangeSize lo hi 1:=by rw[rangeSize_one];split<;>omega
  show IsRangeIter _ _ (lo+((0:Nat):Int)*1) ((((hi-lo).toNat:Nat):Int)-((0:Nat):Int)) 1;rw[e1,e2];exact bw _ rfl
 ·have e:b=(s.heap.push {cls:=.type "range",data:=.fields #[.int lo t,.int hi u,.int 1 v]}).objs.size:=by simpa using hb
  subst e;exact I1.iN (ag _) (I1.hok.fresh (ag _))
def QR (ta:TA):TI:=λY H R=>ta Y H λvs H1=>∃j:Int,vs=[.int j]/\-(2 ^ 62)<=j/\j<2 ^ 62/\R (B5 0 j.toNat) H1
theorem QS {a:Expr}{ta:TA}{p pos:Pos}(hg:Gl X "range")(hm:X.mg "range"=none)(ha:PA X [a] ta)(hs:d5 [a] X.env=[(false,eval a X.env)]:=by rfl):PI X tg (.Call (.Name "range" p) [a] [] pos) (QR ta):=by
 intro pins s Y H R I h;refine Call_ (z38 I hg hm boot_range (PyProof.Rows.callWith_type1 (aO (ha pos pins s Y H _ I h) λus s1 ⟨vs,H1,I1,r1,q1⟩=>?_) hs rfl));obtain⟨j,e,q1,q2,q⟩:=q1;subst e;cases r1 with
 |cons r rr=>cases rr;obtain⟨t,rfl⟩:=r;exact call_range_1 (zgx I1 (by omega) (by omega) q1 q2 (by simpa using q))
def jJ (wi:TI)(g:TG)(tb:TS):TS:=λD Y H=>wi Y H λJ H1=>∃W:Nat->Nat->St->Hp->Prop,(∃m,W 0 m Y H1)/\∀i m Y H,W i m Y H->(J.stop i H/\D.nx Y H)\/(J.go i H/\∃N:St->Hp->Prop,(∀σ' H',N σ' H'->∃m',m'<m/\W (i+1) m' σ' H')/\∀x H',J.iM i H x H'->g x Y H' λeC H2=>tb {D with nx:=N,ct:=N,bk:=D.nx} eC H2)
def z7f (fp:List Addr)(h:Heap):List (Addr×Obj):=fp.filterMap λb=>(h.get? b).map λo=>(b,o)
theorem xU {fp:List Addr}{h:Heap}{b:Addr}{o:Obj}(hb:b∈fp)(e:h.get? b=some o):(b,o)∈z7f fp h:=jb.mpr ⟨b,hb,by rw[e];rfl⟩
theorem QT {fp:List Addr}{h:Heap}{p:Addr×Obj}(hp:p∈z7f fp h):p.1∈fp/\h.get? p.1=some p.2:=by
 obtain⟨b,hb,e⟩:=jb.mp hp;cases q:h.get? b with
 |none=>rw[q]at e;cases e
 |some o=>rw[q]at e;have e':(b,o)=p:=vi e;subst e';exact⟨hb,q⟩
theorem Inv.pinned {pins:List (Addr×Obj)}{Y:St}{H:Hp}{s:af}{fp:List Addr}(I:Inv X pins Y H s)(hf:∀b∈fp,FpOk X pins H b)(ho:∀b∈fp,∃o,s.heap.get? b=some o/\∀v,o.data≠.cell v):Inv X (pins++z7f fp s.heap) Y H s:=I.gK λp hp=>(bo.mp hp).elim (λz=>I.pin p (ay _ z)) λz=>by obtain⟨hb,e⟩:=QT z;obtain⟨f0,f1,f2,_⟩:=hf p.1 hb;obtain⟨o,e',d⟩:=ho p.1 hb;rw[e]at e';cases e';exact⟨e,f0,f1,f2,d⟩
theorem Inv.bW {pins pl:List (Addr×Obj)}{Y:St}{H:Hp}{s:af}(I:Inv X (pins++pl) Y H s):Inv X pins Y H s:=I.gK λp hp=>I.pin p (ay _ (bu _ hp))
theorem z9x {iter:Expr}{body:List Stmt}{wi:TI}{g:TG}{tb:TS}{pos:Pos}(hp:g8 (model X.prog X.w) X.A X.env X.xe)(hc:X.calm=true)(hi:PI X tg iter wi)(hg:PG X tg g)(hb:PSs X body tb)
  (hs:∀x,gg iter X.env x=pure x:=by intro _;rfl):PS X (.For tg iter body [] pos) (jJ wi g tb):=by
 intro pins s Y H D I h;refine wpAny_For (aO (hi pins s Y H _ I h) λv s1 h1=>aO h1 λnM s2 h2=>?_) hs;obtain⟨it,fp,tn,J,H2,e,I2,T,zg,f2,W,⟨m0,w0⟩,turn⟩:=h2;subst e;have uY:∀{H':Hp},(∀b∈fp,H' b=none)->∀b∈fp,FpOk X pins H' b:=λhn b hb=>⟨hn b hb,(f2 b hb).2⟩;refine codeAny_forLoop_any (λn s'=>∃i σ' H',Inv X pins σ' H' s'/\tn i s'.heap/\(∀b∈fp,H' b=none)/\W i n σ' H') ?_ m0 ⟨0,Y,H2,I2,zg,λb hb=>(f2 b hb).1,w0⟩
 rintro n s3 ⟨i,fG,H3,I3,zh,zi,w3⟩
 rcases turn i n fG H3 w3 with⟨stop,qn⟩|⟨go,N,hN,step⟩
 ·refine jz hp (aO (T.done X rfl rfl rfl hc i pins s3 fG H3 X.xe I3 (uY zi) zh stop) λr s4 ⟨hr,I4⟩=>?_);subst hr;exact wpAny_execs_nil ⟨fG,H3,I4,qn⟩
 ·refine jz hp (aO (T.item X rfl rfl rfl hc i pins s3 fG H3 X.xe I3 (uY zi) zh go) λr s4 ⟨u,hr,h4⟩=>?_);subst hr;refine jz hp (aO h4 λ_ s5 ⟨x,H5,I5,r5,y5,nN,zj⟩=>?_);have B6:=I5.pinned (uY zj) (T.obj _ _ nN);refine jz hp (aO (hg _ s5 fG H5 x u _ B6 r5 (step x H5 y5)) λ_ s6 ⟨σ6,H6,I6,q6⟩=>?_);refine jz hp (aO (hb _ s6 σ6 H6 _ I6 q6) λf s7 q7=>?_);have again:∀{nO:St} {H7:Hp},Inv X (pins++z7f fp s5.heap) nO H7 s7->N nO H7->∃m,m<n/\∃i σ' H',Inv X pins σ' H' s7/\tn i s7.heap/\(∀b∈fp,H' b=none)/\W i m σ' H':=λ{nO H7} I7 n7=>by obtain⟨m',hm,w7⟩:=hN nO H7 n7;refine⟨m',hm,i+1,nO,H7,I7.bW,T.keep _ _ _ nN λb hb o e=>(I7.pin (b,o) (ay _ (ay _ (xU hb e)))).1,λb hb=>?_,w7⟩;obtain⟨o,e,d⟩:=T.obj _ _ nN b hb;exact(I7.pin (b,o) (ay _ (ay _ (xU hb e)))).2.1
  cases f with
  |next=>obtain⟨nO,H7,I7,n7⟩:=q7;exact again I7 n7
  |cont=>obtain⟨nO,H7,I7,n7⟩:=q7;exact again I7 n7
  |brk=>obtain⟨nO,H7,I7,q7⟩:=q7;exact⟨nO,H7,I7.bW,q7⟩
  |ret v=>obtain⟨x7,nO,H7,I7,r7,q7⟩:=q7;exact⟨x7,nO,H7,I7.bW,r7,q7⟩
end
abbrev R2:=V->V->Hp->VK->Prop
def OpR (X:Cx)(f:Value->Value->Sem Value)(r:R2):Prop:=∀(pins:List (Addr×Obj)) (s:af) (Y:St) (H:Hp) (x y:V) (v u:Value) (Q:VK),Inv X pins Y H s->RelV x v->RelV y u->r x y H Q->wpAny (model X.prog X.w) X.A (f v u) (EP X pins Y Q) X.xe s
def CallR (X:Cx)(f:Value)(r:List V->Hp->VK->Prop):Prop:=∀(pins:List (Addr×Obj)) (s:af) (Y:St) (H:Hp) (xs:List V) (us:List Value) (Q:VK),Inv X pins Y H s->Vals xs us->r xs H Q->wpAny (model X.prog X.w) X.A (call f us) (EP X pins Y Q) X.xe s
def EA (X:Cx)(r:V->Hp->(Bool->Hp->Prop)->Prop):Prop:=∀(pins:List (Addr×Obj)) (s:af) (Y:St) (H:Hp) (x:V) (v:Value) (Q:Bool->Hp->Prop),Inv X pins Y H s->RelV x v->r x H Q->wpAny (model X.prog X.w) X.A (truthy v) (TP X pins Y Q) X.xe s
def iO (r:R2)(ta tb:TE):TE:=λY H Q=>ta Y H λx H1=>tb Y H1 λy H2=>r x y H2 Q
def rI (C:Int->Int->Prop)(g:Int->Int->V):R2:=λx y H Q=>∃i j,x=.int i/\y=.int j/\C i j/\Q (g i j) H
def nQ (g:Int->Int->V):R2:=λx y H Q=>∃i j,x=.int i/\y=.int j/\Q (g i j) H
section
variable {X:Cx}{a b c:Expr}{ta tb tc:TE}{pos:Pos}
theorem binT (ha:PE X a ta)(hb:PE X b tb){pins:List (Addr×Obj)}{s:af}{Y:St}{H:Hp}{R:V->V->Hp->Prop}(I:Inv X pins Y H s)
  (h:ta Y H λx H1=>tb Y H1 λy H2=>R x y H2) {Q:Value->af->Prop} {f:Value->Value->Sem Value}
  (hf:∀v u s2 x y H2,Inv X pins Y H2 s2->RelV x v->RelV y u->R x y H2->wpAny (model X.prog X.w) X.A (f v u) Q X.xe s2):
  wpAny (model X.prog X.w) X.A (eval a X.env) (λv s₁=>wpAny (model X.prog X.w) X.A (eval b X.env) (λu jH=>wpAny (model X.prog X.w) X.A (f v u) Q X.xe jH) X.xe s₁) X.xe s:=by
 refine aO (ha pins s Y H _ I h) λv s1 ⟨x,H1,I1,r1,q1⟩=>?_;refine aO (hb pins s1 Y H1 _ I1 q1) λu s2 ⟨y,H2,I2,r2,q2⟩=>?_;exact hf v u s2 x y H2 I2 r1 r2 q2
theorem EB {op:oa}{r:R2}(ho:OpR X (gc op) r)(ha:PE X a ta)(hb:PE X b tb):PE X (.BinOp a op b pos) (iO r ta tb):=by intro pins s Y H Q I h;exact wpAny_BinOp (binT ha hb I h λv u s2 x y H2 I2 rx ry q=>ho pins s2 Y H2 x y v u Q I2 rx ry q)
theorem opI {f:Value->Value->Sem Value}{C:Int->Int->Prop}{g:Int->Int->Int}
  (rule:∀(i j:Int) (t u:Tok) (s:af) (Q:Value->af->Prop) (E:Value->af->Prop),C i j->Q (.int (g i j) s.toks) {s with toks:=s.toks+1}->wpAny (model X.prog X.w) X.A (f (.int i t) (.int j u)) Q E s):
  OpR X f (rI C λi j=>.int (g i j)):=by
 intro pins s Y H x y v u Q I rx ry h;obtain⟨i,j,rfl,rfl,hc,q⟩:=h;obtain⟨t,rfl⟩:=rx;obtain⟨t',rfl⟩:=ry;exact rule i j t t' s _ _ hc ⟨.int (g i j),H,I.tok _,⟨_,rfl⟩,q⟩
theorem opI0 {f:Value->Value->Sem Value}{g:Int->Int->Int}
  (rule:∀(i j:Int) (t u:Tok) (s:af) (Q:Value->af->Prop) (E:Value->af->Prop),Q (.int (g i j) s.toks) {s with toks:=s.toks+1}->wpAny (model X.prog X.w) X.A (f (.int i t) (.int j u)) Q E s):
  OpR X f (nQ λi j=>.int (g i j)):=by
 intro pins s Y H x y v u Q I rx ry h;obtain⟨i,j,rfl,rfl,q⟩:=h;obtain⟨t,rfl⟩:=rx;obtain⟨t',rfl⟩:=ry;exact rule i j t t' s _ _ ⟨.int (g i j),H,I.tok _,⟨_,rfl⟩,q⟩
theorem opB0 {f:Value->Value->Sem Value}{g:Int->Int->Bool}
  (rule:∀(i j:Int) (t u:Tok) (s:af) (Q:Value->af->Prop) (E:Value->af->Prop),Q (.bool (g i j)) s->wpAny (model X.prog X.w) X.A (f (.int i t) (.int j u)) Q E s):
  OpR X f (nQ λi j=>.bl (g i j)):=by
 intro pins s Y H x y v u Q I rx ry h;obtain⟨i,j,rfl,rfl,q⟩:=h;obtain⟨t,rfl⟩:=rx;obtain⟨t',rfl⟩:=ry;exact rule i j t t' s _ _ ⟨.bl (g i j),H,I,rfl,q⟩
def EC (i j:Int):Prop:=0<=j/\j<=1000000/\i.natAbs<2 ^ 64
def uZ (i j:Int):Prop:=(-(2 ^ 64)<i/\i<2 ^ 64)\/(-(2 ^ 64)<j/\j<2 ^ 64)
theorem uZ.ok {i j:Int}(h:uZ i j):IntMulOk i j:=by
 rcases h with⟨h1,h2⟩|⟨h1,h2⟩
 ·exact .of_left (intBits_le_64 h1 h2)
 ·exact .of_right (intBits_le_64 h1 h2)
theorem QU:OpR X (gc .Add) (nQ λi j=>.int (i+j)):=opI0 λ_ _ _ _ _ _ _ q=>add_int q
theorem QV:OpR X (gc .Sub) (nQ λi j=>.int (i-j)):=opI0 λ_ _ _ _ _ _ _ q=>sub_int q
theorem QW:OpR X (gc .Mult) (rI uZ λi j=>.int (i*j)):=opI λ_ _ _ _ _ _ _ hc q=>mul_int q hc.ok
theorem QX:OpR X (gc .Mod) (rI (λ_ j=>0<j) λi j=>.int (i%j)):=opI λi j _ _ _ _ _ hc q=>by have h1:(0:Int)<j:=hc;exact mod_int' (by omega) (by rw[Int.fmod_eq_emod_of_nonneg i (by omega)];exact q)
theorem QY:OpR X (gc .Pow) (rI EC λi j=>.int (i ^ j.toNat)):=opI λ_ _ _ _ _ _ _ hc q=>pow_int_small hc.1 hc.2.1 hc.2.2 q
end
section
variable {X:Cx}{a b c:Expr}{ta tb tc:TE}{pos:Pos}
theorem Ku {pins:List (Addr×Obj)}{Y:St}{H:Hp}{s:af}{Q:VK}{k k':Bool}(I:Inv X pins Y H s)(q:Q (.bl k) H)(e:k=k'):EP X pins Y Q (.bool k') s:=by subst e;exact⟨.bl k,H,I,rfl,q⟩
theorem QZ:OpR X (c0 .Lt) (nQ λi j=>.bl (decide (i<j))):=opB0 λ_ _ _ _ _ _ _ q=>lt_int q
theorem Q0:OpR X (c0 .Gt) (nQ λi j=>.bl (decide (j<i))):=opB0 λ_ _ _ _ _ _ _ q=>gt_int q
theorem Q3:OpR X (c0 .GtE) (nQ λi j=>.bl (decide (j<=i))):=opB0 λ_ _ _ _ _ _ _ q=>ge_int q
theorem Q4:OpR X (c0 .Lt) (λx y H Q=>∃i j,x=.str i/\y=.str j/\Q (.bl (decide (i.cps.toList<j.cps.toList))) H):=by intro pins s Y H x y v u Q I rx ry h;obtain⟨i,j,rfl,rfl,q⟩:=h;obtain⟨t,rfl⟩:=rx;obtain⟨t',rfl⟩:=ry;exact lt_str (Ku I q rfl)
theorem Q5:OpR X (c0 .In) (λx y H Q=>∃i j,x=.str i/\y=.str j/\Q (.bl (!(iy j i 0 j.length 1).isEmpty)) H):=by intro pins s Y H x y v u Q I rx ry h;obtain⟨i,j,rfl,rfl,q⟩:=h;obtain⟨t,rfl⟩:=rx;obtain⟨t',rfl⟩:=ry;exact in_str (Ku I q rfl)
def isObj:HO->Bool
 |.lst _=>true
 |.ins _ _ _=>true
 |_=>false
theorem Kv {pins:List (Addr×Obj)}{s:af}{Y:St}{H:Hp}{a:Addr}{o:HO}(I:Inv X pins Y H s)(h:H a=some o)(p:isObj o=true):∃ob,s.heap.get? a=some ob/\ob.cls≠.type "tuple":=by
 cases o with
 |lst xs=>obtain⟨_,its,n,_,e⟩:xs.length<=bc/\∃(its:List Value) (n:Nat),Vals xs its/\s.heap.get? a=some {cls:=.type "list",data:=.seq its.toArray n}:=I.hok a _ h;exact⟨_,e,(by show Value.type "list"≠.type "tuple";decide+kernel)⟩
 |ins C dx fs=>have x:=I.hok a _ h;obtain⟨_,_,_,e,_⟩:=x;exact⟨_,e,(by show Value.ref C≠.type "tuple";exact λz=>by cases z)⟩
 |_=>exact absurd (show false=true from p) ce
theorem OpR.or {f:Value->Value->Sem Value}{r r':R2}(h:OpR X f r)(h':OpR X f r'):OpR X f (λx y H Q=>r x y H Q\/r' x y H Q):=by
 intro pins s Y H x y v u Q I rx ry q;rcases q with q|q
 ·exact h pins s Y H x y v u Q I rx ry q
 ·exact h' pins s Y H x y v u Q I rx ry q
theorem Kw {op:CmpOp}{r:R2}(ho:OpR X (c0 op) r)(ha:PE X a ta)(hb:PE X b tb)(hm:dw op b=false):PE X (.Compare a [op] [b] pos) (iO r ta tb):=by intro pins s Y H Q I h;exact wpAny_Compare1 (binT ha hb I h λv u s2 x y H2 I2 rx ry q=>ho pins s2 Y H2 x y v u Q I2 rx ry q) hm
def vw (t:TE):TT:=λY H Q=>t Y H λx H'=>∃k,x=.bl k/\Q k H'
theorem ED {op:CmpOp}{r:R2}(ho:OpR X (c0 op) r)(ha:PE X a ta)(hb:PE X b tb)(hm:dw op b=false):PT X (.Compare a [op] [b] pos) (vw (iO r ta tb)):=by intro pins s Y H Q I h;refine pi (aO (ha pins s Y H _ I h) λv s1 ⟨x,H1,I1,r1,q1⟩=>aO (hb pins s1 Y H1 _ I1 q1) λu s2 ⟨y,H2,I2,r2,q2⟩=>aO (ho pins s2 Y H2 x y v u _ I2 r1 r2 q2) λc s3 ⟨z,H3,I3,r3,k,e,q3⟩=>?_) hm;subst e;cases r3;exact jk ⟨H3,I3,q3⟩
def vx (K:W.Frag)(x:V)(H:Hp)(k:Bool):Prop:=
 match x with
 |.bA=>k=false
 |.bl b=>k=b
 |.int i=>k=(i != 0)
 |.str y=>y.length<=bc/\k=((y.length:Int) != 0)
 |.ref p=>(∃xs,SqL K H p xs/\k=!xs.isEmpty)\/(∃xs,bS K H p xs/\k=!xs.isEmpty)\/∃kvs,H p=some (.dK kvs)/\k=!kvs.isEmpty
 |_=>False
theorem Q6 {κ:Type}{kvs:List (κ×V)}{vs:List (κ×Value)}(r:KV kvs vs):(!vs.isEmpty)=!kvs.isEmpty:=by cases r<;>rfl
theorem Ky {xs:List V}{its:List Value}(r:Vals xs its):(!its.toArray.isEmpty)=!xs.isEmpty:=by cases r<;>simp
theorem vz:(bc:Nat)<2 ^ 63:=by rw[df];decide
theorem Kz:EA X (λx H Q=>∃k,vx X.K x H k/\Q k H):=by
 intro pins s Y H x v Q I rx h;obtain⟨k,e,q⟩:=h;have hl:=vz;have hs:bc=16777216:=df;cases x with
 |bA=>cases rx;have e':k=false:=e;subst e';exact truthy_none ⟨H,I,q⟩
 |bl b=>cases rx;have e':k=b:=e;subst e';exact jk ⟨H,I,q⟩
 |int i=>obtain⟨t,rfl⟩:=rx;have e':k=(i != 0):=e;subst e';exact PySem.P.truthy_int ⟨H,I,q⟩
 |str y=>obtain⟨t,rfl⟩:=rx;obtain⟨hy,e'⟩:y.length<=bc/\k=((y.length:Int) != 0):=e;subst e';exact PySem.P.truthy_str (by omega) ⟨H,I.tok _,q⟩
 |ref p=>
  cases rx;have e':(∃xs,SqL X.K H p xs/\k=!xs.isEmpty)\/(∃xs,bS X.K H p xs/\k=!xs.isEmpty)\/∃kvs,H p=some (.dK kvs)/\k=!kvs.isEmpty:=e;rcases e' with⟨xs,hx,e'⟩|⟨xs,hx,e'⟩|⟨kvs,hx,e'⟩
  ·subst e';obtain⟨its,r,pl,hz⟩:=I.list hx;have hlen:=r.length;exact wpAny_truthy_list pl.isList (by simp only[ax];omega) ⟨H,I.tok _,by rw[Ky r];exact q⟩
  ·subst e';obtain⟨its,r,pl,hz⟩:=I.tuple hx;have hlen:=r.length;exact truthy_tuple pl (by simp only[ax];omega) ⟨H,I.tok _,by rw[Ky r];exact q⟩
  ·subst e';obtain⟨hz,hS,vs,r,m⟩:kvs.length<=bc/\(p==ja)=false/\∃vs,KV kvs vs/\s.heap.DictOf (z0k X.prog X.w) p vs:=I.hok p _ hx;have hlen:kvs.length=vs.length:=Paired.length r;exact wpAny_truthy_dict hS m (by omega) ⟨H,I.tok _,by rw[Q6 r];exact q⟩
 |_=>exact(show False from e).elim
theorem zg6 (ha:PE X a ta)(he:∀whole,ub a X.env whole=(do let v <-whole;standAt a.pos;vf [v] (truthy v))):
  PT X a (λY H Q=>ta Y H λx H'=>∃k,vx X.K x H' k/\Q k H'):=by
 intro pins s Y H Q I h;exact isTrue_plain (aO (ha pins s Y H _ I h) λv s1 ⟨x,H1,I1,r1,q1⟩=>Kz pins s1 Y H1 x v Q I1 r1 q1) (he _)
theorem Q7:OpR X (gc .Add) (λx y H Q=>∃i j,x=.str i/\y=.str j/\i.length+j.length<=bc/\Q (.str (i++j)) H):=by intro pins s Y H x y v u Q I rx ry h;obtain⟨i,j,rfl,rfl,hz,q⟩:=h;obtain⟨t,rfl⟩:=rx;obtain⟨t',rfl⟩:=ry;exact add_str (λt' tk=>⟨.str (i++j),H,I.tok _,⟨_,rfl⟩,q⟩) hz
theorem vals1 {x:V}{us:List Value}(r:Vals [x] us):∃u,us=[u]/\RelV x u:=by
 cases r with
 |cons r1 r2=>cases r2;exact⟨_,rfl,r1⟩
theorem vals2 {x y:V}{us:List Value}(r:Vals [x,y] us):∃u w',us=[u,w']/\RelV x u/\RelV y w':=by
 cases r with
 |cons r1 r2=>
  cases r2 with
  |cons r3 r4=>cases r4;exact⟨_,_,rfl,r1,r3⟩
theorem Q8 (hc:X.calm=true):CallR X (.builtin "max") (λxs H Q=>∃i j,xs=[.int i,.int j]/\Q (.int (if j>i then j else i)) H):=by
 intro pins s Y H xs us Q I r h;obtain⟨i,j,rfl,q⟩:=h;obtain⟨u,w',rfl,⟨t,rfl⟩,⟨t',rfl⟩⟩:=vals2 r;refine max_two_ints (I.ok.hd hc) λh' tk k=>⟨_,H,I.kept k,?_,q⟩;by_cases hj:j>i
 ·rw[vg hj,vg hj];exact⟨_,rfl⟩
 ·rw[vh hj,vh hj];exact⟨_,rfl⟩
theorem Q9:CallR X (.type "int") (λxs H Q=>(∃i,xs=[.int i]/\Q (.int i) H)\/∃k,xs=[.bl k]/\Q (.int (if k then 1 else 0)) H):=by
 intro pins s Y H xs us Q I r h;rcases h with⟨i,rfl,q⟩|⟨k,rfl,q⟩
 ·obtain⟨u,rfl,t,rfl⟩:=vals1 r;exact call_int_int ⟨.int i,H,I,⟨_,rfl⟩,q⟩
 ·obtain⟨u,rfl,r1⟩:=vals1 r;cases r1;exact call_int_bool ⟨.int (if k then 1 else 0),H,I.tok _,⟨_,rfl⟩,q⟩
end
structure vA (h:Heap)(x dx C:Addr)(mA:Str->Option Value):Prop where
 obj:h.get? x=some (W.instObj C dx)
 ns:h.Ns1 dx mA
 ne:dx≠x
theorem Rb {h:Heap}{dx:Addr}{mA:Str->Option Value}(n:h.Ns1 dx mA):∃od,h.get? dx=some od/\∀name,W.lookIn name od=some (mA name):=by
 obtain⟨o,es,ep,ho,hd,hk,_,hm⟩:=n;refine⟨o,ho,λname=>?_⟩;have e:=hm name;unfold nsFind findBy at e;rw[<-q9]at e;unfold W.lookIn;rw[hd]
 dsimp only
 split
 ·rename_i y q;rw[q]at e;exact congrArg some e
 ·rename_i q;rw[q]at e;have a:es.toList.any (·.refKey)=false:=by rw[List.any_eq_false];intro y hy;obtain⟨z,t,EE⟩:=hk y (Array.mem_toList_iff.mp hy);simp[DictEntry.refKey,EE]
  have a':¬es.toList.any (·.refKey)=true:=by rw[a];exact ce
  rw[vh a'];exact congrArg some e
theorem vA.look {h:Heap}{x dx C:Addr}{mA:Str->Option Value}(I:vA h x dx C mA):∃od,W.InstAt h x (W.instObj C dx) C (some od)/\∀name,W.lookIn name od=some (mA name):=
 let⟨od,ho,hl⟩:=Rb I.ns
 ⟨od,⟨I.obj,rfl,rfl,ho⟩,hl⟩
theorem dB.some_of {v:V}{o:Option Value}(r:dB (some v) o):∃u,o=some u/\RelV v u:=by
 cases o with
 |none=>exact(show False from r).elim
 |some u=>exact⟨u,rfl,r⟩
theorem dB.none_of {o:Option Value}(r:dB none o):o=none:=by
 cases o with
 |none=>rfl
 |some u=>exact(show False from r).elim
theorem Rc {v:V}{u:Value}(r:RelV v u):W.handedIn u=true:=by
 cases v with
 |bA=>cases(show u=Value.none from r);rfl
 |bl b=>cases(show u=Value.bool b from r);rfl
 |int i=>obtain⟨t,e⟩:=(show ∃t,u=Value.int i t from r);cases e;rfl
 |str x=>obtain⟨t,e⟩:=(show ∃t,u=Value.str x t from r);cases e;rfl
 |ref a=>cases(show u=Value.ref a from r);rfl
 |ty n=>cases(show u=Value.type n from r);rfl
section
variable {P:bx}{w:World}{H H':Hp}{h h':Heap}{a C dx:Addr}{fs Qr:List (Str×V)}
theorem Rf (hok:HOk P w H h)(e:H a=some (.ins C dx fs)):∃mA,vA h a dx C mA/\(∀f,dB (fs.lookup f) (mA f))/\PySem.Within mA (fs.map (·.1))/\fs.length<=1000/\H dx=some (.own a):=by obtain⟨d,z,ne,ob,mA,n,r,q⟩:=(show z12 P w H h a (.ins C dx fs)from hok a _ e);exact⟨mA,⟨ob,n,ne⟩,r,q,z,d⟩
end
structure xV (K:W.Frag)(C:Addr):Prop where
 pg:W.plainGet K C Str.empty=true
 hd:W.hasDictIn K C=true
 po:W.plainOver K C=true
 sa:W.findIn K (.ref C) "__setattr__"=some (some (.builtin "object.__setattr__"))
theorem xV.get {K:W.Frag}{C:Addr}(c:xV K C)(f:Str):W.plainGet K C f=true:=c.pg
structure Meth (K:W.Frag)(C:Addr)(m:Str)(f:Addr):Prop where
 at_:W.findIn K (.ref C) m=some (some (.ref f))
 fn:W.isFn K (.ref f)=true
 kp:W.keepIn K (.ref f)=true
section
variable {X:Cx}{pins:List (Addr×Obj)}{Y:St}{H:Hp}{s:af}{a C dx:Addr}{fs:List (Str×V)}{f:Str}{v:V}{A:d7}{E:Value->af->Prop}
theorem Inv.made (I:Inv X pins Y H s):Inv X pins Y (upd (upd H s.heap.objs.size (.own (s.heap.objs.size+1))) (s.heap.objs.size+1) (.ins C s.heap.objs.size []))
  {s with heap:=(s.heap.push W.emptyDict).push (W.instObj C s.heap.objs.size)}:=by
 have e1:(s.heap.push W.emptyDict).get? s.heap.objs.size=some W.emptyDict:=bw s.heap rfl
 have e2:((s.heap.push W.emptyDict).push (W.instObj C s.heap.objs.size)).get? (s.heap.objs.size+1)=some (W.instObj C s.heap.objs.size):=by
  have:=bw (s.heap.push W.emptyDict) (o:=W.instObj C s.heap.objs.size) rfl
  rwa [Heap.size_push]at this
 have e3:(s.heap.push W.emptyDict).Ns s.heap.objs.size (λ_=>none):=⟨W.emptyDict,#[],_,e1,rfl,(λe he=>absurd he (by simp)),λ_=>rfl⟩;have I1:=I.laid (a:=s.heap.objs.size) (o:=.own (s.heap.objs.size+1)) (h':=s.heap.push W.emptyDict) (t':=s.toks) (λb u q=>ah _ q) (ag _) ⟨_,e1⟩;refine I1.laid (a:=s.heap.objs.size+1) (o:=.ins C s.heap.objs.size []) (t':=s.toks) (λb u q=>ah _ q) (kw (Heap.size_push _ _)) ?_;have ne:s.heap.objs.size≠s.heap.objs.size+1:=cw (Nat.lt_succ_self _);refine⟨by rw[aL ne,bE],cz _,ne,e2,λ_=>none,(sw e3).at λo q=>ah _ q,λ_=>True.intro,λy hy=>absurd rfl hy⟩
theorem zkh {prog:bx}{w:World}{env:Env}{e:Expr}{f:Str}{pos:Pos}{s:af}{Q:Value->af->Prop}(hb:lq e f env (eval e env)=eval e env)
  (h:wpAny (model prog w) A (eval e env) (λo s₁=>wpAny (model prog w) A (getAttr o f true) Q E s₁) E s):wpAny (model prog w) A (eval (.Attribute e f pos) env) Q E s:=
 Attribute_any_ h (by rw[arm_eval_Attribute,hb])
end
section
variable {X:Cx}{pins:List (Addr×Obj)}{Y:St}{H:Hp}{s:af}{A:d7}{E:Value->af->Prop}{Q:Value->af->Prop}{c:Value}{b:Bool}
inductive TyOf (K:W.Frag)(H:Hp):V->Value->Prop where
 |bA:TyOf K H .bA (.type "NoneType")
 |bl (x:Bool):TyOf K H (.bl x) (.type "bool")
 |int (i:Int):TyOf K H (.int i) (.type "int")
 |str (x:Str):TyOf K H (.str x) (.type "str")
 |lst {a:Addr} {xs:List V} (e:H a=some (.lst xs)):TyOf K H (.ref a) (.type "list")
 |fL {a:Addr} {o:Obj} {xs:List V} (e:H a=some (.fL o (.lst xs))):TyOf K H (.ref a) (.type "list")
 |tup {a:Addr} {xs:List V} (e:H a=some (.tup xs)):TyOf K H (.ref a) (.type "tuple")
 |dK {a:Addr} {kvs:List (Key×V)} (e:H a=some (.dK kvs)):TyOf K H (.ref a) (.type "dict")
 |dT {a:Addr} {kvs:List (List Key×V)} (e:H a=some (.dT kvs)):TyOf K H (.ref a) (.type "dict")
 |ins {a C dx:Addr} {fs:List (Str×V)} (e:H a=some (.ins C dx fs)) (cl:xV K C) (ha:W.findIn K (.ref C) "__class__"=some (some (.builtin "object.__class__")))
  (hn:W.specialIn K (.builtin "object.__class__") "__get__"=some (some (.builtin "getset_descriptor.__get__"))) (xW:W.takesIn K (.builtin "object.__class__")=some true)
  (hm:W.mroIn K C (.type "object")=some true):TyOf K H (.ref a) (.ref C)
theorem z2j {x:V}{u t:Value}(I:Inv X pins Y H s)(rx:RelV x u)(ty:TyOf X.K H x t)(e:W.kitOne X.K t c=some b)(h:∀tk,Q (.bool b) {s with toks:=tk}):
  wpAny (model X.prog X.w) A (call (.builtin "isinstance") [u,c]) Q E s:=by
 cases ty with
 |bA=>cases(show u=Value.none from rx);exact W.kia_one W.kitx_none I.fF True.intro e (λz=>nomatch z) h
 |bl y=>cases(show u=Value.bool y from rx);exact W.kia_one W.kitx_bool I.fF True.intro e (λz=>nomatch z) h
 |int i=>obtain⟨t,q⟩:=(show ∃t,u=Value.int i t from rx);cases q;exact W.kia_one W.kitx_int I.fF True.intro e (λz=>nomatch z) h
 |str y=>obtain⟨t,q⟩:=(show ∃t,u=Value.str y t from rx);cases q;exact W.kia_one W.kitx_str I.fF True.intro e (λz=>nomatch z) h
 | @lst a xs ea=>cases(show u=Value.ref a from rx);obtain⟨_,_,n,_,h1⟩:=(show z12 X.prog X.w H s.heap a (.lst xs)from I.hok a _ ea);exact W.kia_one W.kitx_list I.fF ⟨_,h1,rfl⟩ e (λz=>nomatch z) h
 | @fL a ob xs ea=>cases(show u=Value.ref a from rx);obtain⟨_,_,_,n,_,h1⟩:=(show z12 X.prog X.w H s.heap a (.fL ob (.lst xs))from I.hok a _ ea);exact W.kia_one W.kitx_list I.fF ⟨_,h1,rfl⟩ e (λz=>nomatch z) h
 | @tup a xs ea=>cases(show u=Value.ref a from rx);obtain⟨_,_,_,p⟩:=(show z12 X.prog X.w H s.heap a (.tup xs)from I.hok a _ ea);obtain⟨o,h1,h2,_⟩:=p.tup;exact W.kia_one W.kitx_tuple I.fF ⟨o,h1,h2⟩ e (λz=>nomatch z) h
 | @dK a kvs ea=>cases(show u=Value.ref a from rx);obtain⟨_,_,vs,_,p⟩:=(show z12 X.prog X.w H s.heap a (.dK kvs)from I.hok a _ ea);obtain⟨o,es,ep,h1,h2,_⟩:=p;exact W.kia_one W.kitx_dict I.fF ⟨o,h1,h2.1⟩ e (λz=>nomatch z) h
 | @dT a kvs ea=>cases(show u=Value.ref a from rx);obtain⟨_,_,xs,_,o,es,ep,h1,h2,_⟩:=(show z12 X.prog X.w H s.heap a (.dT kvs)from I.hok a _ ea);exact W.kia_one W.kitx_dict I.fF ⟨o,h1,h2.1⟩ e (λz=>nomatch z) h
 | @ins a C dx fs ea cl ha hn xW hm=>cases(show u=Value.ref a from rx);obtain⟨mA,O,_⟩:=Rf I.hok ea;obtain⟨od,J,_⟩:=O.look;exact W.kia_one (W.kitx_own (cl.get _) cl.hd ha hn xW hm) I.fF J e (λz=>nomatch z) h
end
structure Room (k:Nat)(A:d7):Prop where
 hd:A.handled=none
 dp:A.depth+3*k+5<recursionLimit
 un:A.units+16*k+200<cLine
theorem Room.mono {j k:Nat}{A:d7}(r:Room k A)(h:j<=k):Room j A:=⟨r.hd,by have:=r.dp;omega,by have:=r.un;omega⟩
theorem Room.deeper {k:Nat}{A:d7}(r:Room (k+1) A)(env:Env):Room k (A.deeper env):=⟨r.hd,by have:=r.dp;show A.depth+1+3*k+5<_;omega,by have:=r.un;show A.units+3+16*k+200<_;omega⟩
theorem Room.depth {k:Nat}{A:d7}(r:Room k A):A.depth<recursionLimit:=by have:=r.dp;omega
theorem Room.units {k:Nat}{A:d7}(r:Room k A):A.units+64<cLine:=by have:=r.un;omega
def kZ:TA:=λ_ H Q=>Q [] H
def vB (ta:TE)(tr:TA):TA:=λY H Q=>ta Y H λx H1=>tr Y H1 λxs H2=>Q (x::xs) H2
section
variable {X:Cx}{e:Expr}{es:List Expr}{te:TE}{t:TA}{pos:Pos}
theorem pF:PA X [] kZ:=λ_ _ _ _ H Q I h=>Calls.spliced_nil ⟨[],H,I,.nil,h⟩
theorem EF (ha:PE X e te)(hr:PA X es t)(hs:d5 (e::es) X.env=(false,eval e X.env)::d5 es X.env:=by rfl):PA X (e::es) (vB te t):=by intro pos pins s Y H Q I h;rw[hs];show wpAny _ _ (spliced ((false,eval e X.env)::l6 pos (d5 es X.env))) _ _ s;refine Calls.spliced_cons (aO (ha pins s Y H _ I h) λu s1 ⟨x,H1,I1,r1,q1⟩=>?_);exact aO (hr pos pins s1 Y H1 _ I1 q1) λus s2 ⟨xs,H2,I2,r2,q2⟩=>⟨x::xs,H2,I2,.cons r1 r2,q2⟩
def zl (t:TA):TE:=λY H Q=>t Y H λxs H1=>xs.length<=bc/\∀p,H1 p=none->Q (.ref p) (upd H1 p (.tup xs))
def zm (t:TA):TE:=λY H Q=>t Y H λxs H1=>xs.length<=bc/\∀p,H1 p=none->Q (.ref p) (upd H1 p (.lst xs))
theorem KA {x1}(h:PA X es t):PE X (.Tuple es x1 pos) (zl t):=by intro pins s Y H Q I hq;refine wpAny_Tuple_spliced (aO (h pos pins s Y H _ I hq) λus s1 ⟨xs,H1,I1,r,z,q⟩=>⟨by rw[<-r.length];exact z,?_⟩);have hf:H1 s1.heap.objs.size=none:=I1.hok.fresh (ag _);refine⟨.ref s1.heap.objs.size,upd H1 s1.heap.objs.size (.tup xs),I1.laid (t':=s1.toks) (λb u e=>ah _ e) (ag _) ?_,rfl,q _ hf⟩;exact⟨z,us,r,⟨_,bw _ rfl⟩⟩
theorem EG (h:PA X es t):PE X (.List es pos) (zm t):=by intro pins s Y H Q I hq;refine wpAny_List_spliced (aO (h pos pins s Y H _ I hq) λus s1 ⟨xs,H1,I1,r,z,q⟩=>⟨by rw[<-r.length];exact z,?_⟩);have hf:H1 s1.heap.objs.size=none:=I1.hok.fresh (ag _);refine⟨.ref s1.heap.objs.size,upd H1 s1.heap.objs.size (.lst xs),I1.laid (t':=s1.toks) (λb u e=>ah _ e) (ag _) ?_,rfl,q _ hf⟩;exact⟨z,us,0,r,bw _ rfl⟩
end
abbrev Sp:=List V->Hp->VK->XK->Prop
abbrev CXT:=List Env->Hp->af->XK->Value->af->Prop
structure qA (P:bx)(w:World)(K:W.Frag)(mg:Str->Option Value)(base:Heap)(A:d7)(outer:List Env)(s:af)(H:Hp):Prop where
 frames:A.frames=some outer
 mod:Mod K mg base
 bs:∀b o,base.get? b=some o->s.heap.get? b=some o/\H b=none
 kW:base.objs.size<=s.heap.objs.size
 cV:s.heap.FunFrames base outer
 pX:∀b∈frs outer,H b=none
 hok:HOk P w H s.heap
 bare:ml s.gens
def CE (outer:List Env)(P:bx)(w:World)(H:Hp)(s:af)(Q:VK)(u:Value)(s':af):Prop:=∃v H',s'.os=s.os/\ml s'.gens/\Un (frs outer) [] H H' s.heap s'.heap/\HOk P w H' s'.heap/\RelV v u/\Q v H'
def CR (CX:CXT)(outer:List Env)(P:bx)(w:World)(H:Hp)(s:af)(Q:VK)(E:XK)(r:Result)(s':af):Prop:=
 match r with
 |.ok (.ret u)=>CE outer P w H s Q u s'
 |.ok _=>False
 |.error e=>CX outer H s E e s'
structure FnOk (P:bx)(w:World)(K:W.Frag)(mg:Str->Option Value)(base:Heap)(CX:CXT)(k:Nat)(f:Addr)(fd:eh)(ps:List Str)(sp:Sp):Prop where
 len:∀vs H Q E,sp vs H Q E->vs.length=ps.length
 run:∀(A:d7) (outer:List Env) (s:af) (H:Hp) (args:Args) (us:List Value) (vs:List V) (Q:VK) (E:XK),Room k A->qA P w K mg base A outer s H->qd s fd args (ps.zip us)->Vals vs us->sp vs H Q E->kz (model P w) A (.call (.ref f) args) (CR CX outer P w H s Q E) s
section
variable {X:Cx}{pins:List (Addr×Obj)}{Y:St}{H:Hp}{s s':af}
theorem Inv.EH (I:Inv X pins Y H s):qA X.prog X.w X.K X.mg X.base X.A X.stack s H:=⟨I.ok.frames,I.ok.mod,I.bs,cg I.ok.kW I.sz,I.stack,I.gI,I.hok,I.bare⟩
theorem Inv.after {Q:VK}{u:Value}(I:Inv X pins Y H s)(h:CE X.stack X.prog X.w H s Q u s'):EP X pins Y Q u s':=by obtain⟨v,H',os,bare,un,hok,r,q⟩:=h;obtain⟨hh,g,d,t,Rg⟩:=s';obtain rfl:Rg=s.os:=os;exact⟨v,H',I.call (h':=hh) (g':=g) (d':=d) (t':=t) (ch:=[]) un hok bare (λb z=>absurd z (by simp)),r,q⟩
end
def xX (sp:Sp)(dvs:List V)(E:XK)(t:TA):TE:=λY H Q=>t Y H λvs H1=>sp (vs++dvs) H1 Q E
def Binds (K:W.Frag)(fd:eh)(ps:List Str)(ds:List Value):Prop:=∀(s:af) (us:List Value),K.In s.heap->(us++ds).length=ps.length->qd s fd ⟨us,[]⟩ (ps.zip (us++ds))
theorem Binds.all {K:W.Frag}{fd:eh}{ps:List Str}(h:∀us:List Value,us.length=ps.length->ut fd ⟨us,[]⟩=pure (ps.zip us)):Binds K fd ps []:=λs us _ hl=>by rw[cr]at hl ⊢;exact .of_eq (h us hl)
def z8p (CX:CXT)(X:Cx)(E:XK):Prop:=∀(pins:List (Addr×Obj)) (Y:St) (H:Hp) (s:af) (e:Value) (s':af),Inv X pins Y H s->CX X.stack H s E e s'->X.xe e s'
section
variable {X:Cx}{CX:CXT}{k:Nat}{f C:Addr}{fd:eh}{ps:List Str}{sp:Sp}{dvs:List V}{ds:List Value}{E:XK}{x m:Str}{p pos apos:Pos}{e o:Expr}{es:List Expr}{ta:TE}{t:TA}
theorem zp6 {pins:List (Addr×Obj)}{Y:St}{H:Hp}{s:af}{Q:VK}{us:List Value}{vs:List V}(F:FnOk X.prog X.w X.K X.mg X.base CX k f fd ps sp)(hr:Room k X.A)(hb:Binds X.K fd ps ds)(hd:Vals dvs ds)(hx:z8p CX X E)
  (I:Inv X pins Y H s) (r:Vals vs us) (h:sp (vs++dvs) H Q E):wpAny (model X.prog X.w) X.A (call (.ref f) us) (EP X pins Y Q) X.xe s:=by
 have r2:Vals (vs++dvs) (us++ds):=r.append hd;have hl:(us++ds).length=ps.length:=by rw[<-r2.length];exact F.len _ _ _ _ h
 refine wpAny_call (om (F.run X.A X.stack s H ⟨us,[]⟩ (us++ds) (vs++dvs) Q E hr I.EH (hb s us I.fF hl) r2 h) λr s' hq=>?_);cases r with
 |error e=>exact hx pins Y H s e s' I hq
 |ok fl=>
  cases fl with
  |ret u=>exact I.after hq
  |next=>exact False.elim hq
  |brk=>exact False.elim hq
  |cont=>exact False.elim hq
theorem zdw (F:FnOk X.prog X.w X.K X.mg X.base CX k f fd ps sp)(hr:Room k X.A)(hg:Gl X x)(hm:X.mg x=some (.ref f))(hk:W.keepIn X.K (.ref f)=true)(hb:Binds X.K fd ps ds)(hd:Vals dvs ds)(hx:z8p CX X E)
  (ha:PA X (e::es) t) (hdb:aab x:=by decide) (he:d5 (e::es) X.env=(false,eval e X.env)::d5 es X.env:=by rfl) (qB:(l6 pos (d5 es X.env)).any (·.1)=false:=by rfl):
  PE X (.Call (.Name x p) (e::es) [] pos) (xX sp dvs E t):=by
 intro pins s Y H Q I h;refine j7 (z82 I hg hm ?_ hdb);refine W.callWith_K (h₀:=X.base) I.ok.mod.Ei hk (aO (ha pos pins s Y H _ I h) λus s1 ⟨vs,H1,I1,r,q⟩=>⟨I1.fF,?_⟩) he qB;exact zp6 F hr hb hd hx I1 r q
structure Mk (K:W.Frag)(C f:Addr):Prop where
 makes:W.makesIn K C=true
 init:W.findIn K (.ref C) "__init__"=some (some (.ref f))
 fn:W.isFn K (.ref f)=true
 kp:W.keepIn K (.ref C)=true
end
def PK (X:Cx)(KC:List qe)(t:TA):Prop:=∀(pos:Pos) (pins:List (Addr×Obj)) (s:af) (Y:St) (H:Hp) (Q:List V->Hp->Prop),Inv X pins Y H s->t Y H Q->wpAny (model X.prog X.w) X.A (evalAll ((backToKw pos (ue KC X.env)).map (·.2))) (AP X pins Y Q) X.xe s
section
variable {X:Cx}{CX:CXT}{k:Nat}{f C:Addr}{fd:eh}{ps ks:List Str}{sp:Sp}{E:XK}{x m:Str}{p pos apos Rh:Pos}{e o:Expr}{es:List Expr}{KC:List qe}{te ta:TE}{t tk:TA}{nm:Option Str}
structure vC (K:W.Frag)(fd:eh)(ps ks:List Str)(g:List Value->List Value->List Value)(gV:List V->List V->List V):Prop where
 to:∀(s:af) (us ws:List Value),K.In s.heap->(g us ws).length=ps.length->qd s fd ⟨us,ks.zip ws⟩ (ps.zip (g us ws))
 rel:∀{vs:List V} {us:List Value} {zs:List V} {ws:List Value},Vals vs us->Vals zs ws->Vals (gV vs zs) (g us ws)
variable {g:List Value->List Value->List Value}{gV:List V->List V->List V}
end
structure FnScope (N P:List Str)(sc:Scope):Prop where
 kind:sc.kind=.function
 co:sc.isCoroutine=false
 gen:sc.isGenerator=false
 nd:N.Nodup
 pre:N.take P.length=P
 par:∀x∈P,sc.names.lookup x=some .local\/sc.names.lookup x=some .cell
 vD:∀y∈sc.names,y.2≠.free
theorem KD {lh:Str->Option gq}{x:Str}:∀{binds:List (Str×Value)} {m:Str->Option Value},(∀v,(x,v)∉binds)->bindL lh binds m x=m x
 | [],_,_=>rfl
 |(n,v)::r,m,h=>by
  unfold bindL;rw[KD λw hw=>h w (bn _ hw)];split
  ·have :x≠n:=by rintro rfl;exact h v az
   simp[this]
  ·rfl
theorem KG {lh:Str->Option gq}{x:Str}:∀{binds:List (Str×Value)} {m:Str->Option Value},(∀v,(x,v)∉binds)->bindC lh binds m x=m x
 | [],_,_=>rfl
 |(n,v)::r,m,h=>by
  unfold bindC;rw[KG λw hw=>h w (bn _ hw)];split
  ·rfl
  ·have :x≠n:=by rintro rfl;exact h v az
   simp[this]
theorem z6z {lh:Str->Option gq}{x:Str}{v:Value}:∀{P:List Str} {vs:List Value} {i:Nat} {m:Str->Option Value},P.Nodup->P[i]?=some x->vs[i]?=some v->lh x=some .local->
  bindL lh (P.zip vs) m x=some v
 | [],_,_,_,_,h,_,_=>by simp at h
 |_::_,[],_,_,_,_,h,_=>by simp at h
 |p::P,w::vs,0,m,nd,h1,h2,hk=>by simp at h1 h2;subst h1;subst h2;show bindL lh ((p,w)::P.zip vs) m p=_;unfold bindL;rw[KD λv hv=>(bg.mp nd).1 (o9 hv).1,vg hk];simp
 |p::P,w::vs,i+1,m,nd,h1,h2,hk=>by show bindL lh ((p,w)::P.zip vs) m x=_;unfold bindL;exact z6z (i:=i) (bg.mp nd).2 (by simpa using h1) (by simpa using h2) hk
theorem z74 {lh:Str->Option gq}{x:Str}{v:Value}:∀{P:List Str} {vs:List Value} {i:Nat} {m:Str->Option Value},P.Nodup->P[i]?=some x->vs[i]?=some v->lh x≠some .local->
  bindC lh (P.zip vs) m x=some v
 | [],_,_,_,_,h,_,_=>by simp at h
 |_::_,[],_,_,_,_,h,_=>by simp at h
 |p::P,w::vs,0,m,nd,h1,h2,hk=>by simp at h1 h2;subst h1;subst h2;show bindC lh ((p,w)::P.zip vs) m p=_;unfold bindC;rw[KG λv hv=>(bg.mp nd).1 (o9 hv).1,vh hk];simp
 |p::P,w::vs,i+1,m,nd,h1,h2,hk=>by show bindC lh ((p,w)::P.zip vs) m x=_;unfold bindC;exact z74 (i:=i) (bg.mp nd).2 (by simpa using h1) (by simpa using h2) hk
def start (N:List Str)(vs:List V):St:=vs.map some++ba (N.length-vs.length) none
def gL (CX:CXT)(P:bx)(w:World)(K:W.Frag)(mg:Str->Option Value)(base:Heap)(N:List Str)(qual:Str)(scope:Scope)(f:Addr)(cd:Value)(A:d7)(outer:List Env)(s:af)(H:Hp)(E:XK):Cx where
 prog:=P
 w:=w
 K:=K
 mg:=mg
 base:=base
 A:=A.deeper (p3 qual scope s.heap.objs.size f cd)
 N:=N
 s₀:=s
 iH:=H
 env:=p3 qual scope s.heap.objs.size f cd
 outer:=outer
 stack:=p3 qual scope s.heap.objs.size f cd::outer
 ex:=[]
 calm:=true
 fn:=λ_=>true
 pn:=[]
 xe:=λe s'=>wpAny (model P w) (A.deeper (p3 qual scope s.heap.objs.size f cd)) (um (p3 qual scope s.heap.objs.size f cd) e) (λ_ mP=>CX outer H s E e mP) (λe' mP=>CX outer H s E e' mP) s'
theorem KH {sc:Scope}{n:Nat}{x:Str}(h:sc.names.lookup x=some .cell):∃c,(cellsFrom n sc.names []).lookup x=some c:=by have q:=W.cellsFrom_some sc.names n [] (.inl h);exact Option.isSome_iff_exists.mp q
theorem zbs {CX:CXT}{P:bx}{w:World}{K:W.Frag}{mg:Str->Option Value}{base:Heap}{N ps:List Str}{qual:Str}{scope:Scope}{f:Addr}{cd:Value}{A:d7}{outer:List Env}{s s1:af}{H:Hp}{E:XK}{us:List Value}{vs:List V}
  (S:FnScope N ps scope) (hd:A.handled=none) (e0:qA P w K mg base A outer s H) (hl:vs.length=ps.length) (r:Vals vs us)
  (x:InCallC s s.heap.objs.size (bindL (p3 qual scope s.heap.objs.size f cd).kindOf (ps.zip us) λ_=>none) (cellsFrom (s.heap.objs.size+1) scope.names []) (bindC (p3 qual scope s.heap.objs.size f cd).kindOf (ps.zip us) λ_=>none) s1):
  Inv (gL CX P w K mg base N qual scope f cd A outer s H E) [] (start N vs) H s1:=by
 have qB:ps.length<=N.length:=by have:=congrArg uf S.pre;rw[iz]at this;omega
 obtain⟨h1,tk,rfl,hk⟩:=x.done;have zo:∀b:Addr,b∉(gL CX P w K mg base N qual scope f cd A outer s H E).ex:=λb z=>absurd (show b∈([]:List Addr)from z) (by simp);refine⟨⟨e0.mod,S.kind,rfl,rfl,ag _,λy z c h1 h2=>?_,λy hy=>?_,λy c _ h=>?_,λ_=>hd,Around.frames_deeper e0.frames,.inr ⟨rfl,rfl⟩,λb z=>absurd z (zo b),e0.bs,e0.kW,λb _ _=>zo b,λb z=>absurd z (zo b),e0.cV,e0.pX,λ_ _ z=>by cases z⟩,rfl,e0.bare,Un.kept hk,⟨_,x.toInCall.ns,λi y v h1 h2 h3=>?_⟩,λy c h=>⟨_,x.cell y c h⟩,e0.hok.fresh (ag _),λy c h=>?_,λp hp=>absurd (show p∈([]:List (Addr×Obj))from hp) (by simp),e0.hok.kept hk,?_,λ_ _ z=>by cases z⟩
 ·exact name_of_addr x.apart (PySem.mem_of_lookup h1) (PySem.mem_of_lookup h2)
 ·have hy:scope.names.lookup y=some .cell\/scope.names.lookup y=some .free:=hy;rcases hy with hy|hy
  ·exact KH hy
  ·exact absurd rfl (S.vD _ (PySem.mem_of_lookup hy))
 ·exact jc (x.above y c (PySem.mem_of_lookup h))
 ·have hi:i<vs.length:=by
   unfold start at h2;by_cases hi:i<vs.length
   ·exact hi
   ·rw[e9 (by simpa using hi)]at h2;rw[dq]at h2;split at h2<;>cases h2
  have ha:vs[i]?=some v:=by
   unfold start at h2;rw[fq (by simpa using hi),bj]at h2;cases e:vs[i]? with
   |none=>rw[e]at h2;cases h2
   |some a=>rw[e]at h2;cases h2;rfl
  obtain⟨u,hu,rv⟩:=r.get ha;have hp:ps[i]?=some y:=by rw[<-S.pre,List.getElem?_take_of_lt (by omega)];exact h1
  have KI:ps.Nodup:=by rw[<-S.pre];exact S.nd.sublist (List.take_sublist _ _)
  refine⟨u,rv,?_⟩;rcases S.par y (cj hp)with k|k
  ·exact .inl ⟨k,z6z KI hp hu k⟩
  ·obtain⟨c,e⟩:=KH (n:=s.heap.objs.size+1) k;refine .inr ⟨.inl k,c,e,?_⟩;have q:=x.cell y c e;rw[z74 KI hp hu (by show scope.names.lookup y≠_;rw[k];decide)]at q;exact q
 ·exact e0.hok.fresh (jc (x.above y c (PySem.mem_of_lookup h)))
 ·unfold start;show _=N.length;rw[au,ac,cf];omega
theorem zkj {CX:CXT}{P:bx}{w:World}{K:W.Frag}{mg:Str->Option Value}{base:Heap}{k:Nat}{f:Addr}{name qual:Str}{params:Arguments}{body:List Stmt}{scope:Scope}{dV kV doc pm cdv ct oc:Value}{an od:Option Addr}
  {osl:Array (Option Value)} {N ps:List Str} {sp:Sp} (lk:K.lookup f=some ⟨oc,od,.func (W.fnOf name qual params body scope dV kV doc pm an cdv ct),osl⟩) (hcd:W.codeIn K cdv qual=true) (S:FnScope N ps scope)
  (len:∀vs H Q E,sp vs H Q E->vs.length=ps.length)
  (nR:∀(A:d7) (outer:List Env) (s:af) (H:Hp) (vs:List V) (Q:VK) (E:XK),Room k (A.deeper (p3 qual scope s.heap.objs.size f cdv))->sp vs H Q E->∃t,PSs (gL CX P w K mg base N qual scope f cdv A outer s H E) body t/\t {nx:=λ_ H'=>Q .bA H',rt:=Q} (start N vs) H):
  FnOk P w K mg base CX (k+1) f (W.fnOf name qual params body scope dV kV doc pm an cdv ct) ps sp:=by
 refine⟨len,λA outer s H args us vs Q E hr e0 hb r kH=>?_⟩;have hl:=len _ _ _ _ kH;have KX:K.In s.heap:=e0.mod.Ei.keeps λb o e=>(e0.bs b o e).1;have lim:s.heap.NoLimit:=e0.mod.nolimit.keeps λb o e=>(e0.bs b o e).1
 have zp:∀y∈ps.zip us,scope.names.lookup y.1=some .local\/(scope.names.lookup y.1=some .cell/\((cellsFrom (s.heap.objs.size+1) scope.names []).lookup y.1).isSome=true):=λ⟨n,v⟩ hy=>by
  rcases S.par n (o9 hy).1 with q|q
  ·exact .inl q
  ·exact .inr ⟨q,W.cellsFrom_some _ _ _ (.inl q)⟩
 refine codeAny_call_function hr.depth (KX _ _ lk) rfl S.co S.gen rfl (W.codeRec_of KX hcd) (hb _ _ _ _ ?_);refine wpAny_newFunctionEnv_cells S.kind zp λenv he s1 x=>?_;subst he;refine⟨lim.keeps x.toInCall.keep,codeAny_func ?_⟩;obtain⟨t,ht,hq⟩:=nR A outer s H vs Q E (hr.deeper _) kH;have I:Inv (gL CX P w K mg base N qual scope f cdv A outer s H E) [] (start N vs) H s1:=zbs S hr.hd e0 hl r x;refine jl (ht [] s1 (start N vs) H _ I hq) (λfl s' hs=>?_) λe s' hs=>hs;have fin:∀{σ':St} {H':Hp} {v:V} {u:Value},Inv (gL CX P w K mg base N qual scope f cdv A outer s H E) [] σ' H' s'->RelV v u->Q v H'->CE outer P w H s Q u s':=λ{σ' H' v u} J rv q=>⟨v,H',J.os,J.bare,J.base,J.hok,rv,q⟩;cases fl with
 |ret u=>obtain⟨v,σ',H',J,rv,q⟩:=hs;exact fin J rv q
 |next=>obtain⟨σ',H',J,q⟩:=hs;exact fin (v:=V.bA) (u:=Value.none) J rfl q
 |brk=>obtain⟨_,_,_,q⟩:=hs;exact False.elim q
 |cont=>obtain⟨_,_,_,q⟩:=hs;exact False.elim q
section
variable {X:Cx}{x:Str}{p pos:Pos}{e:Expr}{es:List Expr}{t:TA}{id T:String}{r:List V->Hp->VK->Prop}
def vE (r:List V->Hp->VK->Prop)(t:TA):TE:=λY H Q=>t Y H λvs H1=>r vs H1 Q
theorem zhr (hc:CallR X (.builtin id) r)(hg:Gl X x)(hm:X.mg x=none)(hv:dg x=some (.builtin id))(ha:PA X (e::es) t)(hn:x≠"__name__":=by decide)(hdb:aab x:=by decide)
  (he:d5 (e::es) X.env=(false,eval e X.env)::d5 es X.env:=by rfl) (qB:(l6 pos (d5 es X.env)).any (·.1)=false:=by rfl):PE X (.Call (.Name x p) (e::es) [] pos) (vE r t):=by
 intro pins s Y H Q I h;refine j7 (z38 I hg hm hv ?_ hn hdb);exact PyProof.Rows.callWith_builtin1 (aO (ha pos pins s Y H _ I h) λus s1 ⟨vs,H1,I1,r1,q1⟩=>hc pins s1 Y H1 vs us Q I1 r1 q1) he qB
theorem zbf (hc:CallR X (.type T) r)(hg:Gl X x)(hm:X.mg x=none)(hv:dg x=some (.type T))(ha:PA X (e::es) t)(hn:x≠"__name__":=by decide)(hdb:aab x:=by decide)
  (he:d5 (e::es) X.env=(false,eval e X.env)::d5 es X.env:=by rfl) (qB:(l6 pos (d5 es X.env)).any (·.1)=false:=by rfl):PE X (.Call (.Name x p) (e::es) [] pos) (vE r t):=by
 intro pins s Y H Q I h;refine j7 (z38 I hg hm hv ?_ hn hdb);exact PyProof.Rows.callWith_type1 (aO (ha pos pins s Y H _ I h) λus s1 ⟨vs,H1,I1,r1,q1⟩=>hc pins s1 Y H1 vs us Q I1 r1 q1) he qB
end
section
variable {κ:Type} [DecidableEq κ]
def cW (kvs:List (κ×V))(k:κ):Option V:=(kvs.find? λkv=>decide (kv.1=k)).map (·.2)
def putK (kvs:List (κ×V))(k:κ)(v:V):List (κ×V):=if(kvs.any λkv=>decide (kv.1=k))=true then kvs.map (λkv=>if kv.1=k then(kv.1,v)else kv)else kvs++[(k,v)]
theorem B7 {p:κ×V}{r:List (κ×V)}{k:κ}(e:p.1=k):cW (p::r) k=some p.2:=by simp[cW,jg,e]
theorem B8 {p:κ×V}{r:List (κ×V)}{k:κ}(e:¬p.1=k):cW (p::r) k=cW r k:=by simp[cW,jg,e]
theorem KJ (k:κ):∀kvs:List (κ×V),(kvs.any λkv=>decide (kv.1=k))=(cW kvs k).isSome
 | []=>rfl
 |p::r=>by
  rw[jh];by_cases e:p.1=k
  ·simp only[B7 e,vn e,Bool.true_or,Option.isSome_some]
  ·rw[B8 e,vo e,Bool.false_or];exact KJ k r
theorem B9 (kvs:List (κ×V))(k:κ)(v:V):(putK kvs k v).length<=kvs.length+1:=by
 unfold putK;split
 ·rw[ac];omega
 ·rw[au,bv,List.length_nil];omega
theorem dB.bX {o:Option V}{u:Option Value}(r:dB o u):o.isSome=u.isSome:=by
 cases o with
 |none=>cases u with
  |none=>rfl
  |some _=>exact(show False from r).elim
 |some _=>cases u with
  |none=>exact(show False from r).elim
  |some _=>rfl
theorem dB.getD {o:Option V}{u:Option Value}{d:V}{d':Value}(r:dB o u)(rd:RelV d d'):RelV (o.getD d) (u.getD d'):=by
 cases o with
 |none=>cases u with
  |none=>exact rd
  |some _=>exact(show False from r).elim
 |some _=>cases u with
  |none=>exact(show False from r).elim
  |some _=>exact r
theorem KV.val {kvs:List (κ×V)}{vs:List (κ×Value)}(r:KV kvs vs)(k:κ):dB (cW kvs k) (qf vs k):=by
 unfold KV at r
 induction r with
 |nil=>exact True.intro
 | @cons p q ps qs h t ih=>
  obtain⟨h1,h2⟩:=h;by_cases e:p.1=k
  ·have e':q.1=k:=h1.symm.trans e;have b:qf (q::qs) k=some q.2:=by simp[qf,jg,e']
   rw[B7 e,b];exact h2
  ·have e':¬q.1=k:=λz=>e (h1.trans z);have b:qf (q::qs) k=qf qs k:=by simp[qf,jg,e']
   rw[B8 e,b];exact ih
theorem KV.any {kvs:List (κ×V)}{vs:List (κ×Value)}(r:KV kvs vs)(k:κ):(kvs.any λkv=>decide (kv.1=k))=vs.any λkv=>decide (kv.1=k):=by
 unfold KV at r
 induction r with
 |nil=>rfl
 |cons h t ih=>rw[jh,jh,ih,h.1]
theorem KV.repl {kvs:List (κ×V)}{vs:List (κ×Value)}(r:KV kvs vs)(k:κ){y:V}{u:Value}(ry:RelV y u):
  KV (kvs.map λkv=>if kv.1=k then(kv.1,y)else kv) (vs.map λkv=>if kv.1=k then(kv.1,u)else kv):=by
 unfold KV at r ⊢
 induction r with
 |nil=>exact .nil
 | @cons p q ps qs h t ih=>
  rw[bh,bh];refine .cons ?_ ih;obtain⟨h1,h2⟩:=h;by_cases e:p.1=k
  ·rw[vg e,vg (h1.symm.trans e)];exact⟨h1,ry⟩
  ·rw[vh e,vh (λz=>e (h1.trans z))];exact⟨h1,h2⟩
theorem KV.put {kvs:List (κ×V)}{vs:List (κ×Value)}(r:KV kvs vs)(k:κ){y:V}{u:Value}(ry:RelV y u):KV (putK kvs k y) (stored vs k u):=by
 unfold putK stored;rw[r.any k];by_cases e:(vs.any λkv=>decide (kv.1=k))=true
 ·rw[vg e,vg e];exact r.repl k ry
 ·rw[vh e,vh e];exact Paired.snoc r ⟨rfl,ry⟩
theorem KV.length {kvs:List (κ×V)}{vs:List (κ×Value)}(r:KV kvs vs):kvs.length=vs.length:=Paired.length r
end
theorem sU {P:bx}{w:World}{k:Key}{u:Value}(r:RelV (kV k) u):(z0k P w).is k u=true:=by
 cases k with
 |inl i=>obtain⟨t,e⟩:=(show ∃t,u=Value.int i t from r);subst e;exact Qn P w i t
 |inr x=>obtain⟨t,e⟩:=(show ∃t,u=Value.str x t from r);subst e;exact Qo P w x t
theorem KN {P:bx}{w:World}:∀{ks:List Key} {us:List Value},Vals (ks.map kV) us->ItemsAre (z0k P w) ks us
 | [],_,r=>by rw[tm]at r;cases r;exact .nil
 |k::ks,_,r=>by
  rw[bh]at r;cases r with
  |cons h t=>exact .cons (sU h) (KN t)
abbrev KT (H:Hp):List (List Key×V)->List (List Key×Addr×Value)->Prop:=jt λp q=>p.1=q.1/\H q.2.1=some (.tup (p.1.map kV))/\RelV p.2 q.2.2
theorem KT.val {H:Hp}{kvs:List (List Key×V)}{xs:List (List Key×Addr×Value)}(r:KT H kvs xs)(k:List Key):dB (cW kvs k) ((atKey xs k).map (·.2)):=by
 induction r with
 |nil=>exact True.intro
 | @cons p q ps qs h t ih=>
  obtain⟨h1,_,h2⟩:=h;by_cases e:p.1=k
  ·have e':q.1=k:=h1.symm.trans e;have b:atKey (q::qs) k=some q.2:=by simp[atKey,jg,e']
   rw[B7 e,b];exact h2
  ·have e':¬q.1=k:=λz=>e (h1.trans z);have b:atKey (q::qs) k=atKey qs k:=by simp[atKey,jg,e']
   rw[B8 e,b];exact ih
theorem KT.repl {H:Hp}{kvs:List (List Key×V)}{xs:List (List Key×Addr×Value)}(r:KT H kvs xs)(k:List Key){y:V}{u:Value}(ry:RelV y u):
  KT H (kvs.map λkv=>if kv.1=k then(kv.1,y)else kv) (xs.map (putAt k u)):=by
 induction r with
 |nil=>exact .nil
 | @cons p q ps qs h t ih=>
  rw[bh,bh];refine .cons ?_ ih;obtain⟨h1,h2,h3⟩:=h;unfold putAt;by_cases e:p.1=k
  ·rw[vg e,vg (h1.symm.trans e)];exact⟨h1,h2,ry⟩
  ·rw[vh e,vh (λz=>e (h1.trans z))];exact⟨h1,h2,h3⟩
theorem KT.put {H:Hp}{kvs:List (List Key×V)}{xs:List (List Key×Addr×Value)}(r:KT H kvs xs)(k:List Key){b:Addr}{y:V}{u:Value}(hb:H b=some (.tup (k.map kV)))(ry:RelV y u):
  KT H (putK kvs k y) (storedH xs k b u):=by
 have e:(kvs.any λkv=>decide (kv.1=k))=(atKey xs k).isSome:=by rw[KJ,(r.val k).bX,m8]
 unfold putK storedH;rw[e];by_cases q:(atKey xs k).isSome=true
 ·rw[vg q,vg q];exact r.repl k ry
 ·rw[vh q,vh q];exact Paired.snoc r ⟨rfl,hb,ry⟩
theorem KT.keeps {H H':Hp}{kvs:List (List Key×V)}{xs:List (List Key×Addr×Value)}(r:KT H kvs xs)(ht:∀b ys,H b=some (.tup ys)->H' b=some (.tup ys)):KT H' kvs xs:=Paired.uS r λ_ _ z=>⟨z.1,ht _ _ z.2.1,z.2.2⟩
section
variable {P:bx}{w:World}{H:Hp}{h:Heap}{a:Addr}
theorem KO {u:HO}(ok:HOk P w H h)(e:Rd H a u):z12 P w H h a u:=e.ok ok
theorem vF {kvs:List (Key×V)}(ok:HOk P w H h)(e:Rd H a (.dK kvs)):kvs.length<=bc/\(a==ja)=false/\∃vs,KV kvs vs/\h.DictOf (z0k P w) a vs:=show z12 P w H h a (.dK kvs)from KO ok e
theorem z8j {kvs:List (Key×V)}(ok:HOk P w H h)(e:H a=some (.dK kvs)):kvs.length<=bc/\(a==ja)=false/\∃vs,KV kvs vs/\h.DictOf (z0k P w) a vs:=vF ok (.inl e)
theorem xY {ks:List Key}(ok:HOk P w H h)(e:H a=some (.tup (ks.map kV))):(n8 (z0k P w)).is h ks a:=by obtain⟨_,its,r,n,h1⟩:=(show z12 P w H h a (.tup (ks.map kV))from ok a _ e);exact⟨_,its.toArray,n,h1,rfl,rfl,by simpa using KN r⟩
theorem zas {kvs:List (List Key×V)}(ok:HOk P w H h)(e:Rd H a (.dT kvs)):kvs.length<=bc/\(a==ja)=false/\
  ∃xs,KT H kvs xs/\h.DictOfH (n8 (z0k P w)) a xs:=by
 obtain⟨z,y,xs,r,o,es,ep,h1,h2,h3,h4,h5⟩:=(show z12 P w H h a (.dT kvs)from KO ok e);refine⟨z,y,xs,r,o,es,ep,h1,h2,h3,h4,λx hx=>?_,h5⟩
 have all:∀{l:List (List Key×V)} {m:List (List Key×Addr×Value)},KT H l m->∀x∈m,(n8 (z0k P w)).is h x.1 x.2.1:=by
  intro l m q
  induction q with
  |nil=>intro x hx;exact nomatch hx
  | @cons p q ps qs hq t ih=>
   intro x hx;rcases ak.mp hx with e|hx
   ·subst e;exact xY ok (by rw[<-hq.1];exact hq.2.1)
   ·exact ih x hx
 exact all r x hx
theorem Ri {kvs:List (List Key×V)}(ok:HOk P w H h)(e:H a=some (.dT kvs)):kvs.length<=bc/\(a==ja)=false/\∃xs,KT H kvs xs/\h.DictOfH (n8 (z0k P w)) a xs:=zas ok (.inl e)
end
def DGet (H:Hp)(a:Addr)(y:V)(r:Option V):Prop:=(∃kvs k,Rd H a (.dK kvs)/\y=kV k/\r=cW kvs k)\/∃kvs k b,Rd H a (.dT kvs)/\y=.ref b/\H b=some (.tup (k.map kV))/\r=cW kvs k
def DPut (H:Hp)(a:Addr)(y v:V)(H':Hp):Prop:=
 (∃kvs k,H a=some (.dK kvs)/\y=kV k/\kvs.length<bc/\H'=upd H a (.dK (putK kvs k v)))\/
 ∃kvs k b,H a=some (.dT kvs)/\y=.ref b/\H b=some (.tup (k.map kV))/\kvs.length<bc/\H'=upd H a (.dT (putK kvs k v))
theorem DGet.k {H:Hp}{a:Addr}{kvs:List (Key×V)}{k:Key}(e:H a=some (.dK kvs)):DGet H a (kV k) (cW kvs k):=.inl ⟨kvs,k,.inl e,rfl,rfl⟩
theorem DPut.k {H:Hp}{a:Addr}{kvs:List (Key×V)}{k:Key}{v:V}(e:H a=some (.dK kvs))(hl:kvs.length<bc):DPut H a (kV k) v (upd H a (.dK (putK kvs k v))):=.inl ⟨kvs,k,e,rfl,hl,rfl⟩
section
variable {X:Cx}{pins:List (Addr×Obj)}{Y:St}{H:Hp}{s:af}{a:Addr}{y v:V}{u r:Value}{o:Option V}{A:d7}{E:Value->af->Prop}
theorem Inv.big (I:Inv X pins Y H s):ja<s.heap.objs.size:=by have h:bz<s.heap.objs.size:=(I.mod.glob.keeps I.bk).lt;exact mn (by decide) h
theorem zdn {Q:Value->af->Prop}(hu:A.units+1<cLine)(I:Inv X pins Y H s)(g:DGet H a y (some v))(ry:RelV y u)(h:∀w' s',Inv X pins Y H s'->RelV v w'->Q w' s'):
  wpAny (model X.prog X.w) A (tq (.ref a) u) Q E s:=by
 rcases g with⟨kvs,k,e,ey,l⟩|⟨kvs,k,b,e,ey,eb,l⟩
 ·subst ey;obtain⟨z,hd,vs,rel,dd⟩:=vF I.hok e;obtain⟨w',hw,bI⟩:=dB.some_of (v:=v) (o:=qf vs k) (by rw[l];exact rel.val k);exact wpAny_getItem_of (sU ry) dd.mapOf hw (h w' _ (I.tok _) bI)
 ·subst ey;cases(show u=Value.ref b from ry);obtain⟨z,hd,xs,rel,dd⟩:=zas I.hok e;obtain⟨w',hw,bI⟩:=dB.some_of (v:=v) (o:=(atKey xs k).map (·.2)) (by rw[l];exact rel.val k);obtain⟨p,hp,pG⟩:=b9.mp hw;refine wpAny_getItem_heap (jd hu) (xY I.hok eb) dd hp ?_;rw[pG];exact h w' _ (I.tok _) bI
theorem d_in {Q:Value->af->Prop}(hu:A.units+1<cLine)(I:Inv X pins Y H s)(g:DGet H a y o)(ry:RelV y u)(h:∀s',Inv X pins Y H s'->Q (.bool o.isSome) s'):
  wpAny (model X.prog X.w) A (c0 .In u (.ref a)) Q E s:=by
 rcases g with⟨kvs,k,e,ey,l⟩|⟨kvs,k,b,e,ey,eb,l⟩
 ·subst ey;obtain⟨z,hd,vs,rel,dd⟩:=vF I.hok e;refine wpAny_in_of (sU ry) hd dd.mapOf ?_;rw[<-(rel.val k).bX,<-l];exact h _ (I.tok _)
 ·subst ey;cases(show u=Value.ref b from ry);obtain⟨z,hd,xs,rel,dd⟩:=zas I.hok e;refine wpAny_in_heap (jd hu) (xY I.hok eb) hd dd ?_;have q:=(rel.val k).bX;rw[m8]at q;rw[<-q,<-l];exact h _ (I.tok _)
theorem zjy {Q:Value->af->Prop}(hu:A.units+1<cLine)(I:Inv X pins Y H s)(g:DGet H a y o)(ry:RelV y u)(h:∀s',Inv X pins Y H s'->Q (.bool (!o.isSome)) s'):
  wpAny (model X.prog X.w) A (c0 .NotIn u (.ref a)) Q E s:=by
 rcases g with⟨kvs,k,e,ey,l⟩|⟨kvs,k,b,e,ey,eb,l⟩
 ·subst ey;obtain⟨z,hd,vs,rel,dd⟩:=vF I.hok e;refine wpAny_notIn_of (sU ry) hd dd.mapOf ?_;rw[<-(rel.val k).bX,<-l];exact h _ (I.tok _)
 ·subst ey;cases(show u=Value.ref b from ry);obtain⟨z,hd,xs,rel,dd⟩:=zas I.hok e;refine wpAny_notIn_heap (jd hu) (xY I.hok eb) hd dd ?_;have q:=(rel.val k).bX;rw[m8]at q;rw[<-q,<-l];exact h _ (I.tok _)
theorem z5n {h':Heap}{t':Nat}{ob:HO}(I:Inv X pins Y H s)(mu:Mut (H a))(hs:g9 a s.heap h')(he:∃q,h'.get? a=some q)(new:z12 X.prog X.w (upd H a ob) h' a ob):
  Inv X pins Y (upd H a ob) {s with heap:=h',toks:=t'}:=
 I.write (x:=a) (e:=a) mu (.inl rfl) (λb q hb z=>(hs.2 b hb).trans z) he new
theorem EI {P:bx}{w:World}{H':Hp}{h':Heap}{kvs:List (Key×V)}{vs:List (Key×Value)}(z:kvs.length<=bc)(hd:(a==ja)=false)(rel:KV kvs vs)(dd:h'.DictOf (z0k P w) a vs): z12 P w H' h' a (.dK kvs):=⟨z,hd,vs,rel,dd⟩
theorem zbg {H':Hp}{Q:Unit->af->Prop}(hu:A.units+1<cLine)(I:Inv X pins Y H s)(g:DPut H a y v H')(ry:RelV y u)(rv:RelV v r)(h:∀s',Inv X pins Y H' s'->Q () s'):
  wpAny (model X.prog X.w) A (setItem (.ref a) u r) Q E s:=by
 rcases g with⟨kvs,k,e,ey,l,eH⟩|⟨kvs,k,b,e,ey,eb,l,eH⟩
 ·subst ey eH;obtain⟨z,hd,vs,rel,dd⟩:=z8j I.hok e;have hz:vs.length<=bc:=by rw[<-rel.length];exact z
  have hl:(putK kvs k v).length<=bc:=by have:=B9 kvs k v;omega
  refine wpAny_setItem_pairs (hsz:=hz) (sU ry) dd λh' hW hs=>h _ ?_;have he:∃q,h'.get? a=some q:=let⟨q,_,_,hq,_⟩:=hW;⟨q,hq⟩;exact z5n I (by rw[e];exact True.intro) hs he (EI hl hd (rel.put k rv) hW)
 ·subst ey eH;cases(show u=Value.ref b from ry);obtain⟨z,hd,xs,rel,dd⟩:=Ri I.hok e;have hz:xs.length<=bc:=by rw[<-Paired.length rel];exact z
  have hl:(putK kvs k v).length<=bc:=by have:=B9 kvs k v;omega
  refine wpAny_setItem_heap (hsz:=hz) (jd hu) (xY I.hok eb) dd λh' hW hs=>h _ ?_;obtain⟨q,es,ep,hq,h2,h3,h4,_,h5⟩:=hW;refine z5n I (by rw[e];exact True.intro) hs ⟨q,hq⟩ ⟨hl,hd,_,(rel.put k eb rv).keeps λc ys ec=>?_,q,es,ep,hq,h2,h3,h4,h5⟩;rw[aL (Qp ec e (λz=>nomatch z))];exact ec
end
section
variable {X:Cx}{pins:List (Addr×Obj)}{Y:St}{H:Hp}{s:af}{a:Addr}{kvs:List (Key×V)}{k:Key}{u:Value}{A:d7}{E:Value->af->Prop}
theorem Rj {Q:Value->af->Prop}(I:Inv X pins Y H s)(e:Rd H a (.dK kvs))(h:∀t s',Inv X pins Y H s'->Q (.int kvs.length t) s'):wpAny (model X.prog X.w) A (call (.builtin "len") [.ref a]) Q E s:=by obtain⟨z,hd,vs,rel,dd⟩:=vF I.hok e;refine call_len_dict hd dd (by rw[<-rel.length];rw[df]at z;omega) ?_;rw[<-rel.length];exact h _ _ (I.tok _)
end
theorem Rk {X:Cx}{pins:List (Addr×Obj)}{Y:St}{H:Hp}{s:af}{a:Addr}{y:V}{o:Option V}(I:Inv X pins Y H s)(g:DGet H a y o):s.TypeIs (.ref a) "dict":=by
 rcases g with⟨kvs,k,e,_,_⟩|⟨kvs,k,b,e,_,_,_⟩
 ·obtain⟨_,_,vs,_,dd⟩:=vF I.hok e;exact dd.typeIs
 ·obtain⟨_,_,xs,_,dd⟩:=zas I.hok e;exact dd.typeIs
theorem EJ {P:bx}{w:World}{H:Hp}(h:Heap)(hb:ja<h.objs.size):z12 P w H (h.push {cls:=.type "dict",data:=.dict #[]}) h.objs.size (.dK []):=⟨cz _,beq_eq_false_iff_ne.mpr (Ne.symm (cw hb)),[],.nil,Heap.DictOf.new h⟩
def KP:TE:=λ_ H Q=>∀p,H p=none->Q (.ref p) (upd H p (.dK []))
section
variable {X:Cx}{pos:Pos}
theorem KQ:PE X (.Dict [] [] pos) KP:=λpins s Y H Q I h=>wpAny_Dict_empty ⟨.ref s.heap.objs.size,_,I.laid (a:=s.heap.objs.size) (o:=.dK []) (t':=s.toks) (λ_ _ q=>ah _ q) (ag _) (EJ s.heap I.big),rfl,h _ (I.hok.fresh (ag _))⟩
end
def EK:List (TE×TE)->St->Hp->(List (V×V)->Hp->Prop)->Prop
 | [],_,H,Q=>Q [] H
 |(tk,tv)::r,Y,H,Q=>tk Y H λx H1=>tv Y H1 λy H2=>EK r Y H2 λps H3=>Q ((x,y)::ps) H3
abbrev VV:List (V×V)->List (Value×Value)->Prop:=jt λp q=>RelV p.1 q.1/\RelV p.2 q.2
def PPs (X:Cx)(pos:Pos)(keys:List (Option Expr))(values:List Expr)(trs:List (TE×TE)):Prop:=∀(pins:List (Addr×Obj)) (s:af) (Y:St) (H:Hp) (Q:List (V×V)->Hp->Prop),Inv X pins Y H s->EK trs Y H Q->wpAny (model X.prog X.w) X.A (evalPairs (pairTrees keys values X.env pos)) (λvs s'=>∃ps H',Inv X pins Y H' s'/\VV ps vs/\Q ps H') X.xe s
theorem Rl {X:Cx}{pos:Pos}:PPs X pos [] [] []:=λpins s Y H Q I h=>pairTrees_nil_walk ⟨[],H,I,.nil,h⟩
theorem zhl {X:Cx}{pos:Pos}{k v:Expr}{ks:List (Option Expr)}{vs:List Expr}{tk tv:TE}{trs:List (TE×TE)}(hk:PE X k tk)(hv:PE X v tv)(hr:PPs X pos ks vs trs):
  PPs X pos (some k::ks) (v::vs) ((tk,tv)::trs):=λpins s Y H Q I h=>
 pairTrees_cons_walk (aO (hk pins s Y H _ I h) λu s1 ⟨x,H1,I1,rx,q1⟩=>aO (hv pins s1 Y H1 _ I1 q1) λw2 s2 ⟨y,H2,I2,ry,q2⟩=>aO (hr pins s2 Y H2 _ I2 q2) λws s3 ⟨ps,H3,I3,rel,q3⟩=>⟨(x,y)::ps,H3,I3,.cons ⟨rx,ry⟩ rel,q3⟩)
def vG (kvs more:List (Key×V)):List (Key×V):=more.foldl (λacc kv=>putK acc kv.1 kv.2) kvs
theorem KV.merge:∀{more:List (Key×V)} {rs:List (Key×Value)} {kvs:List (Key×V)} {vs:List (Key×Value)},KV more rs->KV kvs vs->KV (vG kvs more) (merged vs rs):=by
 intro more rs kvs vs r;unfold KV at r
 induction r generalizing kvs vs with
 |nil=>intro q;exact q
 | @cons p q ps qs h t ih=>
  intro r0;have e:KV (putK kvs p.1 p.2) (stored vs q.1 q.2):=by have:=r0.put p.1 h.2;rw[<-h.1];exact this
  exact ih e
theorem KR:∀(more kvs:List (Key×V)),(vG kvs more).length<=kvs.length+more.length
 | [],kvs=>by show kvs.length<=kvs.length+0;omega
 |p::r,kvs=>by have h1:=KR r (putK kvs p.1 p.2);have h2:=B9 kvs p.1 p.2;show(vG (putK kvs p.1 p.2) r).length<=_;rw[bv];omega
theorem KS {P:bx}{w:World}:∀{kvs:List (Key×V)} {ws:List (Value×Value)},VV (kvs.map λkv=>(kV kv.1,kv.2)) ws->∃rs,Carries (z0k P w) ws rs/\KV kvs rs
 | [],_,r=>by rw[tm]at r;cases r;exact⟨[],True.intro,.nil⟩
 |p::kvs,_,r=>by
  rw[bh]at r;cases r with
  | @cons a b as bs h t=>obtain⟨rs,c,q⟩:=KS (P:=P) (w:=w) t;obtain⟨b1,b2⟩:=b;exact⟨(p.1,b2)::rs,⟨sU h.1,rfl,c⟩,.cons ⟨rfl,h.2⟩ q⟩
def Ca (trs:List (TE×TE)):TE:=λY H Q=>∀p,H p=none->EK trs Y (upd H p (.dK [])) λps H2=>H2 p=some (.dK [])/\∃kvs:List (Key×V),ps=kvs.map (λkv=>(kV kv.1,kv.2))/\kvs.length<=15/\Q (.ref p) (upd H2 p (.dK (vG [] kvs)))
theorem zlm {X:Cx}{pos:Pos}{keys:List (Option Expr)}{values:List Expr}{trs:List (TE×TE)}(h:PPs X pos keys values trs)(hall:keys.all (·.isSome)=true)(hl:keys.length=values.length)(h0:keys≠[])
  (Rm:keys.length<=15):PE X (.Dict keys values pos) (Ca trs):=by
 intro pins s Y H Q I q;have hn:=I.hok.fresh (ag s.heap.objs.size);have I1:=I.laid (a:=s.heap.objs.size) (o:=.dK []) (h':=s.heap.push {cls:=.type "dict",data:=.dict #[]}) (t':=s.toks) (λ_ _ q=>ah _ q) (ag _) (EJ s.heap I.big);refine wpAny_Dict_walk (knd:=z0k X.prog X.w) hall hl h0 Rm (aO (h pins _ Y _ _ I1 (q _ hn)) λws s2 ⟨ps,H2,I2,rel,e,kvs,ep,lk,q2⟩=>?_);subst ep;obtain⟨rs,c,rk⟩:=KS (P:=X.prog) (w:=X.w) rel;obtain⟨z,hd,vs0,r0,dd⟩:=z8j I2.hok e;cases r0;refine⟨rs,c,dd,λh' hW hs=>⟨.ref s.heap.objs.size,_,?_,rfl,q2⟩⟩;have hz:(vG [] kvs).length<=bc:=by have h1:=KR kvs [];rw[List.length_nil]at h1;rw[df];omega
 have he:∃q,h'.get? s.heap.objs.size=some q:=let⟨q,_,_,hq,_⟩:=hW;⟨q,hq⟩;exact z5n I2 (by rw[e];exact True.intro) hs he (EI hz hd (rk.merge .nil) hW)
section
variable {X:Cx}{pins:List (Addr×Obj)}{Y:St}{H:Hp}{s:af}{a:Addr}{y d:V}{u r:Value}{o:Option V}{A:d7}{E:Value->af->Prop}
theorem zoq {Q:Value->af->Prop}(hu:A.units+1<cLine)(I:Inv X pins Y H s)(g:DGet H a y o)(ry:RelV y u)(rd:RelV d r)(h:∀w' s',Inv X pins Y H s'->RelV (o.getD d) w'->Q w' s'):
  wpAny (model X.prog X.w) A (call (.builtin "dict.get") [.ref a,u,r]) Q E s:=by
 rcases g with⟨kvs,k,e,ey,l⟩|⟨kvs,k,b,e,ey,eb,l⟩
 ·subst ey;obtain⟨z,hd,vs,rel,dd⟩:=vF I.hok e;refine call_meetsIn PySem.F.slot_dict_get dd.typeIs PySem.F.entry_dict_get (PySem.F.args_dict_get_3 _ _ _) (meets_dict_get_default (z0k X.prog X.w) a (sU ry) hd r) ⟨_,dd.mapOf,h _ _ (I.tok _) ?_⟩;rw[l];exact(rel.val k).getD rd
 ·subst ey;cases(show u=Value.ref b from ry);obtain⟨z,hd,xs,rel,dd⟩:=zas I.hok e;refine call_meetsIn PySem.F.slot_dict_get dd.typeIs PySem.F.entry_dict_get (PySem.F.args_dict_get_3 _ _ _) (meetsH_dict_get_default (n8 (z0k X.prog X.w)) a b hd r) ⟨jd hu,k,xs,xY I.hok eb,dd,h _ _ (I.tok _) ?_⟩;rw[l];exact(rel.val k).getD rd
end
end L2
namespace HT
open PySem PyProof.Rows
section
variable {prog:bx}{w:World}{A:d7}{E:Value->af->Prop}{s:af}
theorem cat_tup {t b:Addr}{vs ws:List Value}{Q:Value->af->Prop}(ht:IsTup s.heap t vs.toArray)(hb:IsTup s.heap b ws.toArray)(hv:vs≠[])
  (h1:ws=[]->Q (.ref t) s) (h2:ws≠[]->Q (.ref s.heap.objs.size) {s with heap:=s.heap.push {cls:=.type "tuple",data:=.seq (vs++ws).toArray}})
  (cM:vs.length+ws.length<=bc):wpAny (model prog w) A (gc .Add (.ref t) (.ref b)) Q E s:=by
 obtain⟨⟨cls,dd,data,sl⟩,ho,hc,n,hd⟩:=id ht;obtain⟨⟨zr,xZ,data2,qC⟩,ho2,lA,n2,hd2⟩:=id hb;simp only at hc hd lA hd2;subst hc hd lA hd2;have e:vs.toArray++ws.toArray=(vs++ws).toArray:=by simp
 by_cases hw:ws=[]
 ·exact oo ⟨_,ho,rfl⟩ ⟨_,ho2,rfl⟩ og qp PySem.F.slot_tuple_add PySem.F.entry_tuple_add (PySem.F.args_tuple_add_2 _ _) (tuple_addW1 t b vs.toArray ws.toArray n n2 dd xZ sl qC (by simpa using hv) (by simp[hw])) ⟨ho,ho2,h1 hw⟩
 ·refine oo ⟨_,ho,rfl⟩ ⟨_,ho2,rfl⟩ og qp PySem.F.slot_tuple_add PySem.F.entry_tuple_add (PySem.F.args_tuple_add_2 _ _)
   (tuple_addW2 t b vs.toArray ws.toArray n n2 dd xZ sl qC (by simpa using hv) (by simpa using hw) (by rw[ax,ax];exact cM)) ⟨ho,ho2,?_⟩
  rw[e];exact h2 hw
def aX (n d:Nat):Option Int->Nat
 |none=>d
 |some v=>if v<0 then(v+(n:Int)).toNat else min v.toNat n
theorem nT (n d:Nat)(hd:d<=n)(o:Option Int):aX n d o<=n:=by
 cases o with
 |none=>exact hd
 |some v=>
  show(if v<0 then(v+(n:Int)).toNat else min v.toNat n)<=n;by_cases hv:v<0
  ·rw[vg hv];omega
  ·rw[vh hv];exact Nat.min_le_right _ _
theorem KU (v:Int)(n d:Nat):(if v<0 then max (v+(n:Int)) 0 else min v (n:Int))=((aX n d (some v):Nat):Int):=by
 show(if v<0 then max (v+(n:Int)) 0 else min v (n:Int))=(((if v<0 then(v+(n:Int)).toNat else min v.toNat n):Nat):Int);by_cases hv:v<0
 ·simp only[vg hv];omega
 ·simp only[vh hv];omega
theorem Rn (lo hi:Option Int)(n:Nat):jr lo hi 1 (n:Int)=(((aX n 0 lo:Nat):Int),((aX n n hi:Nat):Int)):=by
 have h1:¬((1:Int)<0):=by omega
 unfold jr;simp only[h1,if_false];refine Prod.ext ?_ ?_
 ·cases lo with
  |none=>rfl
  |some v=>exact KU v n 0
 ·cases hi with
  |none=>rfl
  |some v=>exact KU v n n
theorem Ro (i j:Nat):gy (i:Int) (j:Int) 1=j-i:=by
 unfold gy;have h1:(1:Int)>0:=by omega
 simp only[h1,if_true,Int.ediv_one];split<;>omega
theorem KW {v:Value}{o:Option Int}{Q:Option Int->af->Prop}(p:rh v o)(h:Q o s):wpAny (model prog w) A (Builtin.Slice.slicePartIndex v) Q E s:=by
 cases p with
 |none=>exact slicePart_none h
 |int i t=>exact slicePart_int h
theorem z3s {sl:Addr}{vl vu:Value}{lo hi:Option Int}{n:Nat}{Q:Int×Int×Nat->af->Prop}(hs:s.heap.IsSliceOf sl vl vu .none)(pl:rh vl lo)(pu:rh vu hi)
  (h:Q (((aX n 0 lo:Nat):Int),1,aX n n hi-aX n 0 lo) s):wpAny (model prog w) A (mv (.ref sl) (pure (n:Int))) Q E s:=by
 obtain⟨os,zt,KY,x4⟩:=id hs;unfold mv Builtin.Slice.sliceFields;refine ae (ae (gm zt x4 (x:=vl) rfl (ae (gm zt x4 (x:=vu) rfl (ae (gm zt x4 (x:=.none) rfl (bq ?_)))))));refine ae (slicePart_none ?_);show wpAny _ _ (if((1:Int)==0)=true then _ else _) _ _ s;rw[vh (by decide)];refine ae (KW pl (ae (KW pu (ae (bq ?_)))));show wpAny _ _ (match jr lo hi 1 (n:Int)with|(lo,hi)=>pure (lo,(1:Int),gy lo hi 1)) _ _ s;rw[Rn lo hi n];show wpAny _ _ (pure (((aX n 0 lo:Nat):Int),(1:Int),gy ((aX n 0 lo:Nat):Int) ((aX n n hi:Nat):Int) 1)) _ _ s;rw[Ro];exact bq h
theorem Rp (xs:Array Value)(i k:Nat):((cn k).filterMap λ(m:Nat)=>xs[((i:Int)+(m:Int)*1).toNat]?).toArray=((xs.toList.drop i).take k).toArray:=by
 have e:(λ(m:Nat)=>xs[((i:Int)+(m:Int)*1).toNat]?)=λm=>xs[i+m]?:=by
  funext m
  have:((i:Int)+(m:Int)*1).toNat=i+m:=by omega
  rw[this]
 rw[e];have:=pick_run xs i k;rw[List.filterMap_map]at this;have e2:((λx=>xs[x]?)∘λx=>i+x)=λm=>xs[i+m]?:=rfl;rw[e2]at this;rw[this]
theorem getItem_tuple_cut {t sl:Addr}{items:Array Value}{vl vu:Value}{lo hi:Option Int}{Q:Value->af->Prop}(ht:IsTup s.heap t items)(hs:s.heap.IsSliceOf sl vl vu .none)(pl:rh vl lo)(pu:rh vu hi)
  (hw:¬(aX items.size 0 lo=0/\aX items.size items.size hi=items.size))
  (h:Q (.ref s.heap.objs.size) {s with heap:=s.heap.push {cls:=.type "tuple",data:=.seq ((items.toList.drop (aX items.size 0 lo)).take (aX items.size items.size hi-aX items.size 0 lo)).toArray}})
  (cM:items.size<=bc):wpAny (model prog w) A (tq (.ref t) (.ref sl)) Q E s:=by
 have kI:sizeOk (.seq ((items.toList.drop (aX items.size 0 lo)).take (aX items.size items.size hi-aX items.size 0 lo)).toArray):=by show((items.toList.drop (aX items.size 0 lo)).take (aX items.size items.size hi-aX items.size 0 lo)).toArray.size<=bc;rw[ax,iz,List.length_drop,iw];omega
 have hj:aX items.size items.size hi<=items.size:=nT _ _ (ag _) hi;obtain⟨os,zt,KY,x4⟩:=id hs;have Rq:s.TypeIs (.ref sl) "slice":=⟨os,zt,KY⟩;unfold tq
 try with_reducible refine gn ?_
 first|refine ae (bq ?_)|skip
 refine ae (wpAny_sequenceKey ht.typeIs (by decide) ?_);refine ae (kg (name:=Str.ofString "__getitem__") ht.typeIs PyProof.Rows.slot_tuple_getitem (li PyProof.Rows.slot_tuple_getitem ht.typeIs entry_tuple_getitem ?_ (args_tuple_getitem _ _)));show wpAny _ _ (Builtin.Tuple.tupleItemsOf (.ref t)>>=_) _ _ s;refine ae (tupleItemsOf_ ht ?_);refine ae (oq Rq ?_);rw[vg (by decide)];refine ae (z3s hs pl pu ?_);have Rr:¬((((aX items.size 0 lo:Nat):Int)==0&&(1:Int)==1&&(aX items.size items.size hi-aX items.size 0 lo)==items.size)=true):=by intro q;rw[br,br]at q;have q1:((aX items.size 0 lo:Nat):Int)=0:=eq_of_beq q.1.1;have q2:aX items.size items.size hi-aX items.size 0 lo=items.size:=eq_of_beq q.2;exact hw ⟨by omega,by omega⟩
 show wpAny _ _ (if(((aX items.size 0 lo:Nat):Int)==0&&(1:Int)==1&&(aX items.size items.size hi-aX items.size 0 lo)==items.size)=true then _ else _) _ _ s;rw[vh Rr,Rp]
 first
  |exact ae (m:=ip _) (ig (bq ⟨_,rfl,bq h⟩) kI)
  |exact ae (m:=ip _) (ig (ae (bq (bq ⟨_,rfl,bq h⟩))) kI)
  |exact ae (ae (m:=ip _) (ig (bq (bq ⟨_,rfl,bq h⟩)) kI))
  |exact ae (ae (m:=ip _) (ig (bq ⟨_,rfl,bq h⟩) kI))
end
end HT
namespace L2
open PySem PySem.Spec PyProof.Rows
abbrev TO:=St->Hp->(Option Int->Hp->Prop)->Prop
def PO (X:Cx)(e:Option Expr)(t:TO):Prop:=∀(pins:List (Addr×Obj)) (s:af) (Y:St) (H:Hp) (Q:Option Int->Hp->Prop),Inv X pins Y H s->t Y H Q->wpAny (model X.prog X.w) X.A (evalPart e X.env) (λu s'=>∃o H',Inv X pins Y H' s'/\rh u o/\Q o H') X.xe s
def Rt:TO:=λ_ H Q=>Q none H
def Rv (t:TE):TO:=λY H Q=>t Y H λx H1=>∃i,x=.int i/\Q (some i) H1
section
variable {X:Cx}{e:Expr}{te:TE}{lo hi:Option Expr}{tl th:TO}{pos p2:Pos}
theorem Rw:PO X none Rt:=by intro pins s Y H Q I h;rw[evalPart_none];exact bq ⟨none,H,I,.none,h⟩
theorem Rx (h:PE X e te):PO X (some e) (Rv te):=by intro pins s Y H Q I hw;rw[evalPart_some];refine aO (h pins s Y H _ I hw) λu s1 ⟨x,H1,I1,r1,q1⟩=>?_;obtain⟨i,rfl,q⟩:=q1;obtain⟨t,rfl⟩:=r1;exact⟨some i,H1,I1,.int i t,q⟩
def pH (X:Cx)(r:V->Option Int->Option Int->Hp->VK->Prop):Prop:=∀(pins:List (Addr×Obj)) (s:af) (Y:St) (H:Hp) (x:V) (v vl vu:Value) (lo hi:Option Int) (sl:Addr) (Q:VK),Inv X pins Y H s->RelV x v->s.heap.IsSliceOf sl vl vu .none->rh vl lo->rh vu hi->r x lo hi H Q->∃T id,typeLookup (.type T) "__getitem__"=pure (some (.builtin id))/\s.TypeIs v T/\wpAny (model X.prog X.w) X.A (tq v (.ref sl)) (EP X pins Y Q) X.xe s
theorem pH.or {r r':V->Option Int->Option Int->Hp->VK->Prop}(h:pH X r)(h':pH X r'):pH X (λx lo hi H Q=>r x lo hi H Q\/r' x lo hi H Q):=by
 intro pins s Y H x v vl vu lo hi sl Q I rx hs pl pu q;rcases q with q|q
 ·exact h pins s Y H x v vl vu lo hi sl Q I rx hs pl pu q
 ·exact h' pins s Y H x v vl vu lo hi sl Q I rx hs pl pu q
def Ry (r:V->Option Int->Option Int->Hp->VK->Prop)(te:TE)(tl th:TO):TE:=λY H Q=>te Y H λx H1=>tl Y H1 λl H2=>th Y H2 λu H3=>r x l u H3 Q
theorem RA {r:V->Option Int->Option Int->Hp->VK->Prop}(hr:pH X r)(he:PE X e te)(hl:PO X lo tl)(hu:PO X hi th):PE X (.Subscript e (.Slice lo hi none p2) pos) (Ry r te tl th):=by intro pins s Y H Q I h;refine Subscript_ (aO (he pins s Y H _ I h) λv s1 ⟨x,H1,I1,r1,q1⟩=>?_);refine wpAny_Slice (aO (hl pins s1 Y H1 _ I1 q1) λvl s2 ⟨l,H2,I2,pl,q2⟩=>aO (hu pins s2 Y H2 _ I2 q2) λvu s3 ⟨u,H3,I3,pu,q3⟩=>?_);rw[evalPart_none];refine bq ?_;have I4:Inv X pins Y H3 {s3 with heap:=s3.heap.push {cls:=.type "slice",data:=.fields #[vl,vu,.none]}}:=I3.kept (t':=s3.toks) λb ob q=>ah _ q;obtain⟨T,id,hT,ht,hg⟩:=hr pins {s3 with heap:=s3.heap.push {cls:=.type "slice",data:=.fields #[vl,vu,.none]}} Y H3 x v vl vu l u s3.heap.objs.size Q I4 r1 (Heap.IsSliceOf.new ..) pl pu q3;show wpAny (model X.prog X.w) X.A (subscriptTail e (.Slice lo hi none p2) v (.ref s3.heap.objs.size)) (EP X pins Y Q) X.xe {s3 with heap:=s3.heap.push {cls:=.type "slice",data:=.fields #[vl,vu,.none]}};exact tail_any (ops:=[.ref s3.heap.objs.size,v]) ht hT hg (by with_unfolding_all rfl)
def lB (xs:List V)(lo hi:Option Int):List V:=(xs.drop (HT.aX xs.length 0 lo)).take (HT.aX xs.length xs.length hi-HT.aX xs.length 0 lo)
theorem KZ (xs:List V)(lo hi:Option Int):(lB xs lo hi).length<=xs.length:=by unfold lB;rw[iz,List.length_drop];omega
def EL (K:W.Frag):V->Option Int->Option Int->Hp->VK->Prop:=λx lo hi H Q=>∃a xs,x=.ref a/\bS K H a xs/\¬(HT.aX xs.length 0 lo=0/\HT.aX xs.length xs.length hi=xs.length)/\∀p,H p=none->Q (.ref p) (upd H p (.tup (lB xs lo hi)))
theorem RB:pH X (EL X.K):=by
 intro pins s Y H x v vl vu lo hi sl Q I rx hs pl pu h;obtain⟨a,xs,rfl,hx,hw,q⟩:=h;cases rx;obtain⟨its,r,ht,hz⟩:=I.tuple hx;have hlen:its.toArray.size=xs.length:=by rw[ax];exact r.length.symm
 refine⟨"tuple",_,PyProof.Rows.slot_tuple_getitem.lookup,ht.typeIs,?_⟩;refine HT.getItem_tuple_cut ht hs pl pu (by rw[hlen];exact hw) ?_ (by rw[hlen];exact hz);rw[hlen];refine⟨.ref s.heap.objs.size,_,I.laid (t':=s.toks) (o:=.tup (lB xs lo hi)) (λb ob q=>ah _ q) (ag _) ?_,rfl,q _ (I.hok.fresh (ag _))⟩;exact⟨cg (KZ xs lo hi) hz,_,(r.drop (HT.aX xs.length 0 lo)).take (HT.aX xs.length xs.length hi-HT.aX xs.length 0 lo),TupN.new _ _⟩
def K0 (K:W.Frag):R2:=λx y H Q=>∃a b xs ys,x=.ref a/\y=.ref b/\bS K H a xs/\bS K H b ys/\xs≠ []/\xs.length+ys.length<=bc/\(ys=[]->Q (.ref a) H)/\(ys≠[]->∀p,H p=none->Q (.ref p) (upd H p (.tup (xs++ys))))
theorem Vals.gO {xs:List V}{us:List Value}(r:Vals xs us):us=[]↔xs=[]:=by
 cases r with
 |nil=>simp
 |cons _ _=>simp
theorem RC:OpR X (gc .Add) (K0 X.K):=by intro pins s Y H x y v u Q I rx ry h;obtain⟨a,b,xs,ys,rfl,rfl,ha,hb,hx,hz,q1,q2⟩:=h;cases rx;cases ry;obtain⟨its,r1,p1,_⟩:=I.tuple ha;obtain⟨dJ,r2,p2,_⟩:=I.tuple hb;refine HT.cat_tup p1 p2 (λz=>hx (r1.gO.mp z)) (λz=>⟨.ref a,H,I,rfl,q1 (r2.gO.mp z)⟩) (λz=>?_) (by rw[<-r1.length,<-r2.length];exact hz);refine⟨.ref s.heap.objs.size,_,I.laid (t':=s.toks) (o:=.tup (xs++ys)) (λb ob q=>ah _ q) (ag _) ?_,rfl,q2 (λw=>z (r2.gO.mpr w)) _ (I.hok.fresh (ag _))⟩;exact⟨by rw[au];exact hz,_,r1.append r2,TupN.new _ _⟩
end
def jK (n:Nat)(i:Int):Option Nat:=if 0<=i then(if i<n then some i.toNat else none)else if -(n:Int)<=i then some (i+n).toNat else none
def dM {α:Type}(xs:List α)(i:Int):Option α:=(jK xs.length i).bind λj=>xs[j]?
theorem K1 {n:Nat}{i:Int}{j:Nat}(h:jK n i=some j):seqIndex? i n=some j/\j<n/\-(n:Int)<=i/\i<n:=by
 unfold jK at h;by_cases h0:0<=i
 ·rw[vg h0]at h;by_cases h1:i<n
  ·rw[vg h1]at h;have e:i.toNat=j:=vi h;exact⟨by rw[ug h0 h1,e],by omega,by omega,h1⟩
  ·rw[vh h1]at h;cases h
 ·rw[vh h0]at h;by_cases h1:-(n:Int)<=i
  ·rw[vg h1]at h;have e:(i+n).toNat=j:=vi h;exact⟨by rw[tt (by omega) h1,e],by omega,h1,by omega⟩
  ·rw[vh h1]at h;cases h
theorem EM {α:Type}{xs:List α}{i:Int}{v:α}(h:dM xs i=some v):∃j,seqIndex? i xs.length=some j/\xs[j]?=some v/\j<xs.length/\-(xs.length:Int)<=i/\i<xs.length:=by
 unfold dM at h;cases e:jK xs.length i with
 |none=>rw[e]at h;cases h
 |some j=>rw[e]at h;obtain⟨h1,h2,h3,h4⟩:=K1 e;exact⟨j,h1,h,h2,h3,h4⟩
def K2 (b:Expr):Prop:=∀o i,subscripted b false o i=operate [o,i] (tq o i)
def mQ (X:Cx)(r:R2):Prop:=∀(value slice:Expr) (pins:List (Addr×Obj)) (s:af) (Y:St) (H:Hp) (x y:V) (v u:Value) (Q:VK),Inv X pins Y H s->RelV x v->RelV y u->r x y H Q->subscripted slice false v u=operate [v,u] (tq v u)->wpAny (model X.prog X.w) X.A (subscriptTail value slice v u) (EP X pins Y Q) X.xe s
def MtR (X:Cx)(id:String)(r:V->List V->Hp->VK->Prop):Prop:=∀(pins:List (Addr×Obj)) (s:af) (Y:St) (H:Hp) (x:V) (xs:List V) (v:Value) (us:List Value) (Q:VK),Inv X pins Y H s->RelV x v->Vals xs us->r x xs H Q->wpAny (model X.prog X.w) X.A (call (.builtin id) (v::us)) (EP X pins Y Q) X.xe s
section
variable {X:Cx}{a b:Expr}{ta tb:TE}{pos:Pos}
theorem mQ.or {r r':R2}(h:mQ X r)(h':mQ X r'):mQ X (λx y H Q=>r x y H Q\/r' x y H Q):=by
 intro value slice pins s Y H x y v u Q I rx ry q hs;rcases q with q|q
 ·exact h value slice pins s Y H x y v u Q I rx ry q hs
 ·exact h' value slice pins s Y H x y v u Q I rx ry q hs
theorem EN {r:R2}(hr:mQ X r)(ha:PE X a ta)(hb:PE X b tb)(hs:K2 b):PE X (.Subscript a b pos) (iO r ta tb):=by intro pins s Y H Q I h;exact Subscript_ (binT ha hb I h λv u s2 x y H2 I2 rx ry q=>hr a b pins s2 Y H2 x y v u Q I2 rx ry q (hs _ _))
def zu (K:W.Frag):R2:=λx y H Q=>∃p xs i v,x=.ref p/\y=.int i/\SqL K H p xs/\dM xs i=some v/\Q v H
def zv (K:W.Frag):R2:=λx y H Q=>∃p xs i v,x=.ref p/\y=.int i/\bS K H p xs/\dM xs i=some v/\Q v H
def zw:R2:=λx y H Q=>∃z i c,x=.str z/\y=.int i/\z.length<=bc/\dM z.cps.toList i=some c/\Q (.str ⟨#[c]⟩) H
theorem RD:mQ X (zu X.K):=by
 intro value slice pins s Y H x y v u Q I rx ry h hs;obtain⟨p,xs,i,z,rfl,rfl,hq,he,q⟩:=h;cases rx;obtain⟨t,rfl⟩:=ry;obtain⟨its,r,pl,hz⟩:=I.list hq;obtain⟨j,h1,h2,h3,h4,h5⟩:=EM he;obtain⟨w,ew,bI⟩:=r.get h2;have hl:=r.length;have hn:=vz;have fin:EP X pins Y Q w s:=⟨z,H,I,bI,q⟩;by_cases h0:0<=i
 ·have hj:i.toNat=j:=by
   rw[ug h0 h5]at h1;exact vi h1
  exact item_listR pl.isList h0 (by omega) (by rw[hj];simpa using ew) fin hs
 ·have hj:(i+(its.toArray.size:Int)).toNat=j:=by
   rw[tt (by omega) h4]at h1;rw[ax,<-hl];exact vi h1
  exact ot (x:=w) pl.isList.typeIs slot_list_getitem.lookup (wpAny_getItem_list_neg (Q:=λr s'=>r=w/\EP X pins Y Q r s') pl.isList (by omega) (by rw[ax]<;>omega) (by omega) (by rw[hj];simpa using ew) ⟨rfl,fin⟩) hs
theorem RE:mQ X (zv X.K):=by intro value slice pins s Y H x y v u Q I rx ry h hs;obtain⟨p,xs,i,z,rfl,rfl,hq,he,q⟩:=h;cases rx;obtain⟨t,rfl⟩:=ry;obtain⟨its,r,pl,hz⟩:=I.tuple hq;obtain⟨j,h1,h2,h3,h4,h5⟩:=EM he;obtain⟨w,ew,bI⟩:=r.get h2;have hl:=r.length;have hn:=vz;have fin:EP X pins Y Q w s:=⟨z,H,I,bI,q⟩;exact ot (x:=w) pl.typeIs slot_tuple_getitem.lookup (getItem_tuple (j:=j) (Q:=λr s'=>r=w/\EP X pins Y Q r s') pl (by omega) (by omega) (by rw[ax,<-hl];exact h1) (by simpa using ew) ⟨rfl,fin⟩) hs
theorem RF:mQ X zw:=by
 intro value slice pins s Y H x y v u Q I rx ry h hs;obtain⟨z,i,c,rfl,rfl,hz,he,q⟩:=h;obtain⟨t,rfl⟩:=rx;obtain⟨t',rfl⟩:=ry;obtain⟨j,h1,h2,h3,h4,h5⟩:=EM he;have hl:z.cps.toList.length=z.length:=by simp[Str.length]
 rw[hl]at h1 h4 h5;have hn:=vz;exact tail_any (uu s z t) slot_str_getitem.lookup (getItem_str (c:=c) (by have e1:decide (i< -(2 ^ 63:Int))=false:=vo (by omega);have e2:decide (i ≥ 2 ^ 63)=false:=vo (by omega);rw[e1,e2,Bool.or_false]) (by rw[h1];simpa using h2) ⟨.str ⟨#[c]⟩,H,I.tok _,⟨_,rfl⟩,q⟩) hs
def vH (K:W.Frag):R2:=λx y H Q=>zu K x y H Q\/zv K x y H Q\/zw x y H Q
theorem K3:mQ X (vH X.K):=RD.or (RE.or RF)
theorem RG (its:List Value)(n j:Nat)(u:Value):Obj.mapSeq (·.setIfInBounds j u) {cls:=.type "list",data:=.seq its.toArray n}={cls:=.type "list",data:=.seq (its.set j u).toArray n}:=by simp[Obj.mapSeq]
theorem Inv.lst {pins:List (Addr×Obj)}{Y:St}{H:Hp}{s:af}{p:Addr}{xs:List V}(I:Inv X pins Y H s)(h:H p=some (.lst xs)):
  ∃(its:List Value) (n:Nat),Vals xs its/\s.heap.get? p=some {cls:=.type "list",data:=.seq its.toArray n}/\xs.length<=bc:=by
 obtain⟨z,its,n,r,e⟩:=I.hok p _ h;exact⟨its,n,r,e,z⟩
theorem Inv.lstUpd {pins:List (Addr×Obj)}{Y:St}{H:Hp}{s:af}{p:Addr}{xs ys:List V}{its its':List Value}{n n':Nat}{f:Obj->Obj}(I:Inv X pins Y H s)(h:H p=some (.lst xs))
  (ho:s.heap.get? p=some {cls:=.type "list",data:=.seq its.toArray n}) (hf:f {cls:=.type "list",data:=.seq its.toArray n}={cls:=.type "list",data:=.seq its'.toArray n'}) (r:Vals ys its') (hz:ys.length<=bc) (t:Nat):
  Inv X pins Y (upd H p (.lst ys)) {s with heap:=s.heap.update p f,toks:=t}:=by
 have e:(s.heap.update p f).get? p=some {cls:=.type "list",data:=.seq its'.toArray n'}:=by rw[gw f ho (by rw[hf]<;>rfl),hf]
 refine I.write (x:=p) (e:=p) (by rw[h];trivial) (.inl rfl) (λb u hb q=>(fg _ _ (Ne.symm hb)).trans q) ⟨_,e⟩ ?_;exact⟨hz,its',n',r,e⟩
def K4:V->V->V->Hp->(Hp->Prop)->Prop:=λo i v H Q=>∃p xs k j,o=.ref p/\i=.int k/\H p=some (.lst xs)/\jK xs.length k=some j/\Q (upd H p (.lst (xs.set j v)))
theorem set_list:Eu X K4:=by
 intro pins s Y H o i v ov iv u Q I ro ri rv h;obtain⟨p,xs,k,j,rfl,rfl,hp,hj,q⟩:=h;cases ro;obtain⟨t,rfl⟩:=ri;obtain⟨its,n,r,ho,hz⟩:=I.lst hp;obtain⟨h1,h2,h3,h4⟩:=K1 hj;have hl:=r.length;have hn:=vz;have I':Inv X pins Y (upd H p (.lst (xs.set j v))) {s with heap:=s.heap.update p (Obj.mapSeq (·.setIfInBounds j u))}:=I.lstUpd hp ho (RG its n j u) (r.set rv j) (by rw[cu];exact hz) s.toks;by_cases h0:0<=k
 ·have hk:k.toNat=j:=by
   rw[ug h0 h4]at h1;exact vi h1
  exact W.ki_setAt ho h0 (by omega) (by rw[ax,<-hl];exact h4) (by rw[hk];exact⟨_,I',q⟩)
 ·have hk:(k+(its.toArray.size:Int)).toNat=j:=by
   rw[tt (by omega) h3]at h1;rw[ax,<-hl];exact vi h1
  exact W.ki_setBack ho (by omega) (by rw[ax,<-hl];exact h3) (by omega) (by rw[hk];exact⟨_,I',q⟩)
theorem RH (lo hi:Option Int)(n:Nat):(kh lo hi none n).1=((HT.aX n 0 lo:Nat):Int)/\(kh lo hi none n).2.1=((HT.aX n n hi:Nat):Int)/\(kh lo hi none n).2.2=1:=by
 refine⟨?_,?_,rfl⟩
 ·cases lo with
  |none=>simp[kh,HT.aX]
  |some i=>
   simp only[kh,HT.aX,Option.getD_none,show(1:Int)>0 by decide,if_true];by_cases h:i<0
   ·simp only[h,if_true]<;>omega
   ·simp only[h,if_false]<;>omega
 ·cases hi with
  |none=>simp[kh,HT.aX]
  |some i=>
   simp only[kh,HT.aX,Option.getD_none,show(1:Int)>0 by decide,if_true];by_cases h:i<0
   ·simp only[h,if_true]<;>omega
   ·simp only[h,if_false]<;>omega
theorem RI (its:List Value)(lo hi:Option Int):slicePick its.toArray lo hi none=((its.drop (HT.aX its.length 0 lo)).take (HT.aX its.length its.length hi-HT.aX its.length 0 lo)).toArray:=by obtain⟨h1,h2,h3⟩:=RH lo hi its.toArray.size;unfold slicePick;rw[h1,h2,h3];simp only[p7,pick_run,ax]<;>rfl
def zx (K:W.Frag):V->Option Int->Option Int->Hp->VK->Prop:=λx lo hi H Q=>∃a xs,x=.ref a/\SqL K H a xs/\∀p,H p=none->Q (.ref p) (upd H p (.lst (lB xs lo hi)))
theorem RJ:pH X (zx X.K):=by intro pins s Y H x v vl vu lo hi sl Q I rx hs pl pu h;obtain⟨a,xs,rfl,hx,q⟩:=h;cases rx;obtain⟨its,r,ht,hz⟩:=I.list hx;have hlen:=r.length;refine⟨"list",_,slot_list_getitem.lookup,ht.isList.typeIs,?_⟩;refine wpAny_getItem_list_slice ht.isList hs pl pu .none (by simp) ?_ (by rw[ax]<;>omega);rw[RI,<-hlen];refine⟨.ref s.heap.objs.size,_,I.laid (t':=s.toks) (o:=.lst (lB xs lo hi)) (λb ob q=>ah _ q) (ag _) ?_,rfl,q _ (I.hok.fresh (ag _))⟩;exact⟨cg (KZ xs lo hi) hz,_,0,(r.drop (HT.aX xs.length 0 lo)).take (HT.aX xs.length xs.length hi-HT.aX xs.length 0 lo),bw _ rfl⟩
def sV:V->Bool
 |.bA=>true
 |.bl _=>true
 |.int _=>true
 |.str _=>true
 |_=>false
def sW:V->V->Bool
 |.bA,.bA=>true
 |.bl a,.bl b=>a==b
 |.bl a,.int b=>(if a then 1 else 0)==b
 |.int a,.bl b=>a==(if b then 1 else 0)
 |.int a,.int b=>a==b
 |.str a,.str b=>a==b
 |_,_=>false
theorem RK {A:d7}{s:af}{y x:V}{u v:Value}(ry:RelV y u)(rx:RelV x v)(fy:sV y=true)(fx:sV x=true):SeqAt.EqAt A s u v (sW y x):=by
 cases y with
 |bA=>
  cases ry;cases x with
  |bA=>cases rx;exact SeqAt.EqAt.same _
  |bl b=>cases rx;exact SeqAt.EqAt.none_bool b
  |int b=>obtain⟨t,rfl⟩:=rx;exact SeqAt.EqAt.none_int b t
  |str b=>obtain⟨t,rfl⟩:=rx;exact SeqAt.EqAt.none_str b t
  |_=>exact absurd (show false=true from fx) ce
 |bl a=>
  cases ry;cases x with
  |bA=>cases rx;exact SeqAt.EqAt.bool_none a
  |bl b=>cases rx;exact SeqAt.EqAt.bool_bool a b
  |int b=>obtain⟨t,rfl⟩:=rx;exact SeqAt.EqAt.bool_int a b t
  |str b=>obtain⟨t,rfl⟩:=rx;exact SeqAt.EqAt.bool_str a b t
  |_=>exact absurd (show false=true from fx) ce
 |int a=>
  obtain⟨t',rfl⟩:=ry;cases x with
  |bA=>cases rx;exact SeqAt.EqAt.int_none a t'
  |bl b=>cases rx;exact SeqAt.EqAt.int_bool a t' b
  |int b=>obtain⟨t,rfl⟩:=rx;exact SeqAt.EqAt.int_int a t' b t
  |str b=>obtain⟨t,rfl⟩:=rx;exact SeqAt.EqAt.int_str a t' b t
  |_=>exact absurd (show false=true from fx) ce
 |str a=>
  obtain⟨t',rfl⟩:=ry;cases x with
  |bA=>cases rx;exact SeqAt.EqAt.str_none a t'
  |bl b=>cases rx;exact SeqAt.EqAt.str_bool a t' b
  |int b=>obtain⟨t,rfl⟩:=rx;exact SeqAt.EqAt.str_int a t' b t
  |str b=>obtain⟨t,rfl⟩:=rx;exact SeqAt.EqAt.str_str a t' b t
  |_=>exact absurd (show false=true from fx) ce
 |_=>exact absurd (show false=true from fy) ce
def jL (x:V)(u:Value):Bool:=match u with
 |.none=>sW .bA x
 |.bool b=>sW (.bl b) x
 |.int i _=>sW (.int i) x
 |.str z _=>sW (.str z) x
 |_=>false
theorem K5 {x y:V}{u:Value}(r:RelV y u)(f:sV y=true):jL x u=sW y x:=by
 cases y with
 |bA=>cases r;rfl
 |bl b=>cases r;rfl
 |int i=>obtain⟨t,rfl⟩:=r;rfl
 |str z=>obtain⟨t,rfl⟩:=r;rfl
 |_=>exact absurd (show false=true from f) ce
theorem zy {x:V}:∀{xs:List V} {us:List Value},Vals xs us->xs.all sV=true->us.any (jL x)=xs.any λy=>sW y x
 |_,_,.nil,_=>rfl
 |y::xs,u::us,.cons r t,f=>by rw[cv,br]at f;rw[jh,jh,K5 r f.1,zy t f.2]
theorem zA {A:d7}{s:af}{x:V}{v:Value}(rx:RelV x v)(fx:sV x=true):∀{xs:List V} {us:List Value},Vals xs us->xs.all sV=true->∀u∈us,SeqAt.EqAt A s u v (jL x u)
 |_,_,.nil,_=>λu hu=>by cases hu
 |y::xs,u::us,.cons r t,f=>λu' hu=>by
  rw[cv,br]at f;rcases ak.mp hu with rfl|hu
  ·rw[K5 r f.1];exact RK r rx f.1 fx
  ·exact zA rx fx t f.2 u' hu
def K6 (x:V)(xs:List V):Bool:=xs.any λy=>sW y x
def EO (K:W.Frag)(neg:Bool):R2:=λx y H Q=>∃p xs,y=.ref p/\(SqL K H p xs\/bS K H p xs)/\sV x=true/\xs.all sV=true/\Q (.bl (if neg then !K6 x xs else K6 x xs)) H
theorem RL:OpR X (c0 .In) (EO X.K false):=by
 intro pins s Y H x y v u Q I rx ry h;obtain⟨p,xs,rfl,hq,fx,fs,q⟩:=h;cases ry;rcases hq with hq|hq
 ·obtain⟨its,r,pl,hz⟩:=I.list hq;refine SeqAt.in_listAt (jL x) pl.isList (λw hw=>zA rx fx r fs w (by simpa using hw)) ⟨.bl _,H,I,rfl,?_⟩;rw[show its.toArray.any (jL x)=its.any (jL x) by simp,zy r fs];exact q
 ·obtain⟨its,r,pl,hz⟩:=I.tuple hq;refine SeqAt.in_tupleAt (jL x) pl (λw hw=>zA rx fx r fs w (by simpa using hw)) ⟨.bl _,H,I,rfl,?_⟩;rw[show its.toArray.any (jL x)=its.any (jL x) by simp,zy r fs];exact q
theorem RM:OpR X (c0 .NotIn) (EO X.K true):=by
 intro pins s Y H x y v u Q I rx ry h;obtain⟨p,xs,rfl,hq,fx,fs,q⟩:=h;cases ry;rcases hq with hq|hq
 ·obtain⟨its,r,pl,hz⟩:=I.list hq;refine SeqAt.notIn_listAt (jL x) pl.isList (λw hw=>zA rx fx r fs w (by simpa using hw)) ⟨.bl _,H,I,rfl,?_⟩;rw[show its.toArray.any (jL x)=its.any (jL x) by simp,zy r fs];exact q
 ·obtain⟨its,r,pl,hz⟩:=I.tuple hq;refine SeqAt.notIn_tupleAt (jL x) pl (λw hw=>zA rx fx r fs w (by simpa using hw)) ⟨.bl _,H,I,rfl,?_⟩;rw[show its.toArray.any (jL x)=its.any (jL x) by simp,zy r fs];exact q
theorem RN:OpR X (c0 .NotIn) (λx y H Q=>∃i j,x=.str i/\y=.str j/\Q (.bl (!(!(iy j i 0 j.length 1).isEmpty))) H):=by intro pins s Y H x y v u Q I rx ry h;obtain⟨i,j,rfl,rfl,q⟩:=h;obtain⟨t,rfl⟩:=rx;obtain⟨t',rfl⟩:=ry;exact notIn_str ⟨.bl _,H,I,rfl,q⟩
theorem RO:CallR X (.builtin "len") (λxs H Q=>∃p ys,xs=[.ref p]/\(SqL X.K H p ys\/bS X.K H p ys)/\Q (.int ys.length) H):=by
 intro pins s Y H xs us Q I r h;obtain⟨p,ys,rfl,hq,q⟩:=h;obtain⟨u,rfl,rx⟩:=vals1 r;cases rx;have hn:=vz;rcases hq with hq|hq
 ·obtain⟨its,r',pl,hz⟩:=I.list hq;have hlen:=r'.length;exact Calls.call_len_list pl.isList (by simp only[ax]<;>omega) ⟨.int ys.length,H,I.tok _,⟨s.toks+1,by rw[ax,hlen]⟩,q⟩
 ·obtain⟨its,r',pl,hz⟩:=I.tuple hq;have hlen:=r'.length;exact len_tuple pl (by simp only[ax]<;>omega) ⟨.int ys.length,H,I.tok _,⟨s.toks+1,by rw[ax,hlen]⟩,q⟩
theorem RP:CallR X (.builtin "len") (λxs H Q=>∃z,xs=[.str z]/\z.length<=bc/\Q (.int z.length) H):=by intro pins s Y H xs us Q I r h;obtain⟨z,rfl,hz,q⟩:=h;obtain⟨u,rfl,t,rfl⟩:=vals1 r;have hn:=vz;exact len_str (by omega) ⟨.int z.length,H,I.tok _,⟨_,rfl⟩,q⟩
theorem CallR.or {f:Value}{r r':List V->Hp->VK->Prop}(h:CallR X f r)(h':CallR X f r'):CallR X f (λxs H Q=>r xs H Q\/r' xs H Q):=by
 intro pins s Y H xs us Q I rs q;rcases q with q|q
 ·exact h pins s Y H xs us Q I rs q
 ·exact h' pins s Y H xs us Q I rs q
theorem RQ:CallR X (.type "list") (λxs H Q=>∃p ys,xs=[.ref p]/\(SqL X.K H p ys\/bS X.K H p ys)/\∀l,H l=none->Q (.ref l) (upd H l (.lst ys))):=by
 intro pins s Y H xs us Q I r h;obtain⟨p,ys,rfl,hq,q⟩:=h;obtain⟨u,rfl,rx⟩:=vals1 r;cases rx
 have fin:∀(its:List Value),Vals ys its->ys.length<=bc->∀(h':Heap) (c':Nat),(∀b o',s.heap.get? b=some o'->h'.get? b=some o')->
   h'.get? s.heap.objs.size=some {cls:=.type "list",dict:=none,data:=.seq its.toArray c',slots:=#[]}->EP X pins Y Q (.ref s.heap.objs.size) {s with heap:=h'}:=λits r' hz h' c' kp e=>
  ⟨.ref s.heap.objs.size,_,I.laid (t':=s.toks) kp (ag _) (show z12 X.prog X.w _ h' _ (.lst ys)from⟨hz,its,c',r',e⟩),rfl,q _ (I.hok.fresh (ag _))⟩
 rcases hq with hq|hq
 ·obtain⟨its,r',pl,hz⟩:=I.list hq;have hlen:=r'.length;obtain⟨o,ho,hc,n,hd⟩:=pl.isList;exact call_list_seq p (.inl rfl) ho hc hd (λh' c' kp e=>fin its r' hz h' c' kp e) (by simp only[ax]<;>omega)
 ·obtain⟨its,r',pl,hz⟩:=I.tuple hq;have hlen:=r'.length;obtain⟨o,ho,hc,n,hd⟩:=pl;exact call_list_seq p (.inr rfl) ho hc hd (λh' c' kp e=>fin its r' hz h' c' kp e) (by simp only[ax]<;>omega)
theorem RS:CallR X (.type "tuple") (λxs H Q=>∃p ys,xs=[.ref p]/\((SqL X.K H p ys/\∀l,H l=none->Q (.ref l) (upd H l (.tup ys)))\/(bS X.K H p ys/\Q (.ref p) H))):=by
 intro pins s Y H xs us Q I r h;obtain⟨p,ys,rfl,h⟩:=h;obtain⟨u,rfl,rx⟩:=vals1 r;cases rx;rcases h with⟨hq,q⟩|⟨hq,q⟩
 ·obtain⟨its,r',pl,hz⟩:=I.list hq;have hlen:=r'.length;refine call_tuple_list pl.isList (λh' kp=>?_) (by simp only[ax]<;>omega);have I1:Inv X pins Y H {s with heap:=h'}:=I.kept (t':=s.toks) kp;have I2:Inv X pins Y (upd H h'.objs.size (.tup ys)) {s with heap:=h'.push {cls:=.type "tuple",data:=.seq its.toArray}}:=I1.laid (t':=s.toks) (λb o e=>ah _ e) (ag _) (show z12 X.prog X.w _ _ _ (.tup ys)from⟨hz,its,r',TupN.new _ _⟩);exact⟨.ref h'.objs.size,_,I2,rfl,q _ (I1.hok.fresh (ag _))⟩
 ·obtain⟨its,r',pl,hz⟩:=I.tuple hq;exact call_tuple_same pl ⟨.ref p,H,I,rfl,q⟩
def tyV (K:W.Frag)(T:String)(x:V)(H:Hp):Prop:=match x with
 |.str _=>T="str"
 |.int _=>T="int"
 |.ref p=>(T="list"/\∃xs,SqL K H p xs)\/(T="tuple"/\∃o,K.lookup p=some o/\o.cls=.type "tuple"/\o.dict=none)\/(T="dict"/\((∃kvs,H p=some (.dK kvs))\/∃kvs,H p=some (.dT kvs)))\/(T="set"/\∃S n,H p=some (.set S n))
 |_=>False
theorem zj3 {pins:List (Addr×Obj)}{Y:St}{H:Hp}{s:af}{T:String}{x:V}{v:Value}(I:Inv X pins Y H s)(r:RelV x v)(ty:tyV X.K T x H):
  s.TypeIs v T/\∀a,v=.ref a->∃ob,s.heap.get? a=some ob/\ob.dict=none:=by
 cases x with
 |str z=>obtain⟨t,rfl⟩:=r;cases(show T="str"from ty);exact⟨uu s z t,λ_ e=>nomatch e⟩
 |int i=>obtain⟨t,rfl⟩:=r;cases(show T="int"from ty);exact⟨uw s i t,λ_ e=>nomatch e⟩
 |ref p=>
  cases r;rcases ty with⟨rfl,xs,hq⟩|⟨rfl,o,hk,hc,hd⟩|⟨rfl,hk⟩|⟨rfl,S,n,hk⟩
  ·obtain⟨its,_,pl,_⟩:=I.list hq;refine⟨pl.isList.typeIs,λa e=>?_⟩;cases e;obtain⟨o,n,e,c,hd,_⟩:=pl;exact⟨o,e,hd⟩
  ·refine⟨⟨o,I.fF p o hk,hc⟩,λa e=>?_⟩;cases e;exact⟨o,I.fF _ o hk,hd⟩
  ·have z:∃o,s.heap.get? p=some o/\o.ExactDict:=by
    rcases hk with⟨kvs,hk⟩|⟨kvs,hk⟩
    ·obtain⟨_,_,_,_,o,_,_,e,ex,_⟩:=I.hok p _ hk;exact⟨o,e,ex⟩
    ·obtain⟨_,_,_,_,o,_,_,e,ex,_⟩:=I.hok p _ hk;exact⟨o,e,ex⟩
   obtain⟨o,e,ex⟩:=z;refine⟨⟨o,e,ex.1⟩,λa e2=>?_⟩;cases e2;exact⟨o,e,ex.2.1⟩
  ·obtain⟨o,_,_,_,e,ex,_⟩:=I.hok p _ hk;refine⟨⟨o,e,ex.1⟩,λa e2=>?_⟩;cases e2;exact⟨o,e,ex.2.1⟩
 |_=>exact False.elim ty
def vI (K:W.Frag)(T:String)(r:V->List V->Hp->VK->Prop)(to:TE):TE:=λY H Q=>to Y H λx H1=>tyV K T x H1/\r x [] H1 Q
def zB (K:W.Frag)(T:String)(r:V->List V->Hp->VK->Prop)(to:TE)(t:TA):TE:=λY H Q=>to Y H λx H1=>tyV K T x H1/\t Y H1 λxs H2=>r x xs H2 Q
variable {o e:Expr}{es:List Expr}{to:TE}{t:TA}{name:Str}{apos cpos:Pos}{T id:String}{r:V->List V->Hp->VK->Prop}
theorem zin (pa:ux T)(slot:Slot T name id)(hty:ud (.builtin id)=pure (.type "method_descriptor"))(hm:MtR X id r)(ho:PE X o to)
  (nU:lq o name X.env (eval o X.env)=eval o X.env:=by rfl) (hline:(apos.endLine==cpos.line)=true:=by rfl):PE X (.Call (.Attribute o name apos) [] [] cpos) (vI X.K T r to):=by
 intro pins s Y H Q I h;refine wpAny_Call_method0_late nU hline (aO (ho pins s Y H _ I h) λv s1 ⟨x,H1,I1,r1,ty,q1⟩=>?_);obtain⟨h1,h2⟩:=zj3 I1 r1 ty;exact⟨T,id,pa,slot,hty,h1,h2,ou rfl (PySem.evalArgs_none (hm pins s1 Y H1 x [] v [] Q I1 r1 .nil q1))⟩
theorem zg8 (pa:ux T)(slot:Slot T name id)(hty:ud (.builtin id)=pure (.type "method_descriptor"))(hm:MtR X id r)(ho:PE X o to)(ha:PA X (e::es) t)
  (nU:lq o name X.env (eval o X.env)=eval o X.env:=by rfl)
  (ER:((l6 cpos (d5 (e::es) X.env)).all (λx=> !x.1)&&(backToKw cpos (ue [] X.env)).all (λx=>x.1.isSome)
   &&decide ((e::es).length+([]:List qe).length+(if([]:List qe).isEmpty then 0 else 1)<30))=true:=by rfl)
  (hline:(apos.endLine==cpos.line)=true:=by rfl) (hs:d5 (e::es) X.env=(false,eval e X.env)::d5 es X.env:=by rfl) (vJ:(l6 cpos (d5 es X.env)).any (·.1)=false:=by rfl):
  PE X (.Call (.Attribute o name apos) (e::es) [] cpos) (zB X.K T r to t):=by
 intro pins s Y H Q I h;refine wpAny_Call_method_late nU ER hline rfl (aO (ho pins s Y H _ I h) λv s1 ⟨x,H1,I1,r1,ty,q1⟩=>?_);obtain⟨h1,h2⟩:=zj3 I1 r1 ty;refine⟨T,id,pa,slot,hty,h1,h2,?_⟩;have hA:=ha cpos pins s1 Y H1 _ I1 q1;rw[hs]at hA ⊢;refine ou (by show(false||(l6 cpos (d5 es X.env)).any (·.1))=false;rw[vJ]<;>rfl) (Calls.evalArgs_plain ?_);exact aO hA λus s2 ⟨vs,H2,I2,r2,q2⟩=>hm pins s2 Y H2 x vs v us Q I2 r1 r2 q2
end
def ES (X:Cx)(id:String)(r:V->List V->Hp->VK->Prop):Prop:=∀(pins:List (Addr×Obj)) (s:af) (Y:St) (H:Hp) (x:V) (xs:List V) (v:Value) (us:List Value) (Q:VK),Inv X pins Y H s->RelV x v->Vals xs us->r x xs H Q->wpAny (model X.prog X.w) X.A (call (.builtin id) (v::us)) (EP X pins Y Q) X.xe s
theorem Vals.one {x:V}{us:List Value}(h:Vals [x] us):∃u,us=[u]/\RelV x u:=by
 cases h with
 |cons r h=>cases h;exact⟨_,rfl,r⟩
theorem Vals.two {x y:V}{us:List Value}(h:Vals [x,y] us):∃u v,us=[u,v]/\RelV x u/\RelV y v:=by
 cases h with
 |cons r h=>cases h with
  |cons q h=>cases h;exact⟨_,_,rfl,r,q⟩
theorem Vals.zero:∀{us:List Value},Vals [] us->us=[]
 |_,.nil=>rfl
theorem Vals.dropLast {xs:List V}{us:List Value}(h:Vals xs us):Vals xs.dropLast us.dropLast:=by
 induction h with
 |nil=>exact .nil
 |cons r t ih=>
  cases t with
  |nil=>exact .nil
  |cons q t'=>exact .cons r ih
theorem Vals.eraseIdx:∀{xs:List V} {us:List Value} (i:Nat),Vals xs us->Vals (xs.eraseIdx i) (us.eraseIdx i)
 |_,_,_,.nil=>.nil
 |_,_,0,.cons _ t=>t
 |_,_,i+1,.cons r t=>.cons r (Vals.eraseIdx i t)
theorem Vals.rep {xs:List V}{us:List Value}(h:Vals xs us):∀k:Nat,Vals (ba k xs).flatten (ba k us).flatten
 |0=>.nil
 |k+1=>by rw[dt,dt,gh,gh];exact Vals.append h (Vals.rep h k)
theorem RT {α:Type}(l:List α):l.eraseIdx (l.length-1)=l.dropLast:=by
 induction l with
 |nil=>rfl
 |cons a r ih=>
  cases r with
  |nil=>rfl
  |cons b r=>
   have e:(a::b::r).length-1=((b::r).length-1)+1:=by have h1:(a::b::r).length=r.length+2:=rfl;have h2:(b::r).length=r.length+1:=rfl;omega
   rw[e,List.eraseIdx_cons_succ,ih]
   all_goals rfl
theorem foldl_rep (its:List Value):∀(k:Nat) (acc:List Value),
  uy (λx1 x2=>x1++x2) acc.toArray (ba k its.toArray)=(acc++(ba k its).flatten).toArray
 |0,acc=>by simp
 |k+1,acc=>by
  have e:acc.toArray++its.toArray=(acc++its).toArray:=by simp
  have e2:(acc++its)++(ba k its).flatten=acc++(ba (k+1) its).flatten:=by rw[dt,gh,d8]
  rw[<-e2,<-foldl_rep its k (acc++its),<-e,dt,pc]
section
variable {X:Cx}{pins:List (Addr×Obj)}{Y:St}{H:Hp}{s:af}{l b:Addr}{xs ys zs:List V}
theorem Inv.lset {its its':List Value}{n:Nat}{f:Array Value->Array Value}{t':Nat}(I:Inv X pins Y H s)(hH:H l=some (.lst xs))
  (e:s.heap.get? l=some {cls:=.type "list",data:=.seq its.toArray n}) (hf:f its.toArray=its'.toArray) (hv:Vals ys its') (hz:ys.length<=bc):
  Inv X pins Y (upd H l (.lst ys)) {s with heap:=s.heap.update l (Obj.mapSeq f),toks:=t'}:=by
 have q:=PySem.IsL.update e f;rw[hf]at q;refine I.write (x:=l) (e:=l) (by rw[hH];exact trivial) (.inl rfl) (λb' u hb hu=>(fg s.heap (Obj.mapSeq f) (Ne.symm hb)).trans hu) ⟨_,q⟩ ?_;exact⟨hz,its',_,hv,q⟩
theorem Inv.lnew {its:List Value}{t':Nat}(I:Inv X pins Y H s)(hv:Vals ys its)(hz:ys.length<=bc):
  Inv X pins Y (upd H s.heap.objs.size (.lst ys)) {s with heap:=s.heap.push {cls:=.type "list",data:=.seq its.toArray},toks:=t'}:=
 I.laid (λ_ _ q=>ah _ q) (ag _) ⟨hz,its,0,hv,bw _ rfl⟩
theorem Inv.fresh (I:Inv X pins Y H s):H s.heap.objs.size=none:=I.hok.fresh (ag _)
theorem Inv.jM (I:Inv X pins Y H s)(hH:H l=some (.lst xs)):xs.length<=bc/\∃(its:List Value) (n:Nat),Vals xs its/\xs.length=its.length/\s.heap.get? l=some {cls:=.type "list",data:=.seq its.toArray n}:=by obtain⟨z,its,n,r,e⟩:=I.hok l _ hH;exact⟨z,its,n,r,r.length,e⟩
theorem K7 {n:Nat}(h:n<=bc):iu n=false:=by unfold iu;exact vo (by omega)
end
section
variable {X:Cx}
def Cb:V->List V->Hp->VK->Prop:=λx vs H Q=>∃l xs y,x=.ref l/\vs=[y]/\H l=some (.lst xs)/\xs.length<bc/\Q .bA (upd H l (.lst (xs++[y])))
theorem ET:ES X "list.append" Cb:=by intro pins s Y H x vs v us Q I rx rv h;obtain⟨l,xs,y,rfl,rfl,hH,hz,q⟩:=h;cases rx;obtain⟨u,rfl,ru⟩:=rv.one;obtain⟨z,its,n,r,hl,e⟩:=I.jM hH;refine mw F.slot_list_append ⟨_,e,rfl⟩ F.entry_list_append (F.args_list_append_2 _ _) (PySem.list_append l its.toArray n u (by rw[ax];omega)) ⟨e,?_⟩;refine⟨.bA,_,I.lset (its':=its++[u]) hH e (by simp) (r.append (.cons ru .nil)) ?_,rfl,q⟩;rw[au,List.length_singleton];omega
def Cd:V->List V->Hp->VK->Prop:=λx vs H Q=>∃l b xs zs,x=.ref l/\vs=[.ref b]/\H l=some (.lst xs)/\H b=some (.lst zs)/\xs.length+zs.length<=bc/\Q .bA (upd H l (.lst (xs++zs)))
theorem RU:ES X "list.extend" Cd:=by
 intro pins s Y H x vs v us Q I rx rv h;obtain⟨l,b,xs,zs,rfl,rfl,hH,hB,hz,q⟩:=h;cases rx;obtain⟨u,rfl,ru⟩:=rv.one;cases ru;obtain⟨z,its,n,r,hl,e⟩:=I.jM hH;obtain⟨z2,dJ,n2,r2,EU,e2⟩:=I.jM hB;have cM:its.toArray.size+dJ.toArray.size<=bc:=by rw[ax,ax];omega
 have nV:¬(!its.toArray.isEmpty&&iu (its.toArray.size+dJ.toArray.size))=true:=by rw[K7 cM,Bool.and_false];exact ce
 refine mw F.slot_list_extend ⟨_,e,rfl⟩ F.entry_list_extend (F.args_list_extend_2 _ _) (AutoSeq1.list_extend_list_list_0 l its.toArray n b dJ.toArray n2 nV (by rw[ax];omega) (by omega)) ⟨e,e2,?_⟩;refine⟨.bA,_,I.lset (its':=its++dJ) hH e (by simp) (r.append r2) ?_,rfl,q⟩;rw[au];omega
def qD:V->List V->Hp->VK->Prop:=λx vs H Q=>∃l xs y,x=.ref l/\vs=[]/\H l=some (.lst xs)/\xs[xs.length-1]?=some y/\Q y (upd H l (.lst xs.dropLast))
theorem K8:ES X "list.pop" qD:=by
 intro pins s Y H x vs v us Q I rx rv h;obtain⟨l,xs,y,rfl,rfl,hH,hy,q⟩:=h;cases rx;have RV:=rv.zero;subst RV;obtain⟨z,its,n,r,hl,e⟩:=I.jM hH;obtain⟨u,hu,ru⟩:=r.get hy;have x5:its.toArray[its.toArray.size-1]?=some u:=by show its.toArray[its.length-1]?=some u;rw[<-Array.getElem?_toList,<-hl];exact hu
 refine mw F.slot_list_pop ⟨_,e,rfl⟩ F.entry_list_pop (F.args_list_pop_1 _) (MeetsSeq.list_pop_last l its.toArray n u x5 (by rw[ax];omega)) ⟨e,?_⟩;refine⟨y,_,I.lset (its':=its.dropLast) hH e ?_ r.dropLast ?_,ru,q⟩
 ·show its.toArray.eraseIdxIfInBounds (its.toArray.size-1)=its.dropLast.toArray;rw[ax,List.eraseIdxIfInBounds_toArray,RT]
 ·rw[List.length_dropLast];omega
def zC:R2:=λx y H Q=>∃l b xs zs,x=.ref l/\y=.ref b/\H l=some (.lst xs)/\H b=some (.lst zs)/\xs.length+zs.length<=bc/\∀p,H p=none->Q (.ref p) (upd H p (.lst (xs++zs)))
theorem RW:OpR X (gc .Add) zC:=by
 intro pins s Y H x y v u Q I rx ry h;obtain⟨l,b,xs,zs,rfl,rfl,hH,hB,hz,q⟩:=h;cases rx;cases ry;obtain⟨z,its,n,r,hl,e⟩:=I.jM hH;obtain⟨z2,dJ,n2,r2,EU,e2⟩:=I.jM hB;refine PySem.P.add_list e e2 ?_ (by rw[ax,ax];omega);have ea:its.toArray++dJ.toArray=(its++dJ).toArray:=by simp
 rw[ea];exact⟨.ref _,_,I.lnew (t':=s.toks) (r.append r2) (by rw[au];omega),rfl,q _ I.fresh⟩
def EV:R2:=λx y H Q=>∃l k xs,x=.ref l/\y=.int k/\H l=some (.lst xs)/\ -(2 ^ 63)<=k/\k<2 ^ 63/\xs.length*k.toNat<=bc/\∀p,H p=none->Q (.ref p) (upd H p (.lst (ba k.toNat xs).flatten))
theorem len_rep {α:Type}(xs:List α)(k:Nat):(ba k xs).flatten.length=k*xs.length:=by
 induction k with
 |zero=>simp
 |succ k ih=>rw[dt,gh,au,ih,Nat.succ_mul,Nat.add_comm]
theorem RX:OpR X (gc .Mult) EV:=by
 intro pins s Y H x y v u Q I rx ry h;obtain⟨l,k,xs,rfl,rfl,hH,h1,h2,hz,q⟩:=h;cases rx;obtain⟨t,rfl⟩:=ry;obtain⟨z,its,n,r,hl,e⟩:=I.jM hH;have hlen:its.toArray.size*k.toNat<=bc:=by rw[ax,<-hl];exact hz
 have EW:¬its.toArray.size*k.toNat>(2 ^ 63-1)/8:=by
  have:(bc:Nat)<=(2 ^ 63-1)/8:=by decide
  omega
 have EX:¬(!Builtin.List.listFitsIndex k)=true:=by rw[fitsIndex_both h1 h2];exact ce
 have nV:¬iu (its.toArray.size*k.toNat)=true:=by rw[K7 hlen];exact ce
 have qE:uy (λx1 x2=>x1++x2) #[] (ba (if its.toArray.isEmpty=true then 0 else k.toNat) its.toArray)=(ba k.toNat its).flatten.toArray:=by
  have f0:∀m:Nat,uy (λx1 x2=>x1++x2) #[] (ba m its.toArray)=(ba m its).flatten.toArray:=λm=>by have:=foldl_rep its m [];rw[List.nil_append]at this;exact this
  rw[f0];cases its with
  |nil=>simp
  |cons a r'=>rw[vh (by simp)]
 refine wpAny_binaryOp_repeat_ref (T:="list") (U:="int") (by decide) ⟨_,e,rfl⟩ (λs'=>uw s' k t) noFill_list_mul F.fills_int_mul F.slot_int_rmul repeat_list F.slot_int_index.lookup
  (mw F.slot_int_rmul (uw s k t) F.entry_int_rmul (F.args_int_rmul_2 _ _) (int___rmul___int_list k t l its.toArray n)
   ⟨e,rfl,⟨_,e,rfl⟩,mw F.slot_list_mul ⟨_,e,rfl⟩ F.entry_list_mul (F.args_list_mul_2 _ _) (AutoListH.list___mul___list_int_3 l its.toArray n k t EX EW nV) ⟨e,?_⟩⟩)
 rw[qE];exact⟨.ref _,_,I.lnew (t':=s.toks) (r.rep k.toNat) (by rw[len_rep,tw];exact hz),rfl,q _ I.fresh⟩
end
end L2
namespace Att
open PySem PySem.W PySem.Calls PyProof.Rows
theorem RY {P:fz}{h:Heap}:∀(ns:List Int) (vs:List Value),WellAll P h vs (ns.map WData.int)->uo vs ns:=by
 intro ns
 induction ns with
 |nil=>intro vs w;rw[tm]at w;cases w;exact .nil
 |cons n ns ih=>
  intro vs w;rw[bh]at w;cases w with
  |cons a b=>cases a;exact .cons _ _ (ih _ b)
theorem zbk {l:OpenLaw}{n:Nat}(hn:l.most=some n){P:fz}{h:Heap}{args:List WData}{vals:List Value}
  (lC:l.row.toRowW.claim.pre args=true) (zD:WellAll P h vals args):
  ∃a vs ns,vals=[Value.ref a]/\args=[WData.list (ns.map WData.int)]/\h.get? a=some {cls:=.type "list",data:=.seq vs.toArray}/\uo vs ns/\ns.length<=n:=by
 have RZ:WShape.hasAll [] args [.list .int]=true:=(pre_splitW lC).1;have hc:l.pre.holds [] {args:=args}=true:=(pre_splitW lC).2;obtain⟨d,r,rfl,h1,h2⟩:=hasAllW_cons RZ;obtain rfl:=hasAllW_nil h2;obtain⟨xs,rfl,h3⟩:=hasW_list h1;obtain⟨ns,rfl⟩:=items_int h3
 have hlen:ns.length<=n:=by
  unfold OpenLaw.pre at hc;have h4:(WTm.not (.lt (.lit (.int (n:Int))) (.len (.arg 0)))).holds [] {args:=[.list (ns.map .int)]}=true:=by have h4:=(holds_andW hc).1;rw[hn]at h4;exact h4
  have h5:=condW_of h4 (w_not (w_lt w_lit (w_len_list (w_arg rfl))));rw[ac]at h5;refine Nat.le_of_not_lt λq=>?_;have q':(n:Int)<((ns.length:Nat):Int):=by omega
  first
   |(rw[vn q']at h5;exact absurd h5 (by decide))
   |(simp at h5;omega)
 cases zD with
 |cons w1 w2=>
  cases w2;cases w1 with
  |list ho hall=>exact⟨_,_,ns,rfl,rfl,ho,RY ns _ hall,hlen⟩
theorem R0 (l:OpenLaw)(args:List WData):l.row.toRowW.claim.post args (.bool true) args=true:=
 postW_of (r:=l.row.toRowW) (X:=(true==true))
  (show WShape.has [] (.bool true) .bool=true by first|rfl|decide|simp[WShape.has,WShape.arms,WShape.armsAll])
  (show(WTm.eq .res (.lit (.bool true))).value [] {args:=args,res:=some (.bool true),after:=args}=some (.bool (true==true))from w_eq_bool (w_res rfl) w_lit) rfl
theorem attach_call {l:OpenLaw}{n:Nat}{q:bx}{loose:List Str}{XP:(Str->Option Value)->Heap->Prop}{YP:World->Heap->Prop}{d:DefRec}
  (hn:l.most=some n) (hdf:d.params.defaults=[])
  (call:∀(w:World) (s₀ s₁:af) (mg mb:Str->Option Value) (fa:Addr) (o:Obj) (pm cd doc:Value) (a:Addr) (vs:List Value) (ns:List Int),
   Ground q loose [] XP w s₀ mg mb s₁.heap->YP w s₁.heap->
   s₁.heap.get? fa=some o->o.data=.func (docDef d.name d.params d.body d.scope pm cd doc)->s₁.heap.CodeRec cd d.name->mg d.name=some (.ref fa)->
   s₁.heap.get? a=some {cls:=.type "list",data:=.seq vs.toArray}->uo vs ns->ns.length<=n->s₁.gens=#[]->
   kz (model l.prog w) qg (.call (.ref fa) ⟨[.ref a],[]⟩) (λr s'=>r=.ok (.ret (.bool true))/\OldK s₁.heap s'.heap/\s'.os=s₁.os/\ml s'.gens) s₁):
  WalkO q loose XP YP l.row.toRowW d [] (λf vs=>PySem.call f vs):=by
 intro w s₀ s₁ mg mb G aB fa o pm cd doc dV kV ho hd hcd hD zE hg args vals as lC R1 hrd zD hlo;obtain rfl:dV=.none:=Dflts.none hD hdf;obtain rfl:kV=.none:=Dflts.noKw hD;obtain⟨a,vs,ns,rfl,rfl,jN,hints,hlen⟩:=zbk hn lC zD;refine enter_call (om (call w s₀ s₁ mg mb fa o pm cd doc a vs ns G aB ho (fd_plain hd) hcd zE jN hints hlen hg) λr s' hq=>?_);obtain⟨rfl,h2,h3,h4⟩:=hq;exact⟨.inl ⟨.bool true,.bool true,[],rfl,λ_=>rfl,.bool true,R0 l _,λ_=>⟨List.Pairwise.nil,λ_ hm=>(nomatch hm)⟩⟩,h2,h3,h4⟩
end Att
namespace L2
open PySem PySem.Spec PyProof.Rows
theorem K9:∀{vs:List Value} {ns:List Int},uo vs ns->Vals (ns.map V.int) vs
 |_,_,.nil=>.nil
 |_,_,.cons n t h=>.cons ⟨t,rfl⟩ (K9 h)
def Only (H:Hp):Prop:=∀b,H b=none\/∃o xs,H b=some (.fL o (.lst xs))
theorem zgo {P:bx}{w:World}{K:W.Frag}{mg mb:Str->Option Value}{CX:CXT}{k:Nat}{fa a:Addr}{fd:eh}{x:Str}{sp:Sp}{s₁:af}{vs:List Value}{ns:List Int}
  (KX:K.In s₁.heap) (hns:s₁.heap.Ns bz mg) (hb:s₁.heap.Ns ur mb) (R3:∀x:Str,x≠"__name__"->mb x=dg x) (EY:s₁.heap.NoLimit) (hg:s₁.gens=#[])
  (ha:s₁.heap.get? a=some {cls:=.type "list",data:=.seq vs.toArray}) (hi:uo vs ns) (hl:ns.length<=bc) (hr:Room k qg)
  (F:∀base:Heap,K.In base->base.Ns bz mg->FnOk P w K mg base CX k fa fd [x] sp) (zF:∀(s:af) (u:Value),qd s fd ⟨[u],[]⟩ [(x,u)])
  (kH:∀H:Hp,Only H->SqL K H a (ns.map V.int)->sp [.ref a] H (λv _=>v=.bl true) λ_ _ _=>False)
  (EZ:∀H e s',CX [] H s₁ (λ_ _ _=>False) e s'->False):
  kz (model P w) qg (.call (.ref fa) ⟨[.ref a],[]⟩) (λr s'=>r=.ok (.ret (.bool true))/\OldK s₁.heap s'.heap/\s'.os=s₁.os/\ml s'.gens) s₁:=by
 have rv:=K9 hi;have E2:=hi.length
 have core:∀H:Hp,Only H->SqL K H a (ns.map V.int)->HOk P w H s₁.heap->(∀b,H b≠none->b=a)->(H a≠none->K.lookup a=none)->
   kz (model P w) qg (.call (.ref fa) ⟨[.ref a],[]⟩) (λr s'=>r=.ok (.ret (.bool true))/\OldK s₁.heap s'.heap/\s'.os=s₁.os/\ml s'.gens) s₁:=by
  intro H hO hS hok hA hK;have sX:∀{b:Addr} {o:Obj},s₁.heap.get? b=some o->H b=none->(gF s₁.heap H).get? b=some o:=λe n=>Qt e n
  have zo:∀{b:Addr} {o:Obj} {es:Array DictEntry} {ep:Nat},s₁.heap.get? b=some o->o.data=.dict es ep->H b=none:=λ{b o es ep} e d=>by
   cases q:H b with
   |none=>rfl
   |some u=>have e':b=a:=hA b (by rw[q];simp);subst e';rw[ha]at e;cases e;have d':Data.seq vs.toArray _=Data.dict es ep:=d;cases d'
  have Cf:∀{b:Addr} {m:Str->Option Value},s₁.heap.Ns b m->(gF s₁.heap H).Ns b m:=λ{b m} ⟨o,es,ep,e,d,r⟩=>⟨o,es,ep,sX e (zo e d),d,r⟩
  have K':K.In (gF s₁.heap H):=λb o e=>sX (KX b o e) (by
   cases q:H b with
   |none=>rfl
   |some u=>have e':b=a:=hA b (by rw[q];simp);subst e';rw[hK (by rw[q];simp)]at e;cases e)
  have hM:Mod K mg (gF s₁.heap H):=⟨K',Cf hns,⟨mb,Cf hb,R3⟩,let⟨mc,h1,h2⟩:=EY;⟨mc,Cf h1,h2⟩⟩;have e0:qA P w K mg (gF s₁.heap H) qg [] s₁ H:=⟨rfl,hM,λb o e=>Qu e,kw (Qs _ _),trivial,λb hb=>absurd (show b∈([]:List Addr)from hb) (by simp),hok,.of_eq hg⟩;refine om ((F _ K' (Cf hns)).run qg [] s₁ H ⟨[.ref a],[]⟩ [.ref a] [.ref a] _ _ hr e0 (zF s₁ (.ref a)) (.cons rfl .nil) (kH H hO hS)) λr s' h=>?_;cases r with
  |error e=>exact(EZ H e s' h).elim
  |ok fl=>
   cases fl with
   |next=>exact False.elim h
   |brk=>exact False.elim h
   |cont=>exact False.elim h
   |ret u=>
    obtain⟨v,H',os,bare,un,E3,r',q⟩:=h;have q':v=.bl true:=q;subst q';obtain rfl:u=Value.bool true:=r';refine⟨rfl,OldK.of_keep λb o e=>?_,os,bare⟩;cases q:H b with
    |none=>exact un.keep b o e q (by intro z;exact absurd (show b∈([]:List Addr)from z) (by simp)) (by simp)
    |some u=>
     rcases hO b with z|⟨ob,xs,z⟩
     ·rw[q]at z;cases z
     ·have z2:=un.cL b ob _ z;obtain⟨e1,_⟩:=hok b _ z;obtain⟨e2,_⟩:=E3 b _ z2;rw[e]at e1;cases e1;exact e2
 cases hk:K.lookup a with
 |some o=>have e:=KX a o hk;rw[ha]at e;cases e;refine core (λ_=>none) (λ_=>.inl rfl) (.inr ⟨_,vs.toArray,_,hk,rfl,rfl,rfl,by rw[ax,E2];exact hl,by simpa using rv⟩) (λb u z=>by have z':(none:Option HO)=some u:=z;cases z') (λb z=>absurd rfl z) λz=>absurd rfl z
 |none=>
  refine core (λb=>if b=a then some (.fL {cls:=.type "list",data:=.seq vs.toArray} (.lst (ns.map V.int)))else none) (λb=>?_) (.inl (.inr ⟨{cls:=.type "list",data:=.seq vs.toArray},vg rfl⟩)) (λb u z=>?_) (λb z=>?_) λ_=>hk
  ·by_cases hb:b=a
   ·exact .inr ⟨_,_,vg hb⟩
   ·exact .inl (vh hb)
  ·by_cases hb:b=a
   ·have z':=(vg hb).symm.trans z;cases z';subst hb;exact⟨ha,by rw[ac];exact hl,vs,_,rv,ha⟩
   ·have z':=(vh hb).symm.trans z;cases z'
  ·by_cases hb:b=a
   ·exact hb
   ·exact absurd (vh hb) z
theorem walk_of {l:W.OpenLaw}{n k:Nat}{q:bx}{loose:List Str}{XP:(Str->Option Value)->Heap->Prop}{YP:World->Heap->Prop}{d:DefRec}{K:fz->W.Frag}{CX:World->CXT}{sp:World->Sp}{x:Str}
  (hn:l.most=some n) (hn2:n<=bc) (hdf:d.params.defaults=[]) (hr:Room k qg)
  (hY:∀(w:World) (h:Heap),YP w h->(K w.params).In h)
  (F:∀(w:World) (mg:Str->Option Value) (fa:Addr) (h:Heap),(K w.params).In h->h.Ns bz mg->mg d.name=some (.ref fa)->∃fd:eh,(∀(s:af) (u:Value),qd s fd ⟨[u],[]⟩ [(x,u)])/\∀base:Heap,(K w.params).In base->base.Ns bz mg->FnOk l.prog w (K w.params) mg base (CX w) k fa fd [x] (sp w))
  (kH:∀(w:World) (H:Hp) (a:Addr) (ns:List Int),ns.length<=n->Only H->SqL (K w.params) H a (ns.map V.int)->sp w [.ref a] H (λv _=>v=.bl true) λ_ _ _=>False)
  (EZ:∀(w:World) (H:Hp) (s:af) (e:Value) (s':af),CX w [] H s (λ_ _ _=>False) e s'->False):
  W.WalkO q loose XP YP l.row.toRowW d [] (λf vs=>PySem.call f vs):=by
 refine Att.attach_call hn hdf λw s₀ s₁ mg mb fa o pm cd doc a vs ns G aB ho hd hcd zE jN hints hlen hg=>?_;have KX:=hY w _ aB;obtain⟨fd,hb,hF⟩:=F w mg fa _ KX G.T.g zE;exact zgo KX G.T.g G.T.b G.T.builtins G.T.nolimit hg jN hints (cg hlen hn2) hr hF hb (λH hO hS=>kH w H a ns hlen hO hS) λH e s'=>EZ w H s₁ e s'
def z1a (s:Stmt):Arguments:=match s with
 |.FunctionDef _ a _ _ _ _ _ _ _ _=>a
 |_=>{posonlyargs:=[],args:=[],vararg:=none,kwonlyargs:=[],kw_defaults:=[],kwarg:=none,defaults:=[]}
def z0o (s:Stmt):List Stmt:=match s with
 |.FunctionDef _ _ b _ _ _ _ _ _ _=>b
 |_=>[]
def z09 (s:Stmt):Scope:=match s with
 |.FunctionDef _ _ _ _ _ _ sc _ _ _=>sc
 |_=>{kind:=.function,names:=[],isGenerator:=false,isCoroutine:=false}
abbrev nW:CXT:=λ_ _ _ _ _ _=>False
abbrev E0:XK:=λ_ _ _=>False
theorem R4 {X:Cx}:z8p nW X E0:=λ_ _ _ _ _ _ _ h=>h.elim
structure Fun (K:W.Frag)(x qual:Str)(st:Stmt)(f:Addr)(fd:eh):Prop where
 ex:∃(oc:Value) (od:Option Addr) (kV doc pm:Value) (an:Option Addr) (cdv ct:Value) (osl:Array (Option Value)),fd=W.fnOf x qual (z1a st) (z0o st) (z09 st) .none kV doc pm an cdv ct/\K.lookup f=some ⟨oc,od,.func fd,osl⟩/\W.codeIn K cdv qual=true
 kp:W.keepIn K (.ref f)=true
section
variable {P:bx}{w:World}{K:W.Frag}{mg:Str->Option Value}{base:Heap}
theorem Fun.ok {x qual:Str}{st:Stmt}{f:Addr}{fd:eh}{N ps:List Str}{k:Nat}{sp:Sp}(F:Fun K x qual st f fd)(S:FnScope N ps (z09 st))(len:∀vs H Q E,sp vs H Q E->vs.length=ps.length)
  (nR:∀(cdv:Value) (A:d7) (outer:List Env) (s:af) (H:Hp) (vs:List V) (Q:VK) (E:XK),Room k (A.deeper (p3 qual (z09 st) s.heap.objs.size f cdv))->sp vs H Q E->∃t,PSs (gL nW P w K mg base N qual (z09 st) f cdv A outer s H E).zb (z0o st) t/\t {nx:=λ_ H'=>Q .bA H',rt:=Q} (start N vs) H):FnOk P w K mg base nW (k+1) f fd ps sp:=by
 obtain⟨oc,od,kV,doc,pm,an,cdv,ct,osl,rfl,lk,hcd⟩:=F.ex;refine zkj lk hcd S len λA outer s H vs Q E hr kH=>?_;obtain⟨t,h,q⟩:=nR cdv A outer s H vs Q E hr kH;exact⟨t,h.zb,q⟩
theorem Fun.binds {x qual:Str}{st:Stmt}{f:Addr}{fd:eh}{ps:List Str}(F:Fun K x qual st f fd)
  (h:∀(kV doc pm:Value) (an:Option Addr) (cdv ct:Value) (us:List Value),us.length=ps.length->ut (W.fnOf x qual (z1a st) (z0o st) (z09 st) .none kV doc pm an cdv ct) ⟨us,[]⟩=pure (ps.zip us)):Binds K fd ps []:=by
 obtain⟨oc,od,kV,doc,pm,an,cdv,ct,osl,rfl,lk,hcd⟩:=F.ex;exact .all (h kV doc pm an cdv ct)
theorem E4 {x qual:Str}{st:Stmt}{f:Addr}{oc:Value}{od an:Option Addr}{osl:Array (Option Value)}{kV doc pm cdv ct:Value}(l:K.lookup f=some ⟨oc,od,.func (W.fnOf x qual (z1a st) (z0o st) (z09 st) .none kV doc pm an cdv ct),osl⟩) (c:W.codeIn K cdv qual=true) (k:W.keepIn K (.ref f)=true):Fun K x qual st f (W.fnOf x qual (z1a st) (z0o st) (z09 st) .none kV doc pm an cdv ct):=⟨⟨oc,od,kV,doc,pm,an,cdv,ct,osl,rfl,l,c⟩,k⟩
end
theorem lD {A B:Prop}(h:B):if false=true then A else B:=by rw[vh ce];exact h
theorem lE {A B:Prop}(h:A):if true=true then A else B:=by rw[vg rfl];exact h
def Same (H H':Hp):Prop:=∀b o,H b=some o->H' b=some o
theorem Same.refl (H:Hp):Same H H:=λ_ _ h=>h
theorem Same.trans {H H1 H2:Hp}(a:Same H H1)(b:Same H1 H2):Same H H2:=λc o h=>b c o (a c o h)
section
variable {X:Cx}
theorem R5:CallR X (.builtin "len") (λxs H Q=>∃a kvs,xs=[V.ref a]/\H a=some (.dK kvs)/\Q (.int kvs.length) H):=by intro pins s Y H xs us Q I r h;obtain⟨a,kvs,rfl,ha,q⟩:=h;obtain⟨u,rfl,ru⟩:=vals1 r;cases ru;exact Rj I (.inl ha) λt s' I'=>⟨.int kvs.length,H,I',⟨t,rfl⟩,q⟩
end
end L2
set_option maxHeartbeats 5000000
namespace L2
open PySem PySem.Spec PyProof.Rows
def fH (env:Env):List (Str×gq)->List (Str×Addr)->List (Str×Addr)
 | [],cs=>cs
 |(n,k)::r,cs=>fH env r (if(k==.free)=true then(n,(env.cells.lookup n).getD 0)::cs else cs)
theorem La:∀l (cs:List (Str×Addr)),(∃c,cs.lookup x=some c)->∃c,(fH env l cs).lookup x=some c
 | [],cs,h=>h
 |(n,k)::r,cs,h=>by
  refine La r _ ?_;split
  ·by_cases e:(x==n)=true
   ·exact⟨_,by rw[c7,e]⟩
   ·obtain⟨c,hc⟩:=h;exact⟨c,by rw[c7,m9.mpr e];exact hc⟩
  ·exact h
theorem E5:∀(l:List (Str×gq)) cs,l.lookup x=some .free->∃c,(fH env l cs).lookup x=some c
 | [],cs,h=>by simp at h
 |(n,k)::r,cs,h=>by
  rw[c7]at h;cases e:(x==n)with
  |true=>rw[e]at h;have hk:=vi h;subst hk;exact La r _ ⟨_,by rw[vg (by rfl),c7,e]⟩
  |false=>rw[e]at h;exact E5 r _ h
theorem ze8:∀l cs,(∀y∈l,y.2=.free->∃c,env.cells.lookup y.1=some c)->(∀x c,cs.lookup x=some c->env.cells.lookup x=some c)->
  ∀x c,(fH env l cs).lookup x=some c->env.cells.lookup x=some c
 | [],cs,_,h=>h
 |(n,k)::r,cs,hl,h=>by
  refine ze8 r _ (λy hy=>hl y (bn _ hy)) λx c hx=>?_;by_cases hk:(k==NameKind.free)=true
  ·rw[vg hk,c7]at hx;cases e:(x==n)with
   |true=>
    rw[e]at hx;have R6:x=n:=by simpa using e
    obtain⟨d,hd⟩:=hl (n,k) az (by simpa using hk);have iY:=hd;rw[iY]at hx;rw[R6,iY];exact hx
   |false=>rw[e]at hx;exact h x c hx
  ·rw[vh hk]at hx;exact h x c hx
theorem Lb (h:∀y∈scope.names,y.2=.free->∃c,env.cells.lookup y.1=some c):closureFor scope env=pure (fH env scope.names []):=by
 have go:∀l cs,(∀y∈l,y.2=.free->∃c,env.cells.lookup y.1=some c)->
   (forIn l cs λx r=>if(x.2==NameKind.free)=true then(do let a <-cellOf env x.1;pure (ForInStep.yield ((x.1,a)::r)):Sem _)else pure (ForInStep.yield r))=(pure (fH env l cs):Sem _):=by
  intro l
  induction l with
  |nil=>intro cs _;rfl
  |cons y r ih=>
   intro cs hl;obtain⟨n,k⟩:=y;rw[List.forIn_cons];unfold fH;by_cases hk:(k==NameKind.free)=true
   ·obtain⟨c,hc⟩:=hl (n,k) az (by simpa using hk);have sR:=hc;have e:cellOf env n=pure c:=by unfold cellOf;rw[sR]
    rw[vg hk,vg hk];rw[e,sR];exact ih ((n,c)::cs) λy hy=>hl y (bn _ hy)
   ·rw[vh hk,vh hk];exact ih cs λy hy=>hl y (bn _ hy)
 have:=go scope.names [] h
 first
  |exact this
  |(show(forIn scope.names [] _>>=λr=>pure r)=_;rw[show(forIn scope.names ([]:List (Str×Addr)) _:Sem _)=_ from this];rfl)
theorem zaa (hc:∀y∈scope.names,y.2≠.cell):
  (relabel scope env).names.lookup x=some .cell\/(relabel scope env).names.lookup x=some .free->scope.names.lookup x=some .free:=by
 have go:∀(l:List (Str×gq)),(∀y∈l,y.2≠ .cell)->∀k,(k=NameKind.cell\/k=NameKind.free)->
   (l.map λ(n,k)=>if(k==.free&&env.scope.kind==.function&&env.kindOf n==some .cell)then(n,NameKind.cell)else(n,k)).lookup x=some k->l.lookup x=some .free:=by
  intro l
  induction l with
  |nil=>intro _ k _ h;simp at h
  |cons y r ih=>
   intro hl k hk h;obtain⟨n,q⟩:=y;rw[bh]at h;rw[c7];by_cases c:(q==NameKind.free&&env.scope.kind==.function&&env.kindOf n==some .cell)=true
   ·have hq:q=.free:=by
     simp at c;simpa using c.1.1
    dsimp only at h
    rw[vg c,c7]at h;cases e:(x==n)with
    |true=>rw[hq]
    |false=>rw[e]at h;exact ih (λy hy=>hl y (bn _ hy)) k hk h
   ·dsimp only at h
    rw[vh c,c7]at h;cases e:(x==n)with
    |true=>
     rw[e]at h;have hq:=vi h;rcases hk with hk|hk
     ·exact absurd (hq.trans hk) (hl (n,q) az)
     ·show some q=some .free;rw[hq,hk]
    |false=>rw[e]at h;exact ih (λy hy=>hl y (bn _ hy)) k hk h
 rintro(h|h)
 ·exact go scope.names hc .cell (.inl rfl) h
 ·exact go scope.names hc .free (.inr rfl) h
def blk (X:Cx)(scope:Scope)(N':List Str)(C:Addr)(fp:List Addr)(s:af)(H:Hp):Cx:={X with N:=N',s₀:=s,iH:=H,env:=compEnvC scope (fH X.env scope.names []) C X.env,outer:=X.stack,stack:=X.stack,ex:=fp,fn:=λ_=>false,xe:=λ_ _=>False,fx:=[]}
structure BlkScope (X:Cx)(scope:Scope)(N':List Str)(nt:Nat)(js:List Nat):Prop where
 kind:scope.kind=.function
 nX:∀y∈scope.names,y.2≠.cell
 names:∀y∈scope.names,y.2=.local->scope.names.lookup y.1=some .local
 frees:∀y∈scope.names,y.2=.free->X.env.scope.names.lookup y.1=some .cell\/X.env.scope.names.lookup y.1=some .free
 nd:N'.Nodup
 len:N'.length=nt+js.length
 pl:∀(i j:Nat),js[i]?=some j->N'[nt+i]?=X.N[j]?/\∃x,X.N[j]?=some x/\scope.names.lookup x=some .free
def qF (NX:List Str)(Cg scope:Scope)(N':List Str)(nt:Nat)(js:List Nat):Bool:=
 (scope.kind==.function)&&scope.names.all (λy=>!(y.2==.cell))&&scope.names.all (λy=>!(y.2==.local)||(scope.names.lookup y.1==some .local))&&
 scope.names.all (λy=>!(y.2==.free)||(Cg.names.lookup y.1==some .cell)||(Cg.names.lookup y.1==some .free))&&decide N'.Nodup&&(N'.length==nt+js.length)&&
 (N'.drop nt==js.map λj=>NX.getD j "")&&js.all (λj=>decide (j<NX.length)&&(scope.names.lookup (NX.getD j "")==some .free))
theorem Lc (hN:X.N=NX)(hs:X.env.scope=Cg)(h:qF NX Cg scope N' nt js=true):BlkScope X scope N' nt js:=by
 unfold qF at h;simp only[br,b8,decide_eq_true_eq,beq_iff_eq,j0,nc,beq_eq_false_iff_ne]at h;obtain⟨⟨⟨⟨⟨⟨⟨h1,h2⟩,h3⟩,h4⟩,h5⟩,h6⟩,h7⟩,h8⟩:=h;refine⟨h1,h2,λy hy e=>(h3 y hy).resolve_left (λz=>z e),λy hy e=>?_,h5,h6,λi j hj=>?_⟩
 ·rw[hs];rcases h4 y hy with(z|z)|z
  ·exact absurd e z
  ·exact .inl z
  ·exact .inr z
 ·obtain⟨a,b⟩:=h8 j (cj hj);have e:X.N[j]?=some (NX.getD j ""):=by rw[hN,bd,aw a];rfl
  refine⟨?_,_,e,b⟩;rw[e,<-List.getElem?_drop,h7,bj,hj];rfl
def eU (nt:Nat)(js:List Nat)(Y:St):St:=ba nt none++js.map λj=>Y.getD j none
section
variable {X:Cx}{scope:Scope}{N':List Str}{nt:Nat}{js:List Nat}
theorem zkf (B:BlkScope X scope N' nt js)(I:Inv X pins Y H s)
  (Ci:∀b∈fp,FpOk X pins H b) (E6:∀b∈fp,∃o,s.heap.get? b=some o)
  (k:∀b o,s.heap.get? b=some o->h1.get? b=some o) (hn:h1.Ns s.heap.objs.size m1):
  Inv (blk X scope N' s.heap.objs.size fp s H) pins (eU nt js Y) H {s with heap:=h1,toks:=t1}:=by
 have iP:∀x c,(fH X.env scope.names []).lookup x=some c->X.env.cells.lookup x=some c:=ze8 _ _ (λy hy hf=>I.ok.has y.1 (B.frees y hy hf)) (λx c h=>by simp at h);have lt:∀b o,s.heap.get? b=some o->b≠s.heap.objs.size:=λb o e=>cw (bt e);refine⟨⟨I.ok.mod,B.kind,I.ok.glob,I.ok.blt,ag _,λx y c h1 h2=>I.ok.inj x y c (iP x c h1) (iP y c h2),λx hx=>E5 _ _ (zaa B.nX hx),λx c h=>(by cases h),I.ok.hd,I.ok.frames,.inl rfl,λb hb=>?_,I.bs,cg I.ok.kW I.sz,λb o e hb=>?_,λb hb hx=>?_,I.stack,I.gI,λ_ _ z=>by cases z⟩,rfl,I.bare,Un.kept k,⟨m1,hn,λi x v e1 e2 e3=>?_⟩,λx c e=>?_,I.hok.fresh (ag _),λx c e=>I.bF x c (iP x c e),λp hp=>?_,I.hok.kept k,?_,λ_ _ z=>by cases z⟩
 ·obtain⟨o,ho⟩:=E6 b hb;exact⟨lt b o ho,λx c h=>(Ci b hb).2.2.2.2.1 x c (iP x c h)⟩
 ·rcases(Ci b hb).2.2.2.1 with z|z
  ·exact I.ok.iI b o e z
  ·exact absurd (cb (bt e) (cg I.ok.kW z)) (cy _)
 ·rcases ak.mp (I.gG b hx)with z|z
  ·exact(Ci b hb).2.1 z
  ·exact(Ci b hb).2.2.1 z
 ·--a name with a value:one of the Cj
  have hi:nt<=i:=by refine Nat.le_of_not_lt λh=>?_;unfold eU at e2;rw[fq (cf▸h),dq,vg h]at e2;cases e2
  unfold eU at e2;rw[e9 (cf▸hi),cf,bj]at e2;cases ej:js[i-nt]? with
  |none=>rw[ej]at e2;cases e2
  |some j=>
   rw[ej]at e2;have Ck:Y.getD j none=some v:=vi e2;obtain⟨Ld,y,hy,eJ⟩:=B.pl (i-nt) j ej;rw[qh hi]at Ld;have R7:x=y:=by have Le:N'[i]?=some x:=e1;rw[Ld,hy]at Le;exact(vi Le).symm
   subst R7
   have hσ:Y[j]?=some (some v):=by
    rw[bd]at Ck;cases q:Y[j]? with
    |none=>rw[q]at Ck;cases Ck
    |some z=>rw[q]at Ck;simp_all
   have zI:=B.frees (x,.free) (PySem.mem_of_lookup eJ) rfl;obtain⟨m,hnm,hl⟩:=I.loc;obtain⟨u,r,l⟩:=hl j x v hy hσ (zI.elim (λz=>.inr (.inl z)) (λz=>.inr (.inr z)));refine⟨u,r,?_⟩;rcases l with⟨hk,_⟩|⟨hk,c,hc,kG⟩
   ·rcases zI with z|z
    ·have jO:X.env.scope.names.lookup x=some .local:=hk;rw[z]at jO;cases jO
    ·have jO:X.env.scope.names.lookup x=some .local:=hk;rw[z]at jO;cases jO
   ·obtain⟨d,hd⟩:=E5 scope.names [] eJ;have R8:d=c:=by have:=iP x d hd;rw[hc]at this;cases this;rfl
    subst R8;refine .inr ⟨?_,d,hd,?_⟩
    ·rcases e3 with z|z|z
     ·exfalso
      have:∀(l:List (Str×gq)),l.lookup x=some .free->(l.map λ(n,k)=>if(k==.free&&X.env.scope.kind==.function&&X.env.kindOf n==some .cell)then(n,NameKind.cell)else(n,k)).lookup x≠some .local:=by
       intro l
       induction l with
       |nil=>intro h;simp at h
       |cons y r ih=>
        intro h;obtain⟨n,q⟩:=y;rw[c7]at h;rw[bh]
        dsimp only
        cases e:(x==n)with
        |true=>
         rw[e]at h;have hq:=vi h;subst hq;split
         ·rw[c7,e];intro z;cases z
         ·rw[c7,e];intro z;cases z
        |false=>
         rw[e]at h;split
         ·rw[c7,e];exact ih h
         ·rw[c7,e];exact ih h
      exact this _ eJ z
     ·exact .inl z
     ·exact .inr z
    ·obtain⟨o,ho,iY⟩:=kG;exact⟨o,k _ _ ho,iY⟩
 ·obtain⟨v,o,ho,hd⟩:=I.cell x c (iP x c e);exact⟨v,o,k _ _ ho,hd⟩
 ·obtain⟨q1,q2,q3,q4,q5⟩:=I.pin p hp;refine⟨k _ _ q1,q2,lt _ _ q1,λz=>?_,q5⟩;rcases ak.mp (I.gG p.1 z)with z|z
  ·exact q3 z
  ·exact q4 z
 ·show(eU nt js Y).length=N'.length;unfold eU;rw[au,cf,ac,B.len]
end
section
variable (M:Model)(A:d7)(env:Env)
abbrev gb:Value->af->Prop:=λ_ _=>False
def R9 (acc:Value)(Z:af->Prop)(x:Value):af->Prop:=wpAny M A (call (.builtin "list.append") [acc,x]) (λ_=>Z) gb
def E7 (elt:Expr)(acc:Value)(Z:af->Prop)(ok:Bool)(s:af):Prop:=if ok=true then wpAny M A (eval elt env) (R9 M A acc Z) gb s else Z s
def R' (ifs:List Expr)(elt:Expr)(acc:Value)(Z:af->Prop):af->Prop:=wpAny M A (forIn ifs true λc r=>if r=true then(ub c env (eval c env)>>=λok=>pure (ForInStep.yield ok))else pure (ForInStep.yield r)) (E7 M A env elt acc Z) gb
def E8 (tg:Expr)(ifs:List Expr)(elt:Expr)(acc:Value)(Z:af->Prop)(v:Value):af->Prop:=wpAny M A (q8 tg env v) (λ_=>R' M A env ifs elt acc Z) gb
def E9 (tg:Expr)(ifs:List Expr)(elt:Expr)(it acc:Value)(End Z:af->Prop)(r:Option Value)(s:af):Prop:=match r with
 |some v=>wpAny M A (jf tg it v) (λ_=>E8 M A env tg ifs elt acc Z v) gb s
 |none=>End s
end
theorem zlg (I:Nat->af->Prop)
  (one:∀k t,I k t->wpAny (model P w) A (pyNext it) (E9 (model P w) A env tg ifs elt it acc (R (.ok .next)) λt'=>∃m,m<k/\I m t') gb t) n (h:I n s):
  kz (model P w) A (.compLoop (.ListComp elt [⟨tg,iter,ifs,0⟩] scope pos) 0 it acc env) R s:=by
 apply codeAny_loop rfl I _ n h;intro k t hk;apply wpAny_noted;apply wpAny_noRaise;apply ae;apply qq;apply ae;refine aO (one k t hk) ?_
 rintro(_|v) t1 h1
 ·exact bq h1
 apply ae;refine aO h1 λ_ t2 h2=>?_;apply ae;refine aO h2 λ_ t3 h3=>?_;apply ae;refine aO h3 ?_
 rintro(_|_) t4 h4
 ·exact bq ⟨rfl,h4⟩
 apply ae;apply ae;refine aO h4 λx t5 h5=>?_;apply ae;exact aO h5 λ_ t6 h6=>bq (bq ⟨rfl,h6⟩)
theorem Un.but (u:Un fs ex H H1 h h1)(hC:h.get? C=none)(sb:g9 C h1 h'):Un fs ex H H1 h h':=by
 have ne:∀b o,h.get? b=some o->b≠C:=λb o e z=>by rw[z,hC]at e;cases e
 exact⟨λb o e n hb hx=>sb.extBut b o (ne b o e) (u.keep b o e n hb hx),λb o e n hb hx=>let⟨sl,q⟩:=u.slot b o e n hb hx;⟨sl,sb.extBut b _ (ne b o e) q⟩,u.free,λb o e hx=>let⟨o',q⟩:=u.there b o e hx;⟨o',sb.extBut b _ (ne b o e) q⟩,u.cT,u.cL,u.cU⟩
theorem HOk.but (ok:HOk P w H h)(hC:H C=none)(sb:g9 C h h'):HOk P w H h':=λa o e=>by
 refine(ok a o e).stay (λb u hb q=>sb.extBut b u (λz=>?_) q) (λ_ q=>q) λ_ _ q=>q;rcases hb with hb|hb
 ·rw[z]at hb;rw[<-hb,hC]at e;cases e
 ·rw[z,hC]at hb;cases hb
def qG (X:Cx)(ifs:List Expr)(t:TT):Prop:=∀(pins:List (Addr×Obj)) (s:af) (Y:St) (H:Hp) (Q:Bool->Hp->Prop),Inv X pins Y H s->t Y H Q->wpAny (model X.prog X.w) X.A (forIn ifs true λc r=>if r=true then do let ok <-ub c X.env (eval c X.env);pure (ForInStep.yield ok)else pure (ForInStep.yield r)) (TP X pins Y Q) X.xe s
def zJ:TT:=λ_ H Q=>Q true H
theorem Lf:qG X [] zJ:=λ_ _ _ H _ I h=>wpAny_tests_nil ⟨H,I,h⟩
theorem Lg (h:PT X c t):qG X [c] t:=λpins s Y H Q I q=>wpAny_tests_one (h pins s Y H Q I q)
def gP (a b:St):Prop:=a.length=b.length/\∀(i:Nat) v,a[i]?=some (some v)->b[i]?=some (some v)
def vK (wi:TI)(g:TG)(tc:TT)(te:TE)(em:St->St):TE:=λY H Q=>wi Y H λJ H1=>∀l,H1 l=none->∃P:Nat->Nat->List V->Hp->Prop,(∃m,P 0 m [] (upd H1 l (.lst [])))/\∀i m acc H2,P i m acc H2->(J.stop i H2/\Q (.ref l) H2)\/(J.go i H2/\acc.length<bc/\∃N:List V->Hp->Prop,(∀acc' H',N acc' H'->∃m',m'<m/\P (i+1) m' acc' H')/\∀x H3,J.iM i H2 x H3->g x (em Y) H3 λdC H4=>gP (em Y) dC/\tc dC H4 λb H5=>if b=true then te dC H5 λy H6=>H6 l=some (.lst acc)/\N (acc++[y]) (upd H6 l (.lst (acc++[y])))else N acc H5)
section
variable {X:Cx}{scope:Scope}{N':List Str}{nt:Nat}{js:List Nat}{tg iter elt:Expr}{ifs:List Expr}{wi:TI}{g:TG}{tc:TT}{te:TE}{pos:Pos}
theorem z57 {Q:VK}{RR:Value->Addr->Result->af->Prop}(hc:X.calm=true)(B:BlkScope X scope N' nt js)
  (hg:∀C fp s H,PG (blk X scope N' C fp s H) tg g) (ht:∀C fp s H,qG (blk X scope N' C fp s H) ifs tc) (he:∀C fp s H,PE (blk X scope N' C fp s H) elt te)
  (h2:xT X pins Y tg (λJ H1=>∀l,H1 l=none->∃P:Nat->Nat->List V->Hp->Prop,(∃m,P 0 m [] (upd H1 l (.lst [])))/\∀i m acc H2,P i m acc H2->(J.stop i H2/\Q (.ref l) H2)\/(J.go i H2/\acc.length<bc/\∃N:List V->Hp->Prop,(∀acc' H',N acc' H'->∃m',m'<m/\P (i+1) m' acc' H')/\∀x H3,J.iM i H2 x H3->g x (eU nt js Y) H3 λdC H4=>gP (eU nt js Y) dC/\tc dC H4 λb H5=>
  if b=true then te dC H5 λy H6=>H6 l=some (.lst acc)/\N (acc++[y]) (upd H6 l (.lst (acc++[y])))else N acc H5)) nM s2)
  (Sa:∀l C H' s1,(∃m,s1.heap.Ns C m)->H' C=none->C≠X.env.locals->C∉X.fs->(∀x c,X.env.cells.lookup x=some c->c≠C)->X.s₀.heap.objs.size<=C->(∀p∈X.pn++pins,p.1≠C)->(∀h',g9 C s1.heap h'->Inv X pins Y H' {s1 with heap:=h'})->Q (.ref l) H'->RR (.ref l) C (.ok .next) s1):
  wpAny (model X.prog X.w) X.A (newList []) (λacc s₃=>wpAny (model X.prog X.w) X.A (newFunctionEnv scope X.env.globals (fH X.env scope.names []) [] X.env.qual none .none (some X.env)) (λzK Fe=>kz (model X.prog X.w) X.A (.compStart (.ListComp elt [⟨tg,iter,ifs,0⟩] scope pos) 0 nM acc {zK with scope:=relabel scope X.env}) (RR acc zK.locals) Fe) E s₃) E s2:=by
 obtain⟨it,fp,tn,J,H2,rfl,I2,T,zg,f2,q⟩:=h2;refine ig (wpAny_newFunctionEnv B.nX (by intro y hy;simp at hy) (λh₁ nY nZ=>?_) B.kind);have zL:∀b∈fp,∃o,s2.heap.get? b=some o:=λb hb=>let⟨o,e,_⟩:=T.obj 0 _ zg b hb;⟨o,e⟩;have hl:=I2.hok.fresh (ag _);have I3:=I2.lnew (t':=s2.toks) .nil (cz _);obtain⟨P,⟨m0,p0⟩,turn⟩:=q _ hl;generalize Se:s2.heap.push {cls:=.type "list",dict:=none,data:=.seq ([]:List Value).toArray}=Hh at nY nZ I3 ⊢;generalize Sf:s2.heap.objs.size=l at hl I3 p0 turn ⊢;have vL:∀b o,s2.heap.get? b=some o->Hh.get? b=some o:=λb o e=>Se▸ah _ e;have k:=λb o e=>nZ.extBut b o (cw (bt e)) (ah _ e);have f3:∀b∈fp,FpOk X pins (upd H2 l (.lst [])) b:=λb hb=>by obtain⟨o,e⟩:=zL b hb;exact⟨by rw[aL (Sf▸cw (bt e))];exact(f2 b hb).1,(f2 b hb).2⟩
 have J0:=zkf (t1:=s2.toks+([]:List (Str×Value)).length) B I3 f3 (λb hb=>let⟨o,e⟩:=zL b hb;⟨o,vL b o e⟩) k nY;have Ff:∀{H':Hp},(∀b∈fp,H' b=none)->∀b∈fp,FpOk (blk X scope N' Hh.objs.size fp {s2 with heap:=Hh,toks:=s2.toks} (upd H2 l (.lst []))) pins H' b:=λhn b hb=>⟨hn b hb,(J0.ok.uW b hb).1,J0.ok.iJ b hb,.inl hb,(J0.ok.uW b hb).2,(f2 b hb).2.2.2.2.2⟩;have out:∀{H':Hp} {s1:af},Inv (blk X scope N' Hh.objs.size fp {s2 with heap:=Hh,toks:=s2.toks} (upd H2 l (.lst []))) pins (eU nt js Y) H' s1->∀h',g9 Hh.objs.size s1.heap h'->Inv X pins Y H' {s1 with heap:=h'}:=λ{H' s1} Jn h' sb=>by exact I3.call' Jn.os (Un.but Jn.base (lr (ag _)) sb) (Jn.hok.but Jn.free sb) Jn.bare λb hb=>⟨(f3 b hb).2.2.2.1,(f3 b hb).2.1,(f3 b hb).2.2.2.2.1,(f3 b hb).2.2.2.2.2⟩
 have nC:∀x c,X.env.cells.lookup x=some c->c≠Hh.objs.size:=λx c e z=>by obtain⟨v,q⟩:=I3.cell x c e;exact absurd q.lt (z▸cy _)
 have loop:∀s₃,s₃={s2 with heap:=h₁,toks:=s2.toks+([]:List (Str×Value)).length}->
   kz (model X.prog X.w) X.A (.compLoop (.ListComp elt [⟨tg,iter,ifs,0⟩] scope pos) 0 (.ref it) (.ref l) (compEnvC scope (fH X.env scope.names []) Hh.objs.size X.env)) (RR (.ref l) Hh.objs.size) s₃:=by
  rintro s₃ rfl
  refine zlg (λn s'=>∃i acc H',Inv (blk X scope N' Hh.objs.size fp {s2 with heap:=Hh,toks:=s2.toks} (upd H2 l (.lst []))) pins (eU nt js Y) H' s'/\tn i s'.heap/\(∀b∈fp,H' b=none)/\P i n acc H') ?_ m0 ⟨0,[],_,J0,T.keep _ _ _ zg λb _ o e=>k b o (vL b o e),λb hb=>(f3 b hb).1,p0⟩
  rintro n s3 ⟨i,acc,H3,Jn,zh,zi,w3⟩
  rcases turn i n acc H3 w3 with⟨stop,qn⟩|⟨go,Sg,N,hN,step⟩
  ·refine aO (T.done (blk X scope N' Hh.objs.size fp {s2 with heap:=Hh,toks:=s2.toks} (upd H2 l (.lst []))) rfl rfl rfl hc i pins s3 _ H3 (λ_ _=>False) Jn (Ff zi) zh stop) λr s4 ⟨hr,I4⟩=>?_;subst hr;obtain⟨m,hn,_⟩:=id I4.loc;exact Sa l Hh.objs.size H3 s4 ⟨m,hn⟩ I4.free (Nat.ne_of_gt (I3.lt)) (I3.y4 (ag _)) nC I3.sz (λp hp=>cw (bt (I3.pin p hp).1)) (out I4) qn
  ·refine aO (T.item (blk X scope N' Hh.objs.size fp {s2 with heap:=Hh,toks:=s2.toks} (upd H2 l (.lst []))) rfl rfl rfl hc i pins s3 _ H3 (λ_ _=>False) Jn (Ff zi) zh go) λr s4 ⟨u,hr,h4⟩=>?_;subst hr;refine aO h4 λ_ s5 ⟨x,H5,I5,r5,y5,nN,zj⟩=>aO (hg _ _ _ _ _ s5 _ H5 x u _ (I5.pinned (Ff zj) (T.obj _ _ nN)) r5 (step x H5 y5)) λ_ s6 ⟨σ6,H6,I6,kp,q6⟩=>aO (ht _ _ _ _ _ s6 σ6 H6 _ I6 q6) λb s7 ⟨H7,I7,q7⟩=>?_
   have again:∀{s7:af} {H7:Hp} {acc':List V},Inv (blk X scope N' Hh.objs.size fp {s2 with heap:=Hh,toks:=s2.toks} (upd H2 l (.lst []))) (pins++z7f fp s5.heap) σ6 H7 s7->N acc' H7->
     ∃m,m<n/\∃i acc H',Inv (blk X scope N' Hh.objs.size fp {s2 with heap:=Hh,toks:=s2.toks} (upd H2 l (.lst []))) pins (eU nt js Y) H' s7/\tn i s7.heap/\(∀b∈fp,H' b=none)/\P i m acc H':=λ{s7 H7 acc'} I7 w7=>by
    obtain⟨n',hm,w7⟩:=hN _ _ w7;refine⟨n',hm,i+1,acc',H7,(I7.bW).weak kp.1 kp.2,T.keep _ _ _ nN λb hb o e=>(I7.pin (b,o) (ay _ (ay _ (xU hb e)))).1,λb hb=>?_,w7⟩;obtain⟨o,e,d⟩:=T.obj _ _ nN b hb;exact(I7.pin (b,o) (ay _ (ay _ (xU hb e)))).2.1
   cases b with
   |false=>exact again I7 q7
   |true=>exact aO (he _ _ _ _ _ s7 σ6 H7 _ I7 q7) λy' s8 ⟨y,H8,I8,r8,Sh,w8⟩=>aO (ET _ s8 σ6 H8 (.ref l) [y] (.ref l) [y'] (λ_ H9=>N (acc++[y]) H9) I8 rfl (.cons r8 .nil) ⟨l,acc,y,rfl,rfl,Sh,Sg,w8⟩) λ_ s9 ⟨v9,H9,I9,r9,w9⟩=>again I9 w9
 exact codeAny_compStart_list (loop _ rfl) (T.self _ 0 _ _ _ (T.keep _ _ _ zg λb _ o e=>k b o (vL b o e)) (loop _ rfl))
theorem z9p (hc:X.calm=true)(B:BlkScope X scope N' nt js)(hi:PI X tg iter wi)
  (hg:∀C fp s H,PG (blk X scope N' C fp s H) tg g) (ht:∀C fp s H,qG (blk X scope N' C fp s H) ifs tc) (he:∀C fp s H,PE (blk X scope N' C fp s H) elt te)
  (hs:∀x,gg iter X.env x=pure x:=by intro _;rfl):PE X (.ListComp elt [⟨tg,iter,ifs,0⟩] scope pos) (vK wi g tc te (eU nt js)):=by
 intro pins s Y H Q I h;refine ny rfl hs (Lb λy hy hf=>I.ok.has y.1 (B.frees y hy hf)) B.kind B.names (aO (hi pins s Y H _ I h) λv s1 h1=>aO h1 λnM s2 h2=>?_);refine z57 hc B hg ht he h2 ?_;intro l C H' s1 ns _ _ _ _ _ _ out q;obtain⟨m,hn⟩:=ns;exact⟨m,hn,λh' sb=>⟨.ref l,H',out h' sb,rfl,q⟩⟩
def Si (i:Nat)(t:TE):TS:=λD Y H=>t Y H λv H1=>D.nx (Y.set i (some v)) H1
theorem z5t (hc:X.calm=true)(hN:X.N.Nodup)(hy:X.N[i]?=some y)(hl:X.env.scope.names.lookup y=some .local)(hz:∀u,(y,u)∉X.fx)(B:BlkScope X scope N' nt js)(hi:PI X tg iter wi)
  (hg:∀C fp s H,PG (blk X scope N' C fp s H) tg g) (ht:∀C fp s H,qG (blk X scope N' C fp s H) ifs tc) (he:∀C fp s H,PE (blk X scope N' C fp s H) elt te)
  (Sj:ke (.ListComp elt [⟨tg,iter,ifs,0⟩] scope pos) (some (.Name y py)) jP.line X.env=pure true)
  (hs:∀x,gg iter X.env x=pure x:=by intro _;rfl):PS X (.Assign [.Name y py] (.ListComp elt [⟨tg,iter,ifs,0⟩] scope pos) jP) (Si i (vK wi g tc te (eU nt js))):=by
 intro pins s Y H D I h;rw[exec_Assign_Name_used _ _ _ _ Sj];apply ae;apply qq;apply ae;refine ae (jl (ny (use:=some (q8 (.Name y py) X.env)) rfl hs (Lb λz hz hf=>I.ok.has z.1 (B.frees z hz hf)) B.kind B.names (aO (hi pins s Y H _ I h) λv s1 h1=>aO h1 λnM s2 h2=>?_)) (λ_ s' hq=>bq (bq hq)) λ_ _ e=>e);refine z57 (Q:=λv H1=>D.nx (Y.set i (some v)) H1) (RR:=λacc C=>compPost (model X.prog X.w) X.A X.xe (some (q8 (.Name y py) X.env)) (λ_ s'=>SP X pins D .next s') acc C) hc B hg ht he h2 ?_;intro l C H' s1 ns hH nL nF nC nS nP out q;obtain⟨m,hn⟩:=ns;have I1:=out s1.heap (.refl ..);obtain⟨oC,es,ep,Sk,Lh,Sm⟩:=id hn
 have I2:Inv X (pins++[(C,oC)]) Y H' s1:=I1.gK λp hp=>(bo.mp hp).elim (λz=>I1.pin p (ay _ z)) λz=>by
  have e:p=(C,oC):=by simpa using z
  subst e;exact⟨Sk,hH,nL,nF,λv z=>by have z':=z;rw[Lh]at z';cases z'⟩
 refine sr (z6g I2 hN hy (.inl hl) (v:=.ref l) rfl (λmP Li=>?_) ⟨.inr hl,hz⟩);refine⟨m,⟨oC,es,ep,(Li.pin (C,oC) (ay _ (ay _ (am.mpr rfl)))).1,Lh,Sm⟩,λh' sb=>⟨_,H',?_,q⟩⟩;exact(Li.bW).turned (λb o hb e=>sb.extBut b o hb e) hH nL (.inr nS) nC nP
end
def Fg (z:Str):It:=⟨λi _=>i<z.cps.size,λi H x H'=>H'=H/\∃c,z.cps[i]?=some c/\x=.str ⟨#[c]⟩,λi _=>z.cps.size<=i⟩
theorem Sn {K:W.Frag}(hty:ty="str_ascii_iterator"\/ty="str_iterator")(it:Addr)(z:Str)(t:Tok):Turn P w K tg (Fg z) [it] it (λi h=>h.IsStrIter it ty z t i) where
 mem:=by simp
 obj:=λi h st b hb=>by
  have e:b=it:=by simpa using hb
  subst e;obtain⟨o,e,c,d⟩:=st;exact⟨o,e,λv z=>by rw[d]at z;cases z⟩
 keep:=λi h h' st k=>let⟨o,e,r⟩:=st;⟨o,k it (by simp) o e,r⟩
 item:=by
  intro X hP hw hK hc i pins s Y H E I hf st hg;subst hP hw hK;obtain⟨f0,f1,f2,f3,f4,f5⟩:=hf it (by simp);have hi:=hg
  have fin:∀u h' tk,SignAt z i u->h'.IsStrIter it ty z t (i+1)->(∀b o,b∉ [it]->s.heap.get? b=some o->h'.get? b=some o)->
    ∃u',some u=some u'/\wpAny (model X.prog X.w) X.A (jf tg (.ref it) u') (λ_ s2=>∃x H',Inv X pins Y H' s2/\RelV x u'/\(Fg z).iM i H x H'/\s2.heap.IsStrIter it ty z t (i+1)/\∀b∈[it],H' b=none) E {s with heap:=h',toks:=tk}:=by
   rintro u h' tk ⟨c,t',hx,rfl⟩ jI kk
   have I1:Inv X pins Y H {s with heap:=h',toks:=tk}:=I.turned (λb o hb e=>kk b o (by simpa using hb) e) f0 f1 f3 f4 f5;obtain⟨o,e,cc,d⟩:=id jI;exact⟨_,rfl,zhf e cc d (by rcases hty with rfl|rfl<;>decide) ⟨.str ⟨#[c]⟩,H,I1,⟨t',rfl⟩,⟨rfl,c,hx,rfl⟩,jI,λb hb=>(hf b hb).1⟩⟩
  rcases hty with rfl|rfl
  ·exact(Walks.strAscii (I.ok.hd hc) it z t).item i s _ _ hi st λv h' tk hv jI kk=>fin v h' tk hv jI kk
  ·exact(Walks.strWide (I.ok.hd hc) it z t).item i s _ _ hi st λv h' tk hv jI kk=>fin v h' tk hv jI kk
 done:=by
  intro X hP hw hK hc i pins s Y H E I hf st hg;obtain⟨f0,f1,f2,f3,f4,f5⟩:=hf it (by simp);have hi:z.cps[i]?=none:=by have:z.cps.size<=i:=hg;simpa using this
  rcases hty with rfl|rfl
  ·exact wpAny_pyNext_ascii_end (I.ok.hd hc) st hi λh' eb=>⟨rfl,I.turned (λb o hb e=>eb b o hb e) f0 f1 f3 f4 f5⟩
  ·exact wpAny_pyNext_wide_end (I.ok.hd hc) st hi λh' eb=>⟨rfl,I.turned (λb o hb e=>eb b o hb e) f0 f1 f3 f4 f5⟩
 self:=λ_ _ _ _ _ st h=>by
  rcases hty with rfl|rfl
  ·exact wpAny_pyIter_striter_ascii st h
  ·exact wpAny_pyIter_striter_wide st h
theorem zvz {J:It}{g:TG}{tc:TT}{te:TE}{Q:VK}(P:Nat->List V->Hp->Prop)(hn:n<=bc)(h0:P 0 [] (upd H1 l (.lst [])))
  (hlen:∀i acc H,P i acc H->acc.length<=i)
  (zM:∀acc H,P n acc H->J.stop n H/\Q (.ref l) H) (So:∀i acc H,i<n->P i acc H->J.go i H)
  (turn:∀i acc H x H3,i<n->P i acc H->J.iM i H x H3->g x σ' H3 λdC H4=>gP σ' dC/\tc dC H4 λb H5=>if b=true then te dC H5 λy H6=>H6 l=some (.lst acc)/\P (i+1) (acc++[y]) (upd H6 l (.lst (acc++[y])))else P (i+1) acc H5):
  ∃P:Nat->Nat->List V->Hp->Prop,(∃m,P 0 m [] (upd H1 l (.lst [])))/\∀i m acc H2,P i m acc H2->(J.stop i H2/\Q (.ref l) H2)\/(J.go i H2/\acc.length<bc/\∃N:List V->Hp->Prop,(∀acc' H',N acc' H'->∃m',m'<m/\P (i+1) m' acc' H')/\∀x H3,J.iM i H2 x H3->g x σ' H3 λdC H4=>gP σ' dC/\tc dC H4 λb H5=>if b=true then te dC H5 λy H6=>H6 l=some (.lst acc)/\N (acc++[y]) (upd H6 l (.lst (acc++[y])))else N acc H5):=by
 refine⟨λi m acc H=>i<=n/\m=n-i/\P i acc H,⟨n,cz _,rfl,h0⟩,?_⟩
 rintro i m acc H2 ⟨hi,rfl,p⟩
 by_cases cE:i<n
 ·have hl:=hlen i acc H2 p;exact .inr ⟨So i acc H2 cE p,by omega,P (i+1),λacc' H' p'=>⟨n-(i+1),by omega,cE,rfl,p'⟩,λx H3 y=>turn i acc H2 x H3 cE p y⟩
 ·have e:i=n:=by omega
  subst e;exact .inl (zM acc H2 p)
section
variable {X:Cx}
theorem Sq:OpR X (c0 .Gt) (λx y H Q=>∃i j,x=.str i/\y=.str j/\Q (.bl (decide (j.cps.toList<i.cps.toList))) H):=by
 rintro pins s Y H x y v u Q I rx ry ⟨i,j,rfl,rfl,q⟩
 obtain⟨t,rfl⟩:=rx;obtain⟨t',rfl⟩:=ry;exact PySem.P.gt_str ⟨.bl _,H,I,rfl,q⟩
def zN:V->Option Int->Option Int->Hp->VK->Prop:=λx lo hi H Q=>∃z,x=.str z/\z.length<=bc/\Q (.str (Txt.slice z lo hi)) H
theorem Sr:pH X zN:=by
 rintro pins s Y H x v vl vu lo hi sl Q I rx hs pl pu ⟨z,rfl,hz,q⟩
 obtain⟨t,rfl⟩:=rx;refine⟨"str",_,PySem.F.slot_str_getitem.lookup,uu _ _ _,?_⟩;obtain⟨o,ho,hc,hd⟩:=hs;have fin:∀t' k,EP X pins Y Q (.str (Txt.slice z lo hi) t') {s with toks:=k}:=λt' k=>⟨.str _,H,I.tok _,⟨_,rfl⟩,q⟩;cases pl with
 |none=>
  cases pu with
  |none=>exact i6 (l:=none) (u:=none) (st:=none) ⟨o,ho,hc,hd⟩ rfl (l8 ⟨cg (Txt.slice_le z _ _) hz,fin⟩)
  |int j tj=>exact i6 (l:=none) (u:=some (j,tj)) (st:=none) ⟨o,ho,hc,hd⟩ rfl (l8 ⟨cg (Txt.slice_le z _ _) hz,fin⟩)
 |int i ti=>
  cases pu with
  |none=>exact i6 (l:=some (i,ti)) (u:=none) (st:=none) ⟨o,ho,hc,hd⟩ rfl (l8 ⟨cg (Txt.slice_le z _ _) hz,fin⟩)
  |int j tj=>exact i6 (l:=some (i,ti)) (u:=some (j,tj)) (st:=none) ⟨o,ho,hc,hd⟩ rfl (l8 ⟨cg (Txt.slice_le z _ _) hz,fin⟩)
end
def Own (K:W.Frag)(mg:Str->Option Value)(x:Str)(st:Stmt)(ps:List Str):Prop:=∃f fd,Fun K x x st f fd/\mg x=some (.ref f)/\W.keepIn K (.ref f)=true/\Binds K fd ps []
def Cal (P:bx)(w:World)(K:W.Frag)(mg:Str->Option Value)(base:Heap)(k:Nat)(x:Str)(ps:List Str)(sp:Sp):Prop:=∃f fd,FnOk P w K mg base nW k f fd ps sp/\mg x=some (.ref f)/\W.keepIn K (.ref f)=true/\Binds K fd ps []
section
variable {P:bx}{w:World}{K:W.Frag}{mg:Str->Option Value}{base:Heap}
theorem znr {st:Stmt}{kV:Value}(X:K.In h)(G:h.Ns bz mg)
  (a:W.nsIn K bz x=some (some (.ref f))) (l:K.lookup f=some ⟨oc,od,.func (W.fnOf x x (z1a st) (z0o st) (z09 st) .none kV doc pm an cdv ct),osl⟩) (c:W.codeIn K cdv x=true) (k:W.keepIn K (.ref f)=true)
  (b:∀kV doc pm an cdv ct us,us.length=ps.length->ut (W.fnOf x x (z1a st) (z0o st) (z09 st) .none kV doc pm an cdv ct) ⟨us,[]⟩=pure (ps.zip us)):Own K mg x st ps:=
 ⟨f,_,E4 l c k,W.mg_of X G a,k,(E4 l c k).binds b⟩
end
def isStar:Expr->Bool
 |.Starred ..=>true
 |_=>false
theorem jQ (h:isStar e=false):d5 (e::es) env=(false,eval e env)::d5 es env:=by cases e<;>first|rfl|cases h
theorem qH:∀{es:List Expr},(es.all λe=> !isStar e)=true->(l6 pos (d5 es env)).any (·.1)=false
 | [],_=>rfl
 |e::es,h=>by have h':=av.mp (cv▸h);rw[jQ (by simpa using h'.1)];show(false||(l6 pos (d5 es env)).any (·.1))=false;rw[qH h'.2];rfl
section
variable {X:Cx}{x:Str}{p pos:Pos}{e:Expr}{es:List Expr}{t:TA}{id T:String}{r:List V->Hp->VK->Prop}
theorem fQ (ha:PE X e te)(hr:PA X es t)(hs:isStar e=false:=by rfl):PA X (e::es) (vB te t):=EF ha hr (jQ hs)
theorem Fh (hc:CallR X (.builtin id) r)(hm:X.mg x=none)(hv:dg x=some (.builtin id))(ha:PA X (e::es) t)(hst:((e::es).all λe=> !isStar e)=true:=by rfl)(hg:Gl X x:=by rfl)(hn:x≠"__name__":=by decide)(hdb:aab x:=by decide):PE X (.Call (.Name x p) (e::es) [] pos) (vE r t):=by rw[cv,br]at hst;exact zhr hc hg hm hv ha hn hdb (jQ (by simpa using hst.1)) (qH hst.2)
theorem Fi (hc:CallR X (.type T) r)(hm:X.mg x=none)(hv:dg x=some (.type T))(ha:PA X (e::es) t)(hst:((e::es).all λe=> !isStar e)=true:=by rfl)(hg:Gl X x:=by rfl)(hn:x≠"__name__":=by decide)(hdb:aab x:=by decide):PE X (.Call (.Name x p) (e::es) [] pos) (vE r t):=by rw[cv,br]at hst;exact zbf hc hg hm hv ha hn hdb (jQ (by simpa using hst.1)) (qH hst.2)
theorem zhv (C:Cal X.prog X.w X.K X.mg X.base k x ps sp)(hr:Room k' X.A)(ha:PA X (e::es) t)(hst:((e::es).all fun e=> !isStar e)=true:=by rfl)(hk:k<=k':=by decide)(hg:Gl X x:=by rfl)
  (hdb:aab x:=by decide):PE X (.Call (.Name x p) (e::es) [] pos) (xX sp [] E0 t):=by
 obtain⟨f,fd,F,m,kp,b⟩:=C;rw[cv,br]at hst;exact zdw F (hr.mono hk) hg m kp b .nil R4 ha hdb (jQ (by simpa using hst.1)) (qH hst.2)
end
def z1n:Expr->Bool
 |.ListComp ..=>true
 |.SetComp ..=>true
 |.DictComp ..=>true
 |_=>false
theorem x6 (h:z1n e=false)(tg:Option Expr)(n:Nat)(env:Env):ke e tg n env=pure false:=by cases e<;>first|rfl|cases h
theorem vM (hN:X.N.Nodup)(hi:X.N[i]?=some x)(hx:Loc X.env.scope x)(he:PE X e te)(hs:z1n e=false:=by rfl)(hf:Sto X x:=by first|exact⟨.inl rfl,nofun⟩|exact⟨.inr rfl,nofun⟩|assumption): PS X (.Assign [.Name x pos'] e pos) (iL te (pE i)):=z8s hN hi hx he (x6 hs _ _ _) hf
theorem oA (he:PE X e te)(hs:z1n e=false:=by rfl):PS X (.Expr e pos) (sT te):=QL he (x6 hs _ _ _)
section
variable {X:Cx}
def Fj (K:W.Frag):R2:=λx y H Q=>nQ (λi j=>.int (i+j)) x y H Q\/(∃i j,x=.str i/\y=.str j/\i.length+j.length<=bc/\Q (.str (i++j)) H)\/zC x y H Q\/K0 K x y H Q
def vN:R2:=λx y H Q=>nQ (λi j=>.bl (decide (i<j))) x y H Q\/∃i j,x=.str i/\y=.str j/\Q (.bl (decide (i.cps.toList<j.cps.toList))) H
def vO:R2:=λx y H Q=>nQ (λi j=>.bl (decide (j<i))) x y H Q\/∃i j,x=.str i/\y=.str j/\Q (.bl (decide (j.cps.toList<i.cps.toList))) H
def qI (K:W.Frag)(neg:Bool):R2:=λx y H Q=>EO K neg x y H Q\/∃i j,x=.str i/\y=.str j/\Q (.bl (if neg then !(!(iy j i 0 j.length 1).isEmpty)else !(iy j i 0 j.length 1).isEmpty)) H
def Fo (K:W.Frag):V->Option Int->Option Int->Hp->VK->Prop:=λx lo hi H Q=>zx K x lo hi H Q\/zN x lo hi H Q
def Su (K:W.Frag):List V->Hp->VK->Prop:=λxs H Q=>(∃z,xs=[.str z]/\z.length<=bc/\Q (.int z.length) H)\/(∃p ys,xs=[.ref p]/\(SqL K H p ys\/bS K H p ys)/\Q (.int ys.length) H)
theorem Sv:OpR X (gc .Add) (Fj X.K):=QU.or (Q7.or (RW.or RC))
theorem Fp:OpR X (c0 .Lt) vN:=QZ.or Q4
theorem Fq:OpR X (c0 .Gt) vO:=Q0.or Sq
theorem Fs:OpR X (c0 .In) (qI X.K false):=RL.or Q5
theorem Sw:OpR X (c0 .NotIn) (qI X.K true):=RM.or RN
theorem Sx:mQ X (vH X.K):=K3
theorem Sy:pH X (Fo X.K):=RJ.or Sr
theorem Sz:CallR X (.builtin "len") (Su X.K):=RP.or RO
end
def pI (t T:String):Bool:=t==T||(t=="bool"&&T=="int")
def qJ:List String:=["NoneType","bool","int","str","list","tuple","dict"]
def tysB:List String:=["str","int","bool","tuple","list"]
theorem SA (K:W.Frag):∀t∈qJ,∀T∈tysB,W.kitOne K (.type t) (.type T)=some (pI t T):=by intro t ht T hT;simp only[qJ,ak,i7,or_false]at ht;simp only[tysB,ak,i7,or_false]at hT;rcases ht with rfl|rfl|rfl|rfl|rfl|rfl|rfl<;>rcases hT with rfl|rfl|rfl|rfl|rfl<;>kernel_rfl
section
variable {D:Ends}{Y:St}{H:Hp}{Q:VK}{t u:TS}{te ta tb tc':TE}{r r':R2}{K:W.Frag}
theorem SD (h:Q (.int (i+j)) H):Fj K (.int i) (.int j) H Q:=.inl ⟨i,j,rfl,rfl,h⟩
theorem SE (c:i.length+j.length<=bc)(h:Q (.str (i++j)) H):Fj K (.str i) (.str j) H Q:=.inr (.inl ⟨i,j,rfl,rfl,c,h⟩)
theorem SF (h:Q (.bl (decide (i<j))) H):vN (.int i) (.int j) H Q:=.inl ⟨i,j,rfl,rfl,h⟩
theorem SG (h:Q (.bl (decide (j<i))) H):vO (.int i) (.int j) H Q:=.inl ⟨i,j,rfl,rfl,h⟩
theorem SH (h:Q (.bl (decide (i.cps.toList<j.cps.toList))) H):vN (.str i) (.str j) H Q:=.inr ⟨i,j,rfl,rfl,h⟩
theorem SI (h:Q (.bl (decide (j.cps.toList<i.cps.toList))) H):vO (.str i) (.str j) H Q:=.inr ⟨i,j,rfl,rfl,h⟩
end
section
variable {K:W.Frag}{H:Hp}{Q:VK}
theorem SJ (h:Q (.bl (decide (c∈z.cps.toList))) H):qI K false (.str ⟨#[c]⟩) (.str z) H Q:=.inr ⟨_,z,rfl,rfl,by rw[PySem.StrLaws.found_one z c];exact h⟩
theorem SK (h:Q (.bl (!decide (c∈z.cps.toList))) H):qI K true (.str ⟨#[c]⟩) (.str z) H Q:=.inr ⟨_,z,rfl,rfl,by rw[congrArg Bool.not (PySem.StrLaws.found_one z c)];exact h⟩
end
section
variable {K:W.Frag}{H:Hp}{Q:VK}
theorem Same.upd (h:H p=none):Same H (L2.upd H p o):=λb u e=>by rw[aL (eB e h)];exact e
theorem Ft (h:n<=1000):n<=bc:=cg h (by rw[df];decide)
end
end L2
namespace Mi
open PySem
abbrev D:=ao
set_option genInjectivity true in
inductive Res (α:Type) where
 |ok (a:α)|exc (e:D)|no
namespace Res
def bind {α β:Type}(x:Res α)(f:α->Res β):Res β:=match x with
 |.ok a=>f a
 |.exc e=>.exc e
 |.no=>.no
instance:Monad Res where
 pure:=.ok
 bind:=Res.bind
theorem aC {α β:Type}(a:α)(f:α->Res β):(Res.ok a>>=f)=f a:=rfl
def iZ {α:Type}:Option α->Res α
 |some a=>.ok a
 |none=>.no
theorem aA {α β:Type}{x:Res α}{f:α->Res β}{b:β}(h:(x>>=f)=.ok b):∃a,x=.ok a/\f a=.ok b:=by
 cases x with
 |ok a=>exact⟨a,rfl,h⟩
 |exc e=>cases h
 |no=>cases h
end Res
mutual
def aU:ao->Bool
 |.tuple xs=>imms xs
 |.list _=>false
 |.dict _=>false
 |.none=>true
 |.bool _=>true
 |.int _=>true
 |.str _=>true
def imms:List ao->Bool
 | []=>true
 |x::xs=>aU x&&imms xs
end
theorem qK:∀{xs:List D},imms xs=true↔∀x∈xs,aU x=true
 | []=>by simp[imms]
 |x::xs=>by rw[imms,br,qK];simp
abbrev cQ:D->D->Bool:=PyData.eqv
mutual
def aP:Nat->ao->Bool
 |0,.tuple _=>false
 |0,.list _=>false
 |n+1,.tuple xs=>cR n xs
 |n+1,.list xs=>cR n xs
 |_,.dict _=>false
 |_,.none=>true
 |_,.bool _=>true
 |_,.int _=>true
 |_,.str _=>true
def cR:Nat->List ao->Bool
 |_,[]=>true
 |n,x::xs=>aP n x&&cR n xs
end
theorem kJ:∀{xs:List D},cR n xs=true↔∀x∈xs,aP n x=true
 | []=>by simp[cR]
 |x::xs=>by rw[cR,br,kJ];simp
def truth:ao->Bool
 |.none=>false
 |.bool b=>b
 |.int i=>!decide (i=0)
 |.str x=>!decide (x.length=0)
 |.tuple xs=>!xs.isEmpty
 |.list xs=>!xs.isEmpty
 |.dict es=>!es.isEmpty
def jK (n:Nat)(i:Int):Option Nat:=if 0<=i then(if i<n then some i.toNat else none)else if -(n:Int)<=i then some (i+n).toNat else none
def dM {α:Type}(xs:List α)(i:Int):Option α:=(jK xs.length i).bind λj=>xs[j]?
def aX (n d:Nat):Option Int->Nat
 |none=>d
 |some v=>if v<0 then(v+(n:Int)).toNat else min v.toNat n
def cut {α:Type}(xs:List α)(lo hi:Option Int):List α:=(xs.drop (aX xs.length 0 lo)).take (aX xs.length xs.length hi-aX xs.length 0 lo)
def eqK:ao->ao->Bool
 |.int a,y=>match y with|.int b=>a==b|_=>false
 |.str a,y=>match y with|.str b=>decide (a=b)|_=>false
 |_,_=>false
def lF:ao->Bool
 |.int _=>true
 |.str _=>true
 |_=>false
abbrev bY:=List (D×D)
def hZ (es:bY)(k:D):Option D:=(es.find? λe=>eqK e.1 k).map (·.2)
def dput (es:bY)(k v:D):bY:=if es.any (λe=>eqK e.1 k)then es.map (λe=>if eqK e.1 k then(e.1,v)else e)else es++[(k,v)]
def ent (e:D×D):D:=.tuple [e.1,e.2]
def lG:bY->List D->Option bY
 |es,[]=>some es
 |es,p::ps=>match p with
  |.tuple [k,v]=>if lF k then lG (dput es k v) ps else none
  |_=>none
mutual
def cK:ao->ao->Bool
 |.int a,y=>match y with|.int b=>decide (a<b)|_=>false
 |.str a,y=>match y with|.str b=>decide (a.cps.toList<b.cps.toList)|_=>false
 |.tuple xs,y=>match y with|.tuple ys=>aH xs ys|_=>false
 |.none,_=>false
 |.bool _,_=>false
 |.list _,_=>false
 |.dict _,_=>false
def aH:List ao->List ao->Bool
 | [],ys=>!ys.isEmpty
 |x::xs,ys=>match ys with|y::ys=>if cQ x y then aH xs ys else cK x y| []=>false
end
def iQ (x:D):List D->List D
 | []=>[x]
 |y::ys=>if cK y x then y::iQ x ys else x::y::ys
def jR:List D->List D
 | []=>[]
 |x::xs=>iQ x (jR xs)
def x8:D->Bool
 |.int _=>true
 |_=>false
def Cm:D->Bool
 |.str _=>true
 |_=>false
def ofK (b:Bool)(x:D):Bool:=if b then x8 x else Cm x
def cN:List Bool->List D->Bool
 | [],xs=>xs.isEmpty
 |b::bs,xs=>match xs with|x::xs=>ofK b x&&cN bs xs| []=>false
def zah (bs:List Bool):D->Bool
 |.tuple xs=>cN bs xs
 |_=>false
def vP (xs:List D):Bool:=xs.all x8||xs.all Cm||(match xs with|.tuple ys::_=>!ys.isEmpty&&xs.all (zah (ys.map x8))|_=>false)
section
inductive G where
 |fr|od|al|nu
 deriving Inhabited,DecidableEq
abbrev Rho:=List (Option (G×D))
abbrev GD:=G×D
inductive Tg where
 |nm (i:Nat)|tp (is:List Nat)
 deriving Inhabited,DecidableEq
inductive C where
 |var (i:Nat)|bA|bl (b:Bool)|int (i:Int)|str (x:Str)|glob (k:Nat) (x:Str)|bin (op:oa) (a b:C)|cmp (op:CmpOp) (a b:C)|jA (neg:Bool) (a:C)|and (a b:C)|or (a b:C)|not (a:C)|oE (c a b:C)|tup (xs:C)|lst (xs:C)|rep (xs b:C)|fI|ix (a b:C)|sl (a lo hi:C)|call (k:Nat) (f:Str) (args:C)|bi (f:String) (args:C)|eD (f:String) (a:C)|pI (a:C) (ts:List String)|mt (m:String) (o args:C)|comp (nt:Nat) (js:List Nat) (N':List Str) (tg:Tg) (it cond elt:C)|sortI (i:Nat)|fM (args:C)|enum (a:C)|tv (a:C)|vQ (b:Bool) (x:Str)|nil|cons (a r:C)
 deriving Inhabited
inductive S where
 |nil|seq (a b:S)|bad|asg (t:Tg) (e:C)|eK (i:Nat) (k v:C)|mut (m:String) (i:Nat) (args:C)|drop (e:C)|ret (e:C)|ifS (c:C) (a b:S)|bD (t:Tg) (it:C) (b:S)|pop (j i:Nat)
 deriving Inhabited
inductive Out where
 |nx (ρ:Rho)|rt (g:G) (d:D)
abbrev Fn:=List D->Res GD
def bB:Nat:=1000000
def Lj:G->G
 |.fr=>.al
 |.od=>.od
 |.al=>.al
 |.nu=>.nu
def Cn:Option (Option GD)->Res GD
 |some (some (g,d))=>.ok (if aU d then .fr else Lj g,d)
 |_=>.no
def lH:D->Res Bool
 |.str x=>if x.length<=bB then .ok (!decide (x.length=0))else .no
 |d=>.ok (truth d)
def jS:G->G
 |.fr=>.fr
 |.od=>.al
 |.al=>.al
 |.nu=>.fr
def agG:G->G
 |.fr=>.fr
 |.od=>.al
 |.al=>.al
 |.nu=>.nu
def gJ (d:D)(g:G):G:=if aU d then .fr else g
def gN (d:D)(g:G):G:=match d with
 |.list xs=>if imms xs then .fr else g
 |d=>gJ d g
def bO (xs:List GD):G:=if xs.all (λx=>x.1==.fr)then .fr else if xs.all (λx=>x.1==.fr||x.1==.nu)then .nu else .al
def sY (xs:List GD):G:=if xs.all (λx=>x.1==.fr)then .fr else .al
def okIn (x:GD):Bool:=aU x.2||(x.1==.fr||x.1==.nu)
def bZ (es:bY):Bool:=es.all λe=>aU e.2
def z1q:GD->GD
 |(g,d)=>if aU d then(.al,d)else match g,d with
  |.fr,.list xs=>(if imms xs then .fr else .nu,.list xs)
  |.fr,.dict es=>(if bZ es then .fr else .nu,.dict es)
  |.fr,d=>(.nu,d)
  |.nu,d=>(.nu,d)
  |.od,d=>(.od,d)
  |.al,d=>(.al,d)
def z2d:GD->GD
 |(g,d)=>match g with|.od=>(.od,d)|_=>(.al,d)
def toAl:Option GD->Option GD
 |some (.fr,d)=>some (.al,d)
 |some (.nu,d)=>some (.al,d)
 |s=>s
def cZ:Option GD->Option GD
 |some (.al,d)=>if aU d then some (.al,d)else none
 |s=>s
def sZ:Rho->List Nat->List D->G->Option Rho
 |ρ,[],[],_=>some ρ
 |ρ,i::is,d::ds,g=>sZ (ρ.set i (some (z2d (gJ d g,d)))) is ds g
 |_,_,_,_=>none
def eE:Tg->GD->Rho->Res Rho
 |.nm i,x,ρ=>.ok (ρ.set i (some (z2d x)))
 |.tp is,(g,.tuple ds),ρ=>Res.iZ (sZ ρ is ds g)
 |.tp is,(g,.list ds),ρ=>Res.iZ (sZ ρ is ds g)
 |_,_,_=>.no
def Fv:D->Res D
 |.str x=>if x.length<=bB then .ok (.int x.length)else .no
 |.tuple xs=>.ok (.int xs.length)
 |.list xs=>.ok (.int xs.length)
 |.dict es=>.ok (.int es.length)
 |_=>.no
def kK {α:Type}(n:Nat)(xs:List α):List α:=(ba n xs).flatten
def dD:oa->D->D->Res D
 |.Add,.int a,.int b=>.ok (.int (a+b))
 |.Add,.str a,.str b=>if a.length+b.length<=bB then .ok (.str (a++b))else .no
 |.Add,.list a,.list b=>if a.length+b.length<=bB then .ok (.list (a++b))else .no
 |.Add,.tuple a,.tuple b=>if a.length+b.length<=bB then .ok (.tuple (a++b))else .no
 |.Sub,.int a,.int b=>.ok (.int (a-b))
 |.Mult,.str a,.int n=>if 0<=n/\n<=bB/\a.length*n.toNat<=bB then .ok (.str ⟨(kK n.toNat a.cps.toList).toArray⟩)else .no
 |.Mult,.int a,.int b=>if(-(2 ^ 64)<a/\a<2 ^ 64)\/(-(2 ^ 64)<b/\b<2 ^ 64)then .ok (.int (a*b))else .no
 |.FloorDiv,.int a,.int b=>if 0<b/\b<2 ^ 200 then .ok (.int (a/b))else .no
 |.Mod,.int a,.int b=>if 0<b then .ok (.int (a%b))else .no
 |.Pow,.int a,.int b=>if 0<=b/\b<=1000/\a.natAbs<2 ^ 64 then .ok (.int (a ^ b.toNat))else .no
 |_,_,_=>.no
def inD (x:D):D->Res Bool
 |.list xs=>if aP 40 x&&cR 40 xs then .ok (xs.any λy=>cQ y x)else .no
 |.tuple xs=>if aP 40 x&&cR 40 xs then .ok (xs.any λy=>cQ y x)else .no
 |.dict es=>if lF x then .ok (hZ es x).isSome else .no
 |.str z=>match x with
  |.str w=>(match w.cps.toList with| [c]=>.ok (decide (c∈z.cps.toList))|_=>.no)
  |_=>.no
 |_=>.no
def cmpD:CmpOp->D->D->Res Bool
 |.Eq,x,y=>if aP 40 x&&aP 40 y then .ok (cQ x y)else .no
 |.NotEq,x,y=>if aP 40 x&&aP 40 y then .ok (!cQ x y)else .no
 |.Lt,.int a,.int b=>.ok (decide (a<b))
 |.Gt,.int a,.int b=>.ok (decide (b<a))
 |.GtE,.int a,.int b=>.ok (decide (b<=a))
 |.Lt,.str a,.str b=>.ok (decide (a.cps.toList<b.cps.toList))
 |.Gt,.str a,.str b=>.ok (decide (b.cps.toList<a.cps.toList))
 |.In,x,y=>inD x y
 |.NotIn,x,y=>inD x y>>=λb=>.ok (!b)
 |_,_,_=>.no
def jB:D->D->Res D
 |.list xs,.int i=>Res.iZ (dM xs i)
 |.tuple xs,.int i=>Res.iZ (dM xs i)
 |.str z,.int i=>if z.length<=bB then Res.iZ ((dM z.cps.toList i).map λc=>.str ⟨#[c]⟩)else .no
 |.dict es,k=>if lF k then Res.iZ (hZ es k)else .no
 |_,_=>.no
def vR (z:Str)(lo hi:Option Int):Str:=⟨(cut z.cps.toList lo hi).toArray⟩
def zO:D->Option Int->Option Int->Res D
 |.list xs,lo,hi=>.ok (.list (cut xs lo hi))
 |.tuple xs,lo,hi=>if aX xs.length 0 lo=0/\aX xs.length xs.length hi=xs.length then .no else .ok (.tuple (cut xs lo hi))
 |.str z,lo,hi=>if z.length<=bB then .ok (.str (vR z lo hi))else .no
 |_,_,_=>.no
def vS:D->Res (Option Int)
 |.int i=>.ok (some i)
 |_=>.no
def z4x:D->Res (List D)
 |.list xs=>.ok xs
 |.tuple xs=>.ok xs
 |.str z=>if z.length<=bB then .ok (z.cps.toList.map λc=>.str ⟨#[c]⟩)else .no
 |_=>.no
def zP:List D->Option (List Str)
 | []=>some []
 |.str b::r=>(zP r).map (b:: ·)
 |_=>none
def z7b:D->Res (Bool×List D)
 |.list xs=>.ok (true,xs)
 |.tuple xs=>.ok (false,xs)
 |_=>.no
def aggD (f:String)(l:Bool)(xs:List D):Res D:=
 if f="list"then .ok (.list xs)
 else if f="tuple"then .ok (.tuple xs)
 else if f="dict"then Res.iZ ((lG [] xs).map .dict)
 else .no
def vT (l:List Nat):Bool:=!l.isEmpty&&l.all λc=>decide (48<=c)&&decide (c<=57)
def zQ (l:List Nat):Nat:=l.foldl (λn c=>n*10+(c-48)) 0
def zR (x:Str):Res D:=if vT x.cps.toList&&decide (x.length<=600)then .ok (.int (zQ x.cps.toList:Int))else .no
def zS (y:Str):Option Nat:=match y.cps.toList with
 | [c]=>some c
 |_=>none
def toS (l:List Nat):Str:=⟨l.toArray⟩
def Fw (x y:Str):Res D:=match zS y with
 |some c=>if decide (x.length<=bB)then .ok (.tuple [.str (toS (x.cps.toList.takeWhile (· != c))),.str (if x.cps.toList.contains c then y else ""),.str (toS ((x.cps.toList.dropWhile (· != c)).drop 1))])else .no
 |none=>.no
def Fx (x y:Str):Res D:=match zS y with
 |some c=>.ok (.int (match x.cps.toList.findIdx? (· ==c)with|some i=>(i:Int)|none=>-1))
 |none=>.no
def lI (f:String)(xs:List D):Res D:=
 if f="len"then(match xs with| [x]=>Fv x|_=>.no)
 else if f="max"then(match xs with| [.int a,.int b]=>.ok (.int (max a b))|_=>.no)
 else if f="int"then(match xs with| [.int a]=>.ok (.int a)| [.bool b]=>.ok (.int (if b then 1 else 0))| [.str x]=>zR x|_=>.no)
 else .no
def iR:D->String
 |.none=>"NoneType"|.bool _=>"bool"|.int _=>"int"|.str _=>"str"|.tuple _=>"tuple"|.list _=>"list"|.dict _=>"dict"
def lJ (t T:String):Bool:=t==T||(t=="bool"&&T=="int")
def SM (sep:List Nat):List Str->List Nat
 | []=>[]
 |x::r=>x.cps.toList++(r.map λp=>sep++p.cps.toList).flatten
def SN (sep:Str)(xs:List Str):Str:=⟨(SM sep.cps.toList xs).toArray⟩
def SO (sep:Str)(xs:List Str):Nat:=(xs.map (·.length)).sum+xs.length*sep.length
def mtD (m:String)(o:D)(xs:List D):Res D:=
 if m="get"then(match o,xs with|.dict es,[k,d]=>if lF k then .ok ((hZ es k).getD d)else .no|_,_=>.no)
 else if m="join"then(match o,xs with|.str z,[.list ys]=>(match zP ys with|some ss=>if SO z ss<=bB then .ok (.str (SN z ss))else .no|none=>.no)|_,_=>.no)
 else if m="partition"then(match o,xs with|.str x,[.str y]=>Fw x y|_,_=>.no)
 else if m="find"then(match o,xs with|.str x,[.str y]=>Fx x y|_,_=>.no)
 else .no
def lK:List D->Res (List D)
 | [.int n]=>if n<=bB/\-bB<=n then .ok ((cn n.toNat).map λ(i:Nat)=>.int i)else .no
 |_=>.no
def z1z:Nat->List D->List D
 |_,[]=>[]
 |i,x::xs=>.tuple [.int i,x]::z1z (i+1) xs
def seqR:D->Res (List D)
 |.list xs=>if decide (xs.length<=bB)then .ok xs else .no
 |.tuple xs=>if decide (xs.length<=bB)then .ok xs else .no
 |_=>.no
def qL (ys:List GD):D->Res GD
 |.int n=>if imms (ys.map (·.2))=true/\0<=n/\n<=bB/\ys.length*n.toNat<=bB then .ok (.fr,.list (kK n.toNat (ys.map (·.2))))else .no
 |_=>.no
def oc:Option GD->List GD->List GD
 |some y,r=>y::r
 |none,r=>r
def lL (f:D->Res (Option GD)):List D->Res (List GD)
 | []=>.ok []
 |x::xs=>f x>>=λo=>lL f xs>>=λr=>.ok (oc o r)
variable (Κ:List D)(Φ:List Fn)
mutual
def aG:C->Rho->Res GD
 |.var i,ρ=>Cn ρ[i]?
 |.bA,_=>.ok (.fr,.none)
 |.bl b,_=>.ok (.fr,.bool b)
 |.int i,_=>.ok (.fr,.int i)
 |.str x,_=>.ok (.fr,.str x)
 |.vQ b _,_=>.ok (.fr,.bool b)
 |.glob k _,_=>match Κ[k]? with|some d=>if aU d then .ok (.fr,d)else .no|none=>.no
 |.bin op a b,ρ=>aG a ρ>>=λx=>aG b ρ>>=λy=>dD op x.2 y.2>>=λd=>.ok (gN d (bO [x,y]),d)
 |.cmp op a b,ρ=>aG a ρ>>=λx=>aG b ρ>>=λy=>cmpD op x.2 y.2>>=λb=>.ok (.fr,.bool b)
 |.jA ng a,ρ=>aG a ρ>>=λx=>.ok (.fr,.bool (match x.2 with|.none=>!ng|_=>ng))
 |.and a b,ρ=>aG a ρ>>=λx=>match x.2 with|.bool c=>if c then aG b ρ else .ok (.fr,.bool false)|_=>.no
 |.or a b,ρ=>aG a ρ>>=λx=>match x.2 with|.bool c=>if c then .ok (.fr,.bool true)else aG b ρ|_=>.no
 |.not a,ρ=>aG a ρ>>=λx=>lH x.2>>=λc=>.ok (.fr,.bool (!c))
 |.oE c a b,ρ=>eL c ρ>>=λk=>if k then aG a ρ else aG b ρ
 |.tup xs,ρ=>dP xs ρ>>=λys=>.ok (gJ (.tuple (ys.map (·.2))) (bO ys),.tuple (ys.map (·.2)))
 |.lst xs,ρ=>dP xs ρ>>=λys=>.ok (bO ys,.list (ys.map (·.2)))
 |.rep xs b,ρ=>dP xs ρ>>=λys=>aG b ρ>>=λn=>qL ys n.2
 |.fI,_=>.ok (.fr,.dict [])
 |.ix a b,ρ=>aG a ρ>>=λx=>aG b ρ>>=λy=>jB x.2 y.2>>=λd=>.ok (gJ d x.1,d)
 |.sl a lo hi,ρ=>aG a ρ>>=λx=>vU lo ρ>>=λl=>vU hi ρ>>=λh=>zO x.2 l h>>=λd=>.ok (gN d (bO [x]),d)
 |.call k _ args,ρ=>dP args ρ>>=λys=>match Φ[k]? with|some m=>m (ys.map (·.2))>>=λr=>.ok (gJ r.2 (jS r.1),r.2)|none=>.no
 |.bi f args,ρ=>dP args ρ>>=λys=>lI f (ys.map (·.2))>>=λd=>.ok (gJ d .al,d)
 |.eD f a,ρ=>Fy a ρ>>=λw=>aggD f w.2.1 w.2.2>>=λd=>.ok (gJ d (if imms w.2.2 then .fr else agG w.1),d)
 |.pI a ts,ρ=>aG a ρ>>=λx=>.ok (.fr,.bool (ts.any λT=>lJ (iR x.2) T))
 |.mt m o args,ρ=>aG o ρ>>=λx=>dP args ρ>>=λys=>mtD m x.2 (ys.map (·.2))>>=λd=>.ok (gJ d .al,d)
 |.sortI i,ρ=>match ρ[i]? with
  |some (some (_,.dict es))=>if bZ es&&vP (es.map ent)&&decide (es.length<64)then .ok (.fr,.list (jR (es.map ent)))else .no
  |_=>.no
 |.comp nt js _ tg it cond elt,ρ=>evW it ρ>>=λw=>lL (λx=>eE tg (gJ x w.1,x) (ba nt none++js.map λj=>toAl (ρ.getD j none))>>=λρ1=>eL cond ρ1>>=λk=>if k then aG elt ρ1>>=λy=>.ok (some y)else .ok none) w.2>>=λys=>.ok (sY ys,.list (ys.map (·.2)))
 |_,_=>.no
def eL:C->Rho->Res Bool
 |.and a b,ρ=>eL a ρ>>=λc=>if c then eL b ρ else .ok false
 |.or a b,ρ=>eL a ρ>>=λc=>if c then .ok true else eL b ρ
 |.not a,ρ=>eL a ρ>>=λc=>.ok (!c)
 |.nil,_=>.ok true
 |.tv a,ρ=>aG a ρ>>=λx=>lH x.2
 |_,_=>.no
def dP:C->Rho->Res (List GD)
 |.nil,_=>.ok []
 |.cons a r,ρ=>aG a ρ>>=λx=>dP r ρ>>=λxs=>.ok (x::xs)
 |_,_=>.no
def vU:C->Rho->Res (Option Int)
 |.nil,_=>.ok none
 |.tv a,ρ=>aG a ρ>>=λx=>vS x.2
 |_,_=>.no
def Fy:C->Rho->Res (G×Bool×List D)
 |.tv a,ρ=>aG a ρ>>=λx=>z7b x.2>>=λp=>.ok (x.1,p)
 |_,_=>.no
def evW:C->Rho->Res (G×List D)
 |.fM args,ρ=>dP args ρ>>=λys=>lK (ys.map (·.2))>>=λxs=>.ok (.fr,xs)
 |.tv a,ρ=>aG a ρ>>=λx=>z4x x.2>>=λxs=>.ok (x.1,xs)
 |.enum a,ρ=>aG a ρ>>=λx=>seqR x.2>>=λxs=>.ok (.al,z1z 0 xs)
 |_,_=>.no
end
def qM:Res Out->(Rho->Res Out)->Res Out
 |.ok (.nx ρ),k=>k ρ
 |r,_=>r
def dE (f:D->Rho->Res Out):List D->Rho->Res Out
 | [],ρ=>.ok (.nx ρ)
 |x::xs,ρ=>match f x ρ with
  |.ok (.nx aQ)=>dE f xs aQ
  |.ok (.rt g d)=>.ok (.rt g d)
  |.exc e=>.exc e
  |.no=>.no
def putAt (xs:List D)(ys:List GD):Res (List D):=match ys with
 | [x,y]=>(match x.2 with
  |.int i=>if okIn y&&decide (xs.length<bB)&&decide (0<=i)&&decide (i<=xs.length)then .ok (xs.take i.toNat++y.2::xs.drop i.toNat)else .no
  |_=>.no)
 |_=>.no
def oF (m:String)(xs:List D)(ys:List GD):Res (List D):=
 if m="append"then(match ys with| [y]=>if okIn y&&decide (xs.length<bB)then .ok (xs++[y.2])else .no|_=>.no)
 else .no
def lM (ρ:Rho)(i:Nat):Bool:=match ρ[i]? with
 |some (some (.fr,_))=>true
 |_=>false
def Co (i:Nat)(ρ:Rho):Res (G×List D×Rho):=match ρ[i]? with
 |some (some (.fr,d))=>z4x d>>=λxs=>.ok (.al,xs,ρ.set i (some (.al,d)))
 |_=>.no
def Fz:Option GD->Option GD
 |some (.fr,.list xs)=>some (.al,.list xs)
 |s=>s
def oG (x:GD)(ρ:Rho):Res (G×List D×Rho):=match x.2 with
 |.list xs=>if imms xs then .ok (.al,xs,ρ.map Fz)else .no
 |_=>.no
def Cp (x:GD):Bool:=match x.2 with
 |.list _=>!(x.1==.al)
 |d=>!(x.1==.al)||aU d
def qN (ys:List GD)(ρ:Rho):Res (G×List D×Rho):=match ys with
 | [x]=>if Cp x then seqR x.2>>=λxs=>.ok (.al,z1z 0 xs,ρ)else .no
 |_=>.no
def lN (it:C)(ρ:Rho):Bool:=match evW Κ Φ it ρ with
 |.ok w=>w.1==.al
 |_=>false
def tE (it:C)(ρ:Rho):Res (G×List D×Rho):=evW Κ Φ it ρ>>=λw=>if w.1==.al then .no else .ok (w.1,w.2,ρ)
def evF (it:C)(ρ:Rho):Res (G×List D×Rho):=match it with
 |.tv (.var i)=>if lM ρ i then Co i ρ else if lN Κ Φ it ρ then aG Κ Φ (.var i) ρ>>=λx=>oG x ρ else tE Κ Φ it ρ
 |.tv a=>if lN Κ Φ it ρ then aG Κ Φ a ρ>>=λx=>oG x ρ else tE Κ Φ it ρ
 |.enum a=>dP Κ Φ (.cons a .nil) ρ>>=λys=>qN ys ρ
 |it=>tE Κ Φ it ρ
def excOf:Res GD->Option Str
 |.exc (.str c)=>some c
 |_=>none
def Cq (xs:List D):Option D:=match xs.getLast? with
 |some d=>if aU d then some d else none
 |none=>none
def zT:Option GD->Option GD
 |some (.fr,d)=>some (.nu,d)
 |s=>s
mutual
def zU:ao->ao->Bool
 |.list xs,y=>match y with|.list ys=>Lk xs ys|_=>false
 |.tuple _,y=>match y with|.list _=>false|_=>true
 |.dict _,y=>match y with|.list _=>false|_=>true
 |.none,y=>match y with|.list _=>false|_=>true
 |.bool _,y=>match y with|.list _=>false|_=>true
 |.int _,y=>match y with|.list _=>false|_=>true
 |.str _,y=>match y with|.list _=>false|_=>true
def Lk:List ao->List ao->Bool
 | [],ys=>ys.isEmpty
 |x::xs,ys=>match ys with|y::ys=>zU x y&&Lk xs ys| []=>false
end
mutual
def apart (z:D):ao->Bool
 |.tuple xs=>FA z xs
 |.list xs=>!(zU (.list xs) z)&&FA z xs
 |.dict _=>false
 |.none=>true
 |.bool _=>true
 |.int _=>true
 |.str _=>true
def FA (z:D):List ao->Bool
 | []=>true
 |x::xs=>apart z x&&FA z xs
end
def aT:S->Rho->Res Out
 |.nil,ρ=>.ok (.nx ρ)
 |.seq a b,ρ=>qM (aT a ρ) (aT b)
 |.bad,_=>.no
 |.asg (.nm i) e,ρ=>aG Κ Φ e ρ>>=λx=>.ok (.nx (ρ.set i (some (z1q x))))
 |.asg t e,ρ=>aG Κ Φ e ρ>>=λx=>eE t x ρ>>=λaQ=>.ok (.nx aQ)
 |.eK i k v,ρ=>aG Κ Φ v ρ>>=λy=>aG Κ Φ k ρ>>=λx=>match ρ[i]? with
  |some (some (.fr,.dict es))=>if lF x.2&&okIn y&&decide (es.length<bB)then .ok (.nx ((ρ.set i (some (.fr,.dict (dput es x.2 y.2)))).map cZ))else .no
  |some (some (.fr,.list xs))=>(match x.2 with
   |.int j=>if okIn y then(match jK xs.length j with|some n=>.ok (.nx ((ρ.set i (some (.fr,.list (xs.set n y.2)))).map cZ))|none=>.no)else .no
   |_=>.no)
  |_=>.no
 |.mut m i args,ρ=>dP Κ Φ args ρ>>=λys=>match ρ[i]? with
  |some (some (.fr,.list xs))=>oF m xs ys>>=λtF=>.ok (.nx ((ρ.set i (some (.fr,.list tF))).map cZ))
  |_=>.no
 |.drop e,ρ=>aG Κ Φ e ρ>>=λ_=>.ok (.nx ρ)
 |.ret e,ρ=>match e with
  |.var i=>match ρ[i]? with
   |some (some (g,d))=>.ok (.rt (if aU d then .fr else jS g) d)
   |_=>.no
  |e=>aG Κ Φ e ρ>>=λx=>.ok (.rt (jS x.1) x.2)
 |.ifS c a b,ρ=>eL Κ Φ c ρ>>=λk=>if k then aT a ρ else aT b ρ
 |.bD t it b,ρ=>evF Κ Φ it ρ>>=λw=>dE (λx ρ1=>eE t (gJ x w.1,x) ρ1>>=λcF=>aT b cF) w.2.1 w.2.2
 |.pop j i,ρ=>match ρ[i]? with
  |some (some (.fr,.list xs))=>(match Cq xs with
   |some d=>.ok (.nx (((ρ.set i (some (.fr,.list xs.dropLast))).map cZ).set j (some (.al,d))))
   |none=>.no)
  |_=>.no
def SQ (Κ:List D)(Φ:List Fn)(_:S)(_:Rho):Option Str:=none
def aS (n:Nat)(s:S)(ds:List D):Res GD:=match aT Κ Φ s (ds.map (λd=>some (.od,d))++ba (n-ds.length) none)with
 |.ok (.nx _)=>.ok (.fr,.none)
 |.ok (.rt g d)=>.ok (g,d)
 |_=>match SQ Κ Φ s (ds.map (λd=>some (.od,d))++ba (n-ds.length) none)with
  |some c=>.exc (.str c)
  |none=>.no
end
open PySem.Spec PyProof.Rows L2
def kD:Key->D
 |.inl i=>.int i
 |.inr x=>.str x
def keyOk:Key->Prop
 |.inl _=>True
 |.inr x=>PyData.strOk x=true
def KL (K:W.Frag)(a:Addr)(xs:List V):Prop:=∃(o:Obj) (its:Array Value) (n:Nat),K.lookup a=some o/\o.cls=.type "list"/\o.dict=none/\o.data=.seq its n/\its.size<=bc/\Vals xs its.toList
abbrev Ad:=Option Addr
def FL (K:W.Frag)(H:Hp)(a:Addr)(xs:List V):Prop:=(∃o,H a=some (.fL o (.lst xs)))\/KL K a xs
def nw (H:Hp):Ad->Prop
 |some a=>H a=none
 |none=>False
section
variable (K:W.Frag)(H:Hp)(B:Ad->Prop)
mutual
def Rep:V->ao->Prop
 |v,.none=>v=.bA
 |v,.bool b=>v=.bl b
 |v,.int i=>v=.int i
 |v,.str x=>v=.str x/\PyData.strOk x=true
 |v,.tuple ds=>∃a vs,v=.ref a/\bS K H a vs/\Reps vs ds
 |v,.list ds=>∃a vs,v=.ref a/\((H a=some (.lst vs)/\B (some a))\/(FL K H a vs/\B none))/\Reps vs ds
 |v,.dict es=>∃a kvs,v=.ref a/\H a=some (.dK kvs)/\B (some a)/\bC kvs es
def Reps:List V->List ao->Prop
 |vs,[]=>vs=[]
 |vs,d::ds=>∃v r,vs=v::r/\Rep v d/\Reps r ds
def bC:List (Key×V)->List (ao×ao)->Prop
 |kvs,[]=>kvs=[]
 |kvs,(kd,d)::es=>∃k v r,kvs=(k,v)::r/\kd=kD k/\keyOk k/\Rep v d/\bC r es
end
end
def Fix:HO->Prop
 |.tup _=>True
 |.fL _ (.lst _)=>True
 |.fL _ (.tup _)=>True
 |_=>False
section
variable {K:W.Frag}{H H':Hp}{B B':Ad->Prop}
theorem FL.keep (hH:∀a o,H a=some o->(B (some a)\/Fix o)->H' a=some o)(r:FL K H a vs):FL K H' a vs:=by
 rcases r with⟨o,r⟩|r
 ·exact .inl ⟨o,hH a _ r (.inr True.intro)⟩
 ·exact .inr r
theorem _root_.L2.bS.keep (hH:∀a o,H a=some o->(B (some a)\/Fix o)->H' a=some o)(r:bS K H a vs):bS K H' a vs:=by
 rcases r with(r|⟨o,r⟩)|r
 ·exact .inl (.inl (hH a _ r (.inr True.intro)))
 ·exact .inl (.inr ⟨o,hH a _ r (.inr True.intro)⟩)
 ·exact .inr r
mutual
theorem Rep.keep (hH:∀a o,H a=some o->(B (some a)\/Fix o)->H' a=some o)(hB:∀a,B a->B' a):∀{v:V} (d:ao),Rep K H B v d->Rep K H' B' v d
 |v,.none,r=>r
 |v,.bool b,r=>r
 |v,.int i,r=>r
 |v,.str x,r=>r
 |v,.tuple ds,r=>by obtain⟨a,vs,e,h,q⟩:=r;exact⟨a,vs,e,h.keep hH,Reps.keep hH hB ds q⟩
 |v,.list ds,r=>by
  obtain⟨a,vs,e,h,q⟩:=r;refine⟨a,vs,e,?_,Reps.keep hH hB ds q⟩;rcases h with⟨h,b⟩|h
  ·exact .inl ⟨hH a _ h (.inl b),hB _ b⟩
  ·exact .inr ⟨FL.keep hH h.1,hB _ h.2⟩
 |v,.dict es,r=>by obtain⟨a,kvs,e,h,b,q⟩:=r;exact⟨a,kvs,e,hH a _ h (.inl b),hB _ b,bC.keep hH hB es q⟩
theorem Reps.keep (hH:∀a o,H a=some o->(B (some a)\/Fix o)->H' a=some o)(hB:∀a,B a->B' a):∀{vs:List V} (ds:List ao),Reps K H B vs ds->Reps K H' B' vs ds
 |vs,[],r=>r
 |vs,d::ds,r=>by obtain⟨v,t,e,h,q⟩:=r;exact⟨v,t,e,Rep.keep hH hB d h,Reps.keep hH hB ds q⟩
theorem bC.keep (hH:∀a o,H a=some o->(B (some a)\/Fix o)->H' a=some o)(hB:∀a,B a->B' a):∀{kvs:List (Key×V)} (es:List (ao×ao)),bC K H B kvs es->bC K H' B' kvs es
 |kvs,[],r=>r
 |kvs,(kd,d)::es,r=>by obtain⟨k,v,t,e,e2,ok,h,q⟩:=r;exact⟨k,v,t,e,e2,ok,Rep.keep hH hB d h,bC.keep hH hB es q⟩
end
theorem Rep.same (s:Same H H')(hB:∀a,B a->B' a)(r:Rep K H B v d):Rep K H' B' v d:=Rep.keep (λa o e _=>s a o e) hB d r
theorem Reps.same (s:Same H H')(hB:∀a,B a->B' a)(r:Reps K H B vs ds):Reps K H' B' vs ds:=Reps.keep (λa o e _=>s a o e) hB ds r
theorem bC.same (s:Same H H')(hB:∀a,B a->B' a)(r:bC K H B vs ds):bC K H' B' vs ds:=bC.keep (λa o e _=>s a o e) hB ds r
theorem Rep.weak (hB:∀a,B a->B' a)(r:Rep K H B v d):Rep K H B' v d:=r.same (λ_ _ e=>e) hB
theorem Reps.weak (hB:∀a,B a->B' a)(r:Reps K H B v d):Reps K H B' v d:=r.same (λ_ _ e=>e) hB
mutual
theorem Rep.bG:∀{v:V} (d:ao),aU d=true->Rep K H B v d->Rep K H B' v d
 |v,.none,_,r=>r
 |v,.bool b,_,r=>r
 |v,.int i,_,r=>r
 |v,.str x,_,r=>r
 |v,.tuple ds,i,r=>by obtain⟨a,vs,e,h,q⟩:=r;exact⟨a,vs,e,h,Reps.bG ds (i) q⟩
 |v,.list ds,i,r=>by cases(show false=true from i)
 |v,.dict es,i,r=>by cases(show false=true from i)
theorem Reps.bG:∀{vs:List V} (ds:List ao),imms ds=true->Reps K H B vs ds->Reps K H B' vs ds
 |vs,[],_,r=>r
 |vs,d::ds,i,r=>by have i:=av.mp (show(aU d&&imms ds)=true from i);obtain⟨v,t,e,h,q⟩:=r;exact⟨v,t,e,Rep.bG d i.1 h,Reps.bG ds i.2 q⟩
end
mutual
theorem Rep.jT (hH:∀a o,H a=some o->Fix o->H' a=some o):∀{v:V} (d:ao),aU d=true->Rep K H B v d->Rep K H' B' v d
 |v,.none,_,r=>r
 |v,.bool b,_,r=>r
 |v,.int i,_,r=>r
 |v,.str x,_,r=>r
 |v,.tuple ds,i,r=>by obtain⟨a,vs,e,h,q⟩:=r;exact⟨a,vs,e,h.keep (B:=λ_=>False) (λa o e f=>hH a o e (f.resolve_left id)),Reps.jT hH ds (i) q⟩
 |v,.list ds,i,r=>by cases(show false=true from i)
 |v,.dict es,i,r=>by cases(show false=true from i)
theorem Reps.jT (hH:∀a o,H a=some o->Fix o->H' a=some o):∀{vs:List V} (ds:List ao),imms ds=true->Reps K H B vs ds->Reps K H' B' vs ds
 |vs,[],_,r=>r
 |vs,d::ds,i,r=>by have i:=av.mp (show(aU d&&imms ds)=true from i);obtain⟨v,t,e,h,q⟩:=r;exact⟨v,t,e,Rep.jT hH d i.1 h,Reps.jT hH ds i.2 q⟩
end
theorem Reps.length:∀{vs:List V} {ds:List D},Reps K H B vs ds->vs.length=ds.length
 |vs,[],r=>by have e:vs=[]:=r;subst e;rfl
 |vs,d::ds,r=>by obtain⟨v,t,rfl,h,q⟩:=r;rw[bv,bv,q.length]
theorem Reps.get:∀{vs:List V} {ds:List D} {i:Nat} {d:D},Reps K H B vs ds->ds[i]?=some d->∃v,vs[i]?=some v/\Rep K H B v d
 |vs,[],i,d,r,e=>by simp at e
 |vs,d0::ds,0,d,r,e=>by
  obtain⟨v,t,rfl,h,q⟩:=r;have:d0=d:=by simpa using e
  subst this;exact⟨v,rfl,h⟩
 |vs,d0::ds,i+1,d,r,e=>by obtain⟨v,t,rfl,h,q⟩:=r;obtain⟨u,h1,h2⟩:=q.get (by simpa using e);exact⟨u,by simpa using h1,h2⟩
theorem Reps.oH:∀{vs:List V} {ds:List D} {i:Nat} {v:V},Reps K H B vs ds->vs[i]?=some v->∃d,ds[i]?=some d/\Rep K H B v d
 |vs,[],i,v,r,e=>by have e1:vs=[]:=r;subst e1;simp at e
 |vs,d0::ds,0,v,r,e=>by
  obtain⟨u,t,rfl,h,q⟩:=r;have:u=v:=by simpa using e
  subst this;exact⟨d0,rfl,h⟩
 |vs,d0::ds,i+1,v,r,e=>by obtain⟨u,t,rfl,h,q⟩:=r;obtain⟨d,h1,h2⟩:=q.oH (by simpa using e);exact⟨d,by simpa using h1,h2⟩
theorem Reps.cons {v:V}{d:D}{vs:List V}{ds:List D}(h:Rep K H B v d)(r:Reps K H B vs ds):Reps K H B (v::vs) (d::ds):=⟨v,vs,rfl,h,r⟩
theorem Reps.append:∀{vs ws:List V} {ds es:List D},Reps K H B vs ds->Reps K H B ws es->Reps K H B (vs++ws) (ds++es)
 |vs,ws,[],es,r,q=>by have e:vs=[]:=r;subst e;exact q
 |vs,ws,d::ds,es,r,q=>by obtain⟨v,t,rfl,h,p⟩:=r;exact⟨v,t++ws,rfl,h,p.append q⟩
theorem Reps.take:∀{vs:List V} {ds:List D} n,Reps K H B vs ds->Reps K H B (vs.take n) (ds.take n)
 |vs,ds,0,r=>by rw[List.take_zero];exact rfl
 |vs,[],n+1,r=>by have e:vs=[]:=r;subst e;exact rfl
 |vs,d::ds,n+1,r=>by obtain⟨v,t,rfl,h,p⟩:=r;exact⟨v,t.take n,rfl,h,p.take n⟩
theorem Reps.drop:∀{vs:List V} {ds:List D} n,Reps K H B vs ds->Reps K H B (vs.drop n) (ds.drop n)
 |vs,ds,0,r=>r
 |vs,[],n+1,r=>by have e:vs=[]:=r;subst e;exact rfl
 |vs,d::ds,n+1,r=>by obtain⟨v,t,rfl,h,p⟩:=r;exact p.drop n
theorem Reps.set (h:Rep K H B v d):∀{vs:List V} {ds:List D} n,Reps K H B vs ds->Reps K H B (vs.set n v) (ds.set n d)
 |vs,[],n,r=>by have e:vs=[]:=r;subst e;exact rfl
 |vs,d::ds,0,r=>by obtain⟨u,t,rfl,_,p⟩:=r;exact⟨_,_,rfl,h,p⟩
 |vs,d::ds,n+1,r=>by obtain⟨u,t,rfl,h0,p⟩:=r;exact⟨_,_,rfl,h0,p.set h n⟩
mutual
theorem Rep.there:∀{v:V} (d:ao),Rep K H B v d->Rep K H (λa=>B a/\¬nw H a) v d
 |v,.none,r=>r
 |v,.bool b,r=>r
 |v,.int i,r=>r
 |v,.str x,r=>r
 |v,.tuple ds,r=>by obtain⟨a,vs,e,h,q⟩:=r;exact⟨a,vs,e,h,Reps.there ds q⟩
 |v,.list ds,r=>by
  obtain⟨a,vs,e,h,q⟩:=r;refine⟨a,vs,e,?_,Reps.there ds q⟩;rcases h with⟨h,b⟩|h
  ·refine .inl ⟨h,b,λz=>?_⟩;have z':H a=none:=z;rw[h]at z';cases z'
  ·exact .inr ⟨h.1,h.2,λz=>z⟩
 |v,.dict es,r=>by obtain⟨a,kvs,e,h,b,q⟩:=r;exact⟨a,kvs,e,h,⟨b,λz=>by have z':H a=none:=z;rw[h]at z';cases z'⟩,bC.there es q⟩
theorem Reps.there:∀{vs:List V} (ds:List ao),Reps K H B vs ds->Reps K H (λa=>B a/\¬nw H a) vs ds
 |vs,[],r=>r
 |vs,d::ds,r=>by obtain⟨v,t,e,h,q⟩:=r;exact⟨v,t,e,Rep.there d h,Reps.there ds q⟩
theorem bC.there:∀{kvs:List (Key×V)} (es:List (ao×ao)),bC K H B kvs es->bC K H (λa=>B a/\¬nw H a) kvs es
 |kvs,[],r=>r
 |kvs,(kd,d)::es,r=>by obtain⟨k,v,t,e,e2,ok,h,q⟩:=r;exact⟨k,v,t,e,e2,ok,Rep.there d h,bC.there es q⟩
end
end
structure Fm where
 H0:Hp
 V:Addr->Prop
 O:Addr->Option Nat
 z:Prop
def Bin (F:Fm):Ad->Prop
 |some a=>F.O a=none/\F.H0 a=none/\F.V a
 |none=>False
def bP (F:Fm):Ad->Prop
 |some a=>F.V a
 |none=>F.z
def fR (F:Fm):Ad->Prop
 |some a=>F.H0 a≠none/\F.V a
 |none=>F.z
def Slot (K:W.Frag)(F:Fm)(H:Hp)(i:Nat):G->V->D->Prop
 |.fr,v,d=>∃p,v=.ref p/\F.O p=some i/\((∃vs ds,d=.list ds/\H p=some (.lst vs)/\Reps K H (Bin F) vs ds)\/(∃kvs es,d=.dict es/\H p=some (.dK kvs)/\bC K H (Bin F) kvs es))
 |.od,v,d=>Rep K H (fR F) v d
 |.al,v,d=>Rep K H (bP F) v d
 |.nu,v,d=>Rep K H (Bin F) v d
structure StOk (K:W.Frag)(F:Fm)(H:Hp)(Y:L2.St)(ρ:Rho):Prop where
 ext:Same F.H0 H
 aM:∀a,H a=none->F.V a
 own:∀a i,F.O a=some i->F.H0 a=none/\F.V a/\((∃xs,H a=some (.lst xs))\/∃kvs,H a=some (.dK kvs))
 len:Y.length=ρ.length
 sl:∀i g d,ρ[i]?=some (some (g,d))->∃v,Y[i]?=some (some v)/\Slot K F H i g v d
def BG (F:Fm)(H:Hp):G->Ad->Prop
 |.fr=>nw H
 |.od=>fR F
 |.al=>bP F
 |.nu=>λa=>nw H a\/Bin F a
section
variable {K:W.Frag}{F:Fm}{H H':Hp}{Y:L2.St}{ρ:Rho}
theorem Slot.same (s:Same H H')(h:Slot K F H i g v d):Slot K F H' i g v d:=by
 cases g with
 |fr=>
  obtain⟨p,e,o,h⟩:=h;refine⟨p,e,o,?_⟩;rcases h with⟨vs,ds,e1,e2,r⟩|⟨vs,ds,e1,e2,r⟩
  ·exact .inl ⟨vs,ds,e1,s _ _ e2,r.same s λ_ b=>b⟩
  ·exact .inr ⟨vs,ds,e1,s _ _ e2,r.same s λ_ b=>b⟩
 |od=>exact Rep.same s (λ_ b=>b) h
 |al=>exact Rep.same s (λ_ b=>b) h
 |nu=>exact Rep.same s (λ_ b=>b) h
theorem _root_.L2.Same.none (s:Same H H')(h:H' a=none):H a=none:=by
 cases e:H a with
 |none=>rfl
 |some o=>rw[s a o e]at h;cases h
theorem StOk.same (s:Same H H')(h:StOk K F H Y ρ):StOk K F H' Y ρ where
 ext:=λa o e=>s a o (h.ext a o e)
 aM:=λa e=>h.aM a (s.none e)
 own:=λa i e=>by
  obtain⟨h1,h3,h2⟩:=h.own a i e;refine⟨h1,h3,?_⟩;rcases h2 with⟨xs,h2⟩|⟨xs,h2⟩
  ·exact .inl ⟨xs,s _ _ h2⟩
  ·exact .inr ⟨xs,s _ _ h2⟩
 len:=h.len
 sl:=λi g d e=>by obtain⟨v,h1,h2⟩:=h.sl i g d e;exact⟨v,h1,h2.same s⟩
theorem nw.back (s:Same H H')(h:nw H' a):nw H a:=by
 cases a with
 |none=>exact h
 |some a=>exact s.none h
theorem nw.aM (hv:∀a,H a=none->F.V a)(h:nw H a):bP F a:=by
 cases a with
 |none=>exact h.elim
 |some a=>exact hv a h
theorem fR.aM (h:fR F a):bP F a:=by
 cases a with
 |none=>exact h
 |some a=>exact h.2
theorem Bin.aM (h:Bin F a):bP F a:=by
 cases a with
 |none=>exact h.elim
 |some a=>exact h.2.2
theorem BG.back (s:Same H H')(h:BG F H' g a):BG F H g a:=by
 cases g with
 |fr=>exact nw.back s h
 |od=>exact h
 |al=>exact h
 |nu=>exact h.elim (λh=>.inl (nw.back s h)) .inr
theorem BG.aM (hv:∀a,H a=none->F.V a)(h:BG F H g a):bP F a:=by
 cases g with
 |fr=>exact nw.aM hv h
 |od=>exact fR.aM h
 |al=>exact h
 |nu=>exact h.elim (nw.aM hv) Bin.aM
theorem Slot.rep (so:∀a i,F.O a=some i->F.V a)(h:Slot K F H i g v d):Rep K H (bP F) v d:=by
 cases g with
 |fr=>
  obtain⟨p,e,o,h⟩:=h;rcases h with⟨vs,ds,rfl,e2,r⟩|⟨vs,ds,rfl,e2,r⟩
  ·exact⟨p,vs,e,.inl ⟨e2,so _ _ o⟩,r.weak λ_ b=>b.aM⟩
  ·exact⟨p,vs,e,e2,so _ _ o,bC.same (λ_ _ e=>e) (λ_ b=>b.aM) r⟩
 |od=>exact Rep.weak (λ_ b=>b.aM) h
 |al=>exact h
 |nu=>exact Rep.weak (λ_ b=>Bin.aM b) h
theorem StOk.jU (h:StOk K F H Y ρ):∀a i,F.O a=some i->F.V a:=λa i e=>(h.own a i e).2.1
theorem StOk.rd (h:StOk K F H Y ρ){i:Nat}(e:Cn ρ[i]?=.ok x):∃v,Y[i]?=some (some v)/\Rep K H (BG F H x.1) v x.2:=by
 cases e1:ρ[i]? with
 |none=>rw[e1]at e;cases e
 |some o=>
  cases o with
  |none=>rw[e1]at e;cases e
  |some gd=>
   obtain⟨g,d⟩:=gd;rw[e1]at e;obtain⟨v,h1,h2⟩:=h.sl i g d e1;have e':=(Res.ok.inj e).symm;subst e';refine⟨v,h1,?_⟩;by_cases hi:aU d=true
   ·show Rep K H (BG F H (if aU d=true then _ else _)) v d;exact Rep.bG d hi (h2.rep h.jU)
   ·show Rep K H (BG F H (if aU d=true then _ else _)) v d;rw[vh hi];cases g with
    |fr=>exact h2.rep h.jU
    |od=>exact h2
    |al=>exact h2
    |nu=>exact Rep.weak (λ_ b=>.inr b) h2
end
structure Gm where
 N:List Str
 sc:Scope
 blk:Bool:=false
 free:List Str
 fns:List (Str×Nat)
 cst:List Str
 cm:Bool:=true
 xc:Option (Str×Str):=none
 sub:List (Str×Str×Bool):=[]
 rs:List Str:=[]
 iA:List (Str×Str):=[]
 kp:List Str:=[]
section
variable (Γ:Gm)
def fT (i:Nat)(x:Str):Bool:=(Γ.N[i]?==some x)&&(Γ.sc.names.lookup x==some .local||Γ.sc.names.lookup x==some .cell||Γ.sc.names.lookup x==some .free)&& !(x==("__debug__":Str))&& !(x==("__classdict__":Str))
def vV (x:Str):Bool:=(Γ.sc.names.lookup x==some .globalImplicit)&& !(x==("__debug__":Str))
def dS (x:Str):Bool:=vV Γ x&&Γ.free.contains x&& !(x==("__name__":Str))
def jV (i:Nat)(x:Str):Bool:=(Γ.N[i]?==some x)&&(Γ.sc.names.lookup x==some .local||(!Γ.blk&&Γ.sc.names.lookup x==some .cell))&&(!Γ.kp.contains x&&Γ.xc.all λp=>!(p.1==x))
def xc0:Bool:=Γ.xc.isNone&&Γ.kp.isEmpty
end
def tgIx:Tg->List Nat
 |.nm i=>[i]
 |.tp is=>is
def Cr (scope sc:Scope):Scope:={scope with names:=scope.names.map λ(n,k)=>if(k==.free&&sc.kind==.function&&sc.names.lookup n==some .cell)then(n,.cell)else(n,k)}
def plainT:Expr->Bool
 |.UnaryOp .Not _ _=>false
 |.BoolOp _ _ _=>false
 |.IfExp _ _ _ _=>false
 |.Compare _ _ _ _=>false
 |_=>true
def Ll:Expr->Bool
 |.Compare _ _ _ _=>true
 |_=>false
def z3h:Expr->Bool
 |.Slice _ _ _ _=>false
 |_=>true
def z2h:Expr->Bool
 |.Call (.Name _ _) [] [] _=>false
 |_=>true
def tG:Expr->Bool
 |.Set _ _ _=>false
 |_=>true
def isTup:Expr->Bool
 |.Tuple _ _ _=>true
 |_=>false
def FC:Expr->Option Str
 |.Name x _=>some x
 |_=>none
def fU:Expr->Option Const
 |.Constant v _ _=>some v
 |_=>none
def qO:Expr->Option (Expr×oa×Expr)
 |.BinOp l o r _=>some (l,o,r)
 |_=>none
def Cu:Expr->Option (UnaryOp×Expr)
 |.UnaryOp o x _=>some (o,x)
 |_=>none
def oI:Expr->Option (Expr×List CmpOp×List Expr)
 |.Compare l o r _=>some (l,o,r)
 |_=>none
def vW:Expr->Option (BoolOp×List Expr×Pos)
 |.BoolOp o xs p=>some (o,xs,p)
 |_=>none
def zV:Expr->Option (Expr×Expr×Expr)
 |.IfExp t x y _=>some (t,x,y)
 |_=>none
def qP:Expr->Option (List Expr)
 |.Tuple es _ _=>some es
 |_=>none
def qQ:Expr->Option (List Expr)
 |.List es _=>some es
 |_=>none
def Cv:Expr->Option (List (Option Expr)×List Expr)
 |.Dict k v _=>some (k,v)
 |_=>none
def lO:Expr->Option (Expr×Expr)
 |.Subscript x i _=>some (x,i)
 |_=>none
def zW:Expr->Option (Option Expr×Option Expr×Option Expr)
 |.Slice l h s _=>some (l,h,s)
 |_=>none
def FD:Expr->Option (Expr×List Expr×List qe×Pos)
 |.Call f es k p=>some (f,es,k,p)
 |_=>none
def FE:Expr->Option (Expr×Str×Pos)
 |.Attribute x n p=>some (x,n,p)
 |_=>none
def FF:Expr->Option (Expr×List Comprehension×Scope)
 |.ListComp el gs s _=>some (el,gs,s)
 |_=>none
def bH {α:Type}:List α->Option α
 | [x]=>some x
 |_=>none
def vX {α:Type}:List α->Option (α×α)
 | [x,y]=>some (x,y)
 |_=>none
def mR (e:Expr):Option (Str×List Expr):=(FD e).bind λv=>if v.2.2.1.isEmpty then(FC v.1).map λx=>(x,v.2.1)else none
def qR (e:Expr):Option (Expr×Str×List Expr×Bool):=(FD e).bind λv=>if v.2.2.1.isEmpty then(FE v.1).map λu=>(u.1,u.2.1,v.2.1,u.2.2.endLine==v.2.2.2.line)else none
def vY (f g:Expr->Bool)(o:BoolOp)(p:Pos):List Expr->Bool
 |x::y::r=>f x&&(if r.isEmpty then g y else g (.BoolOp o (y::r) p))
 |_=>false
def zX (n:Bool)(f:Expr->Bool):List Expr->Bool
 | []=>n
 |t::r=>r.isEmpty&&f t
def zY:C->Bool
 |.nil=>true
 |_=>false
def jC (f:Str->Bool)(e:Expr):Bool:=(FC e).any f
def FG (Γ:Gm):List Nat->List Expr->Bool
 | [],es=>es.isEmpty
 |i::is,es=>match es with|e::es=>jC (jV Γ i) e&&FG Γ is es| []=>false
def qS (Γ:Gm):Tg->Expr->Bool
 |.nm i,e=>jC (jV Γ i) e
 |.tp is,e=>Γ.cm&&(qP e).any (FG Γ is)
def Cw:oa->Bool
 |.Add|.Sub|.Mult|.FloorDiv|.Mod|.Pow=>true
 |_=>false
def z4y:CmpOp->Bool
 |.Is|.IsNot|.LtE=>false
 |_=>true
def FH (T:String):Bool:=tysB.contains T
def tyB (Γ:Gm)(T:String)(t:Expr):Bool:=jC (λx=>(x==Str.ofString T)&&dS Γ x&&FH T) t
def vZ:List String:=["list","tuple","dict"]
def SR:Tg->Bool
 |.nm _=>true
 |.tp _=>false
def Cy:C->Expr->Bool
 |.enum _,e=>isTup e
 |_,_=>true
def zZ (f:Expr->Bool)(e:Expr):Bool:=(qR e).any λm=>f m.1&&(m.2.1==("pop":Str))&&m.2.2.1.isEmpty&&m.2.2.2
mutual
def chkE (Γ:Gm):C->Expr->Bool
 |.var i,e=>jC (fT Γ i) e
 |.bA,e=>decide (fU e=some .none)
 |.bl b,e=>decide (fU e=some (.bool b))
 |.int i,e=>decide (fU e=some (.int i))
 |.str x,e=>decide (fU e=some (.str x))&&PyData.strOk x
 |.glob _ _,_=>false
 |.bin op a b,e=>(qO e).any λv=>decide (op=v.2.1)&&Cw op&&chkE Γ a v.1&&chkE Γ b v.2.2
 |.cmp op a b,e=>(oI e).any λv=>decide (v.2.1=[op])&&(bH v.2.2).any λr=>z4y op&& !(dw op r)&&chkE Γ a v.1&&chkE Γ b r
 |.jA ng a,e=>(oI e).any λv=>decide (v.2.1=[if ng then .IsNot else .Is])&&(bH v.2.2).any λr=>decide (fU r=some .none)&&chkE Γ a v.1
 |.and a b,e=>(vW e).any λv=>decide (v.1=.And)&&vY (λx=>chkE Γ a x) (λx=>chkE Γ b x) .And v.2.2 v.2.1
 |.or a b,e=>(vW e).any λv=>decide (v.1=.Or)&&vY (λx=>chkE Γ a x) (λx=>chkE Γ b x) .Or v.2.2 v.2.1
 |.not a,e=>(Cu e).any λv=>decide (v.1=.Not)&&chkE Γ a v.2
 |.oE c a b,e=>(zV e).any λv=>eV Γ c v.1&&chkE Γ a v.2.1&&chkE Γ b v.2.2
 |.tup xs,e=>(qP e).any λes=>decide (es.length<=1000)&&dU Γ xs es
 |.lst xs,e=>(qQ e).any λes=>decide (es.length<=1000)&&dU Γ xs es
 |.rep xs b,e=>(qO e).any λv=>decide (v.2.1=.Mult)&&(qQ v.1).any λes=>decide (es.length<=1000)&&dU Γ xs es&&chkE Γ b v.2.2
 |.fI,e=>(Cv e).any λv=>v.1.isEmpty&&v.2.isEmpty
 |.ix a b,e=>(lO e).any λv=>z3h v.2&&chkE Γ a v.1&&chkE Γ b v.2
 |.sl a lo hi,e=>(lO e).any λv=>(zW v.2).any λs=>s.2.2.isNone&&chkE Γ a v.1&&qT Γ lo s.1&&qT Γ hi s.2.1
 |.call k f args,e=>(mR e).any λv=>(Γ.cm&&(v.1==f))&&vV Γ v.1&&(Γ.fns[k]?==some (f,v.2.length))&&dU Γ args v.2&& !v.2.isEmpty
 |.bi f args,e=>(mR e).any λv=>(v.1==Str.ofString f)&&dS Γ v.1&&((["len","max","int"].contains f)&&(Γ.cm||f=="int"))&&dU Γ args v.2&& !v.2.isEmpty
 |.eD f a,e=>(mR e).any λv=>(v.1==Str.ofString f)&&dS Γ v.1&&(vZ.contains f&&Γ.cm)&&(bH v.2).any λy=>!isStar y&&wc Γ a y
 |.pI a ts,e=>(mR e).any λv=>(v.1==("isinstance":Str))&&dS Γ v.1&&(vX v.2).any λy=>!isStar y.1&&chkE Γ a y.1&&(bH ts).any λT=>tyB Γ T y.2
 |.mt m o args,e=>(qR e).any λv=>((v.2.1==Str.ofString m)&& ["get"].contains m&&z2h v.1&&v.2.2.2&&decide (v.2.2.1.length<20))&&chkE Γ o v.1&&dU Γ args v.2.2.1&& !v.2.2.1.isEmpty
 |.comp nt js N' tg it cond elt,e=>(FF e).any λv=>(bH v.2.1).any λg=>let FI:Gm:={Γ with N:=N',sc:=Cr v.2.2 Γ.sc,blk:=true,xc:=none,kp:=[]}
  ((Γ.cm&&(g.is_async==0))&&(tgIx tg).all (λi=>decide (i<nt))&&qF Γ.N Γ.sc v.2.2 N' nt js&&tG g.iter&&decide N'.Nodup)&&(qS FI tg g.target&&Cy it g.target)&&lP Γ it g.iter&&zX (zY cond) (λt=>eV FI cond t) g.ifs&&chkE FI elt v.1
 |.sortI i,e=>(mR e).any λv=>(Γ.cm&&(v.1==("sorted":Str)))&&dS Γ v.1&&(bH v.2).any λy=>(qR y).any λm=>jC (fT Γ i) m.1&&(m.2.1==("items":Str))&&m.2.2.1.isEmpty&&m.2.2.2
 |.vQ b x,e=>(mR e).any λv=>(v.1==("isinstance":Str))&&dS Γ v.1&&(vX v.2).any λy=>Γ.xc.any λz=>jC (λn=>(n==z.1)&&(Γ.sc.names.lookup n==some .local)&& !(n==("__debug__":Str))&& !(n==("__classdict__":Str))) y.1&&jC (λC=>(C==x)&&vV Γ C&&Γ.sub.contains (z.2,x,b)) y.2
 |.fM _,_=>false
 |.enum _,_=>false
 |.tv _,_=>false
 |.nil,_=>false
 |.cons _ _,_=>false
def eV (Γ:Gm):C->Expr->Bool
 |.and a b,e=>(vW e).any λv=>decide (v.1=.And)&&vY (λx=>eV Γ a x) (λx=>eV Γ b x) .And v.2.2 v.2.1
 |.or a b,e=>(vW e).any λv=>decide (v.1=.Or)&&vY (λx=>eV Γ a x) (λx=>eV Γ b x) .Or v.2.2 v.2.1
 |.not a,e=>(Cu e).any λv=>decide (v.1=.Not)&&eV Γ a v.2
 |.tv a,e=>(plainT e||Ll e)&&chkE Γ a e
 |_,_=>false
def dU (Γ:Gm):C->List Expr->Bool
 |.nil,es=>es.isEmpty
 |.cons a r,es=>match es with|e::es=>!isStar e&&chkE Γ a e&&dU Γ r es|_=>false
 |_,_=>false
def qT (Γ:Gm):C->Option Expr->Bool
 |.nil,e=>e.isNone
 |.tv a,e=>e.any λe=>chkE Γ a e
 |_,_=>false
def lP (Γ:Gm):C->Expr->Bool
 |.fM args,e=>(mR e).any λv=>(v.1==("range":Str))&&dS Γ v.1&&dU Γ args v.2&&(!v.2.isEmpty&&decide (v.2.length<=1))
 |.tv a,e=>tG e&&chkE Γ a e
 |.enum a,e=>(mR e).any λv=>(v.1==("enumerate":Str))&&dS Γ v.1&&(bH v.2).any λy=>!isStar y&&chkE Γ a y
 |_,_=>false
def wc (Γ:Gm):C->Expr->Bool
 |.tv a,e=>chkE Γ a e
 |_,_=>false
end
def lQ:C->Bool
 |_=>false
def z0 (Γ:Gm)(it:C)(tg ie:Expr):Bool:=Cy it tg&&lP Γ it ie
def x9:Stmt->Option (List Expr×Expr)
 |.Assign t v _=>some (t,v)
 |_=>none
def x':Stmt->Option Expr
 |.Expr v _=>some v
 |_=>none
def FJ:Stmt->Option (Option Expr)
 |.Return v _=>some v
 |_=>none
def FK:Stmt->Option (Expr×List Stmt×List Stmt)
 |.If t A B _=>some (t,A,B)
 |_=>none
def z4:Stmt->Option (Expr×Expr×List Stmt×List Stmt)
 |.For t i B o _=>some (t,i,B,o)
 |_=>none
mutual
def qU (Γ:Gm):S->Stmt->Bool
 |.bad,_=>true
 |.asg t e,s=>(x9 s).any λu=>(bH u.1).any λx=>qS Γ t x&& !lQ e&&(SR t||(!z1n u.2&& !isTup u.2))&&chkE Γ e u.2
 |.eK i k v,s=>(x9 s).any λu=>(bH u.1).any λx=>(lO x).any λw=>jC (fT Γ i) w.1&&z3h w.2&& !z1n u.2&&chkE Γ k w.2&&chkE Γ v u.2
 |.mut m i args,s=>(x' s).any λc=>(qR c).any λv=>(jC (fT Γ i) v.1&&(v.2.1==Str.ofString m)&& ["append"].contains m&&v.2.2.2&&decide (v.2.2.1.length<20))&& !v.2.2.1.isEmpty&&dU Γ args v.2.2.1
 |.drop e,s=>(x' s).any λv=>!z1n v&&chkE Γ e v
 |.ret e,s=>(FJ s).any λo=>o.any λv=>chkE Γ e v
 |.ifS c a b,s=>(FK s).any λv=>eV Γ c v.1&&chkL Γ a v.2.1&&chkL Γ b v.2.2
 |.bD t it b,s=>Γ.cm&&(z4 s).any λv=>qS Γ t v.1&&z0 Γ it v.1 v.2.1&&chkL Γ b v.2.2.1&&v.2.2.2.isEmpty
 |.pop j i,s=>(x9 s).any λu=>(bH u.1).any λx=>jC (jV Γ j) x&&zZ (jC (fT Γ i)) u.2
 |.nil,_=>false
 |.seq _ _,_=>false
def chkL (Γ:Gm):S->List Stmt->Bool
 |.nil,l=>l.isEmpty
 |.seq a b,l=>match l with|s::r=>qU Γ a s&&chkL Γ b r|_=>false
 |_,_=>false
end
def tD (K:W.Frag)(f:Rho->Res GD):TE:=λY H Q=>∃ρ F x,StOk K F H Y ρ/\f ρ=.ok x/\∀v H',Same H H'->Rep K H' (BG F H x.1) v x.2->Q v H'
def dZ (K:W.Frag)(f:Rho->Res Bool):TT:=λY H Q=>∃ρ F b,StOk K F H Y ρ/\f ρ=.ok b/\∀H',Same H H'->Q b H'
def tDO (K:W.Frag)(f:Rho->Res (Option Int)):TO:=λY H Q=>∃ρ F b,StOk K F H Y ρ/\f ρ=.ok b/\∀H',Same H H'->Q b H'
def eF (K:W.Frag)(F:Fm)(H H':Hp):List V->List GD->Prop
 |vs,[]=>vs=[]
 |vs,x::xs=>∃v r,vs=v::r/\Rep K H' (BG F H x.1) v x.2/\eF K F H H' r xs
def tDA (K:W.Frag)(f:Rho->Res (List GD)):TA:=λY H Q=>∃ρ F xs,StOk K F H Y ρ/\f ρ=.ok xs/\∀vs H',Same H H'->eF K F H H' vs xs->Q vs H'
theorem _root_.L2.PE.imp (h:PE X e t)(i:∀Y H Q,t' Y H Q->t Y H Q):PE X e t':=λpins s Y H Q I q=>h pins s Y H Q I (i Y H Q q)
theorem _root_.L2.PT.imp (h:PT X e t)(i:∀Y H Q,t' Y H Q->t Y H Q):PT X e t':=λpins s Y H Q I q=>h pins s Y H Q I (i Y H Q q)
theorem _root_.L2.PW.imp (h:PW X e t)(i:∀Y H Q,t' Y H Q->t Y H Q):PW X e t':=λwh pins s Y H Q I q=>h wh pins s Y H Q I (i Y H Q q)
theorem _root_.L2.PA.imp (h:PA X e t)(i:∀Y H Q,t' Y H Q->t Y H Q):PA X e t':=λpos pins s Y H Q I q=>h pos pins s Y H Q I (i Y H Q q)
theorem _root_.L2.PO.imp (h:PO X e t)(i:∀Y H Q,t' Y H Q->t Y H Q):PO X e t':=λpins s Y H Q I q=>h pins s Y H Q I (i Y H Q q)
theorem _root_.L2.PS.imp (h:PS X e t)(i:∀D Y H,t' D Y H->t D Y H):PS X e t':=λpins s Y H D I q=>h pins s Y H D I (i D Y H q)
theorem _root_.L2.PSs.imp (h:PSs X e t)(i:∀D Y H,t' D Y H->t D Y H):PSs X e t':=λpins s Y H D I q=>h pins s Y H D I (i D Y H q)
section
variable {K:W.Frag}{F:Fm}{H H1 H':Hp}
theorem eF.back:∀{vs:List V} {xs:List GD},Same H H1->eF K F H1 H' vs xs->eF K F H H' vs xs
 |vs,[],_,r=>r
 |vs,x::xs,s,r=>by obtain⟨v,t,e,h,q⟩:=r;exact⟨v,t,e,h.weak λ_ b=>b.back s,q.back s⟩
theorem eF.dW:∀{vs:List V} {xs:List GD},(∀x∈xs,∀a,BG F H x.1 a->B a)->eF K F H H' vs xs->Reps K H' B vs (xs.map (·.2))
 |vs,[],_,r=>r
 |vs,x::xs,hB,r=>by obtain⟨v,t,e,h,q⟩:=r;exact⟨v,t,e,h.weak (hB x az),q.dW λy hy=>hB y (bn _ hy)⟩
theorem eF.kL (hv:∀a,H a=none->F.V a)(r:eF K F H H' vs xs):Reps K H' (bP F) vs (xs.map (·.2)):=r.dW λ_ _ _ h=>h.aM hv
theorem ya (hv:∀a,H a=none->F.V a)(hx:x∈xs)(h:BG F H x.1 a):BG F H (bO xs) a:=by
 unfold bO;by_cases e:(xs.all λx=>x.1==.fr)=true
 ·rw[vg e];have:=(b8.mp e) x hx;have e1:x.1=.fr:=by simpa using this
  rw[e1]at h;exact h
 ·rw[vh e];split
  ·rename_i e2;have:=(b8.mp e2) x hx;rcases fj.mp this with e1|e1
   ·rw[eq_of_beq e1]at h;exact .inl h
   ·rw[eq_of_beq e1]at h;exact h
  ·exact h.aM hv
theorem FN (hv:∀a,H a=none->F.V a)(s:Same H H1)(h:nw H1 a):BG F H (bO xs) a:=by
 unfold bO;by_cases e:(xs.all λx=>x.1==.fr)=true
 ·rw[vg e];exact nw.back s h
 ·rw[vh e];split
  ·exact .inl (nw.back s h)
  ·exact(nw.back s h).aM hv
theorem tH (r:Rep K H' B v d)(h:∀a,B a->BG F H g a):Rep K H' (BG F H (gJ d g)) v d:=by
 unfold gJ;by_cases e:aU d=true
 ·rw[vg e];exact Rep.bG d e r
 ·rw[vh e];exact r.weak h
end
def qV (K:W.Frag)(m:D->D->Res D):R2:=λx y H Q=>∃Bx By dx dy d,Rep K H Bx x dx/\Rep K H By y dy/\m dx dy=.ok d/\∀w H',Same H H'->Rep K H' (λa=>nw H a\/Bx a\/By a) w d->Q w H'
def qW (X:Cx)(f:Value->Value->Sem Value)(m:D->D->Res D):Prop:=OpR X f (qV X.K m)
def we (K:W.Frag)(m:D->D->Res D):R2:=λx y H Q=>∃Bx By dx dy d,Rep K H Bx x dx/\Rep K H By y dy/\m dx dy=.ok d/\∀w H',Same H H'->Rep K H' (λa=>nw H a\/Bx a\/By a) w d->(∀ds,d=.list ds->imms ds=true->Rep K H' (nw H) w d)->Q w H'
def FO (X:Cx)(f:Value->Value->Sem Value)(m:D->D->Res D):Prop:=OpR X f (we X.K m)
theorem _root_.L2.OpR.imp (h:OpR X f r)(i:∀x y H Q,r' x y H Q->r x y H Q):OpR X f r':=λpins s Y H x y v u Q I rx ry q=>h pins s Y H x y v u Q I rx ry (i x y H Q q)
def zbr (K:W.Frag)(m:List D->Res D):List V->Hp->VK->Prop:=λxs H Q=>∃B ds d,Reps K H B xs ds/\m ds=.ok d/\∀w H',Same H H'->Rep K H' (λa=>nw H a\/B a) w d->Q w H'
theorem _root_.L2.CallR.imp (h:CallR X f r)(i:∀x H Q,r' x H Q->r x H Q):CallR X f r':=λpins s Y H x v Q I rx q=>h pins s Y H x v Q I rx (i x H Q q)
theorem SS (hx:PyData.strOk x=true)(hy:PyData.strOk y=true):PyData.strOk (x++y)=true:=by
 unfold PyData.strOk at *
 show(x.cps++y.cps).all _=true;rw[Array.all_append,hx,hy];rfl
theorem Cz:PyData.strOk x=true↔∀c∈x.cps.toList,c<0x110000:=by unfold PyData.strOk;rw[<-Array.all_toList];rw[b8];exact⟨λh c hc=>by simpa using h c hc,λh c hc=>by simpa using h c hc⟩
theorem Lm (hx:PyData.strOk x=true)(hc:c∈x.cps.toList):PyData.strOk ⟨#[c]⟩=true:=
 Cz.mpr λd hd=>by
  have e:d=c:=by simpa using hd
  rw[e];exact Cz.mp hx c hc
theorem lR (h:n<=bB):n<=bc:=cg h (by rw[df];unfold bB;decide)
theorem _root_.L2.bS.rel {K:W.Frag}(s:Same H H')(h:bS K H a xs):bS K H' a xs:=h.keep (B:=λ_=>True) λa o e _=>s a o e
section
variable {X:Cx}
def SU (K:W.Frag):R2:=λx y H Q=>∃l b xs zs,x=.ref l/\y=.ref b/\SqL K H l xs/\SqL K H b zs/\xs.length+zs.length<=bc/\∀p,H p=none->Q (.ref p) (upd H p (.lst (xs++zs)))
theorem SV:OpR X (gc .Add) (SU X.K):=by
 rintro pins s Y H x y v u Q I rx ry ⟨l,b,xs,zs,rfl,rfl,hH,hB,hz,q⟩
 cases rx;cases ry;obtain⟨its,r1,p1,_⟩:=I.list hH;obtain⟨dJ,r2,p2,_⟩:=I.list hB;obtain⟨⟨cls,dd,data,sl⟩,n,ho,hc,_,hd⟩:=p1;obtain⟨⟨zr,xZ,data2,qC⟩,n2,ho2,lA,_,hd2⟩:=p2;subst hc hd lA hd2;have cM:its.toArray.size+dJ.toArray.size<=bc:=by rw[ax,ax,<-r1.length,<-r2.length];exact hz
 refine oo ⟨_,ho,rfl⟩ ⟨_,ho2,rfl⟩ noFill_list_add seq_list_add PySem.F.slot_list_add PySem.F.entry_list_add (PySem.F.args_list_add_2 _ _) (list_addW l b its.toArray dJ.toArray n n2 dd xZ sl qC cM) ⟨ho,ho2,?_⟩;have ea:its.toArray++dJ.toArray=(its++dJ).toArray:=by simp
 rw[ea];exact⟨.ref _,_,I.lnew (r1.append r2) (au▸hz),rfl,q _ I.fresh⟩
def SW (K:W.Frag):R2:=λx y H Q=>∃a b ys,x=.ref a/\y=.ref b/\bS K H a []/\bS K H b ys/\Q (.ref b) H
theorem SX:OpR X (gc .Add) (SW X.K):=by
 rintro pins s Y H x y v u Q I rx ry ⟨l,b,zs,rfl,rfl,hH,hB,q⟩
 cases rx;cases ry;obtain⟨its,r1,p1,_⟩:=I.tuple hH;obtain⟨dJ,r2,p2,_⟩:=I.tuple hB;cases r1;obtain⟨⟨cls,dd,data,sl⟩,ho,hc,n,hd⟩:=p1;obtain⟨⟨zr,xZ,data2,qC⟩,ho2,lA,n2,hd2⟩:=p2;subst hc hd lA hd2;refine oo ⟨_,ho,rfl⟩ ⟨_,ho2,rfl⟩ og qp PySem.F.slot_tuple_add PySem.F.entry_tuple_add (PySem.F.args_tuple_add_2 _ _) (tuple_addW0 l b _ dJ.toArray n n2 dd xZ sl qC (by simp)) ⟨ho,ho2,?_⟩;exact⟨.ref b,H,I,rfl,q⟩
variable {K:W.Frag}{H:Hp}{B:Ad->Prop}{v:V}
theorem pJ (r:Rep K H B v (.list ds)):∃a vs,v=.ref a/\SqL K H a vs/\Reps K H B vs ds:=by
 obtain⟨a,vs,e,h,q⟩:=r;refine⟨a,vs,e,?_,q⟩;rcases h with⟨h,_⟩|⟨h|h,_⟩
 ·exact .inl (.inl h)
 ·exact .inl (.inr h)
 ·exact .inr h
theorem wg (hp:H p=none)(r:Reps K H B vs ds)(hB:∀a,B a->B' a)(hb:B' (some p)):Rep K (upd H p (.lst vs)) B' (.ref p) (.list ds):=⟨p,vs,rfl,.inl ⟨bE,hb⟩,r.same (Same.upd hp) hB⟩
theorem CA (hp:H p=none)(r:Reps K H B vs ds)(hB:∀a,B a->B' a):Rep K (upd H p (.tup vs)) B' (.ref p) (.tuple ds):=⟨p,vs,rfl,.inl (.inl bE),r.same (Same.upd hp) hB⟩
theorem fV {α:Type}{a:α}(h:(Res.no:Res α)=.ok a):False:=by cases h
theorem SY:FO X (gc .Add) (dD .Add):=by
 refine OpR.imp ((Sv.or SV).or SX) λx y H Q h=>?_;obtain⟨Bx,By,dx,dy,d,rx,ry,e,q⟩:=h;cases dx<;>try (exact(fV e).elim)
 all_goals cases dy<;>try (exact(fV e).elim)
 case int.int i j=>cases e;have e1:=rx;have e2:=ry;subst e1 e2;exact .inl (.inl (SD (q _ H (Same.refl H) rfl λds z=>by cases z)))
 case str.str i j=>
  have e1:=rx.1;have e2:=ry.1;subst e1 e2;have e:(if i.length+j.length<=bB then Res.ok (PyData.str (i++j))else Res.no)=Res.ok d:=e;split at e
  ·rename_i hl;cases e;exact .inl (.inl (SE (lR hl) (q _ H (Same.refl H) ⟨rfl,SS rx.2 ry.2⟩ λds z=>by cases z)))
  ·cases e
 case list.list xs ys=>
  have e:(if xs.length+ys.length<=bB then Res.ok (PyData.list (xs++ys))else Res.no)=Res.ok d:=e;split at e
  ·rename_i hl;cases e;obtain⟨a,vs,rfl,h1,q1⟩:=pJ rx;obtain⟨b,ws,rfl,h2,q2⟩:=pJ ry;refine .inl (.inr ⟨a,b,vs,ws,rfl,rfl,h1,h2,lR (by rw[q1.length,q2.length];exact hl),λp hp=>q _ _ (Same.upd hp) ?_ ?_⟩)
   ·exact wg hp (Reps.append (q1.weak λ_ z=>.inr (.inl z)) (q2.weak λ_ z=>.inr (.inr z))) (λ_ z=>z) (.inl hp)
   ·intro ds z hi;cases z;exact wg hp (Reps.bG _ hi (Reps.append (q1.weak (B':=λa=>nw H a\/Bx a\/By a) λ_ z=>.inr (.inl z)) (q2.weak λ_ z=>.inr (.inr z)))) (λ_ z=>z) hp
  ·cases e
 case tuple.tuple xs ys=>
  have e:(if xs.length+ys.length<=bB then Res.ok (PyData.tuple (xs++ys))else Res.no)=Res.ok d:=e;split at e
  ·rename_i hl;cases e;obtain⟨a,vs,rfl,h1,q1⟩:=rx;obtain⟨b,ws,rfl,h2,q2⟩:=ry;cases vs with
   |nil=>
    have:xs=[]:=by have:=q1.length;exact i8.mp this.symm
    subst this;exact .inr ⟨a,b,ws,rfl,rfl,h1,h2,q _ H (Same.refl H) ⟨b,ws,rfl,h2,q2.weak λ_ z=>.inr (.inr z)⟩ λds z=>by cases z⟩
   |cons v0 vr=>
    refine .inl (.inl (.inr (.inr (.inr ⟨a,b,v0::vr,ws,rfl,rfl,h1,h2,by simp,lR (by rw[q1.length,q2.length];exact hl),λz=>?_,λz p hp=>q _ _ (Same.upd hp) ?_ λds z=>by cases z⟩))))
    ·subst z;have:ys=[]:=by have:=q2.length;exact i8.mp this.symm
     subst this;rw[cr]at q;exact q _ H (Same.refl H) ⟨a,_,rfl,h1,q1.weak λ_ z=>.inr (.inl z)⟩ λds z=>by cases z
    ·exact CA hp (Reps.append (q1.weak λ_ z=>.inr (.inl z)) (q2.weak λ_ z=>.inr (.inr z))) (λ_ z=>z)
  ·cases e
theorem CB {gd:Int->Int->D}(h:OpR X f (rI Cc g))(hg:∀i j H B,Rep X.K H B (g i j) (gd i j))(hm:∀dx dy d,m dx dy=.ok d->∃i j,dx=.int i/\dy=.int j/\Cc i j/\d=gd i j):FO X f m:=by refine OpR.imp h λx y H Q h=>?_;obtain⟨Bx,By,dx,dy,d,rx,ry,e,q⟩:=h;obtain⟨i,j,rfl,rfl,c,rfl⟩:=hm dx dy d e;exact⟨i,j,rx,ry,c,q _ H (Same.refl H) (hg i j _ _) λ_ _ _=>hg i j _ _⟩
theorem S0 (h:OpR X f (nQ g)):OpR X f (rI (λ_ _=>True) g):=OpR.imp h λx y H Q ⟨i,j,e1,e2,_,q⟩=>⟨i,j,e1,e2,q⟩
theorem S1:OpR X (gc .FloorDiv) (rI (λ_ j=>0<j/\j<2 ^ 200) λi j=>.int (i/j)):=opI λi j _ _ _ _ _ hc q=>by
 refine floordiv_int (by omega) (by rw[Int.fdiv_eq_ediv_of_nonneg i (by omega)];exact q) (.inl (PyProof.noPylong_of_log2 ?_));have h2:j.natAbs<2 ^ 200:=by omega
 have h3:=(Nat.log2_lt (by omega)).mpr h2;omega
def S2:R2:=λx y H Q=>∃a n,x=.str a/\y=.int n/\(0<=n/\n<=bB/\a.length*n.toNat<=bB)/\Q (.str ⟨(kK n.toNat a.cps.toList).toArray⟩) H
theorem S3 {α:Type}(n:Nat):kK n ([]:List α)=[]:=by
 unfold kK
 induction n with
 |zero=>rfl
 |succ n ih=>rw[dt,gh,ih];rfl
theorem Ln (a:Array Nat):∀k acc,(ba k a).foldl (·++·) acc.toArray=(acc++kK k a.toList).toArray
 |0,acc=>by simp[kK]
 |k+1,acc=>by
  rw[dt,pc];have e:acc.toArray++a=(acc++a.toList).toArray:=by simp
  rw[e,Ln a k];rw[d8];rfl
theorem S4 (h:0<=n):Txt.mul a n=⟨(kK n.toNat a.cps.toList).toArray⟩:=by
 unfold Txt.mul;by_cases h1:n<1
 ·obtain rfl:n=0:=by omega
  rw[vg h1];rfl
 ·rw[vh h1];split
  ·rename_i h2;rcases fj.mp h2 with h2|h2
   ·obtain rfl:n=1:=vp h2;show a=⟨(a.cps.toList++[]).toArray⟩;rw[cr]
   ·have h3:a.cps.size=0:=vp h2;have h4:=i8.mp (iw▸h3);rw[h4,S3];have h5:a.cps=#[]:=by rw[<-p8 (xs:=a.cps),h4]
    cases a;cases h5;rfl
  ·have :=Ln a.cps n.toNat [];exact congrArg Str.mk this
theorem S5 (h:PyData.strOk a=true)(n:Nat):PyData.strOk ⟨(kK n a.cps.toList).toArray⟩=true:=by unfold PyData.strOk at h ⊢;rw[<-Array.all_toList,b8]at h ⊢;intro c hc;obtain⟨l,hl,iP⟩:=List.mem_flatten.mp hc;rw[(rq.mp hl).2]at iP;exact h c iP
theorem S6:OpR X (gc .Mult) S2:=by
 rintro pins s Y H x y v u Q I rx ry ⟨a,n,rfl,rfl,⟨h0,hn,h1⟩,q⟩
 obtain⟨t,rfl⟩:=rx;obtain⟨t',rfl⟩:=ry;unfold bB at hn h1;refine SB.mul (PyProof.Rows.mulOk_of a.length n.toNat (ag _) (by omega) (by omega) (by omega) (by omega)) λt2 k=>?_;rw[S4 h0];exact⟨.str _,H,I.tok _,⟨_,rfl⟩,q⟩
theorem Lo (op:oa)(h:Cw op=true):FO X (gc op) (dD op):=by
 cases op<;>try (cases h;done)
 case Add=>exact SY
 case Sub=>
  refine CB (S0 QV) (gd:=λi j=>.int (i-j)) (λ_ _ _ _=>rfl) λdx dy d e=>?_;cases dx<;>try (exact(fV e).elim)
  cases dy<;>try (exact(fV e).elim)
  cases e;simp_all
 case Mult=>
  refine OpR.imp (QW.or S6) λx y H Q h=>?_;obtain⟨Bx,By,dx,dy,d,rx,ry,e,q⟩:=h;cases dx<;>try (exact(fV e).elim)
  all_goals cases dy<;>try (exact(fV e).elim)
  case int.int i j=>
   have e:(if(-(2 ^ 64)<i/\i<2 ^ 64)\/(-(2 ^ 64)<j/\j<2 ^ 64)then Res.ok (PyData.int (i*j))else Res.no)=Res.ok d:=e;split at e
   ·rename_i hc;cases e;exact .inl ⟨i,j,rx,ry,hc,q _ H (Same.refl H) rfl λds z=>by cases z⟩
   ·cases e
  case str.int a n=>
   have e:(if 0<=n/\n<=bB/\a.length*n.toNat<=bB then Res.ok (PyData.str ⟨(kK n.toNat a.cps.toList).toArray⟩)else Res.no)=Res.ok d:=e;split at e
   ·rename_i hc;cases e;obtain⟨S7,S8⟩:=rx;exact .inr ⟨a,n,S7,ry,hc,q _ H (Same.refl H) ⟨rfl,S5 S8 _⟩ λds z=>by cases z⟩
   ·cases e
 case FloorDiv=>
  refine CB S1 (gd:=λi j=>.int (i/j)) (λ_ _ _ _=>rfl) λdx dy d e=>?_;cases dx<;>try (exact(fV e).elim)
  cases dy<;>try (exact(fV e).elim)
  rename_i i j;have e:(if 0<j/\j<2 ^ 200 then Res.ok (PyData.int (i/j))else Res.no)=Res.ok d:=e;split at e
  ·rename_i hc;cases e;simp_all
  ·cases e
 case Mod=>
  refine CB QX (gd:=λi j=>.int (i%j)) (λ_ _ _ _=>rfl) λdx dy d e=>?_;cases dx<;>try (exact(fV e).elim)
  cases dy<;>try (exact(fV e).elim)
  rename_i i j;have e:(if 0<j then Res.ok (PyData.int (i%j))else Res.no)=Res.ok d:=e;split at e
  ·rename_i hc;cases e;simp_all
  ·cases e
 case Pow=>
  refine CB QY (gd:=λi j=>.int (i ^ j.toNat)) (λ_ _ _ _=>rfl) λdx dy d e=>?_;cases dx<;>try (exact(fV e).elim)
  cases dy<;>try (exact(fV e).elim)
  rename_i i j;have e:(if 0<=j/\j<=1000/\i.natAbs<2 ^ 64 then Res.ok (PyData.int (i ^ j.toNat))else Res.no)=Res.ok d:=e;split at e
  ·rename_i hc;cases e;exact⟨_,_,rfl,rfl,⟨hc.1,by omega,hc.2.2⟩,rfl⟩
  ·cases e
end
section
variable {X:Cx}{pins:List (Addr×Obj)}{Y:L2.St}{H:Hp}{s:af}{B:Ad->Prop}
mutual
theorem Rep.reads (I:Inv X pins Y H s):∀{v:V} {u:Value} (d:ao) (n:Nat),aP n d=true->Rep X.K H B v d->RelV v u->(∃as,Reads s.heap u d as)/\d.canLay0=true/\d.depth<=n
 |v,u,.none,n,_,r,q=>by have e:v=.bA:=r;subst e;cases q;exact⟨⟨[],.none⟩,by simp only[PyData.canLay0],cz _⟩
 |v,u,.bool b,n,_,r,q=>by have e:v=.bl b:=r;subst e;cases q;exact⟨⟨[],.bool b⟩,by simp only[PyData.canLay0],cz _⟩
 |v,u,.int b,n,_,r,q=>by have e:v=.int b:=r;subst e;obtain⟨t,rfl⟩:=q;exact⟨⟨[],.int b t⟩,by simp only[PyData.canLay0],cz _⟩
 |v,u,.str b,n,_,r,q=>by obtain⟨e,ok⟩:v=.str b/\_:=r;subst e;obtain⟨t,rfl⟩:=q;exact⟨⟨[],.str b t⟩,by simp only[PyData.canLay0];exact ok,cz _⟩
 |v,u,.tuple ds,0,h,r,q=>by cases h
 |v,u,.list ds,0,h,r,q=>by cases h
 |v,u,.tuple ds,n+1,h,r,q=>by obtain⟨a,vs,e,h1,r1⟩:=r;subst e;cases q;obtain⟨its,rv,⟨o,ho,hc,k,hd⟩,_⟩:=I.tuple h1;obtain⟨⟨as,ra⟩,c,dp⟩:=Reps.reads I ds n (h) r1 rv;refine⟨⟨as,.tuple ho hc hd (by simpa using ra)⟩,by simp only[PyData.canLay0];exact c,?_⟩;simp only[PyData.depth];omega
 |v,u,.list ds,n+1,h,r,q=>by obtain⟨a,vs,e,h1,r1⟩:=pJ r;subst e;cases q;obtain⟨its,rv,⟨o,k,ho,hc,_,hd⟩,_⟩:=I.list h1;obtain⟨⟨as,ra⟩,c,dp⟩:=Reps.reads I ds n (h) r1 rv;refine⟨⟨a::as,.list ho hc hd (by simpa using ra)⟩,by simp only[PyData.canLay0];exact c,?_⟩;simp only[PyData.depth];omega
 |v,u,.dict es,n,h,r,q=>by cases n<;>cases h
theorem Reps.reads (I:Inv X pins Y H s):∀{vs:List V} {us:List Value} (ds:List ao) (n:Nat),cR n ds=true->Reps X.K H B vs ds->Vals vs us->(∃as,ReadsAll s.heap us ds as)/\PyData.canLayAll0 ds=true/\PyData.depthAll ds<=n
 |vs,us,[],n,_,r,q=>by have e:vs=[]:=r;subst e;cases q;exact⟨⟨[],.nil⟩,by simp only[PyData.canLayAll0],cz _⟩
 |vs,us,d::ds,n,h,r,q=>by
  obtain⟨v,t,e,h1,r1⟩:=r;subst e;rw[cR,br]at h;cases q with
  |cons q1 q2=>obtain⟨⟨as,ra⟩,c,dp⟩:=Rep.reads I d n h.1 h1 q1;obtain⟨⟨bs,rb⟩,c2,S9⟩:=Reps.reads I ds n h.2 r1 q2;refine⟨⟨as++bs,.cons ra rb⟩,by simp only[PyData.canLayAll0,c,c2,Bool.and_self],?_⟩;simp only[PyData.depthAll];exact Nat.max_le.mpr ⟨dp,S9⟩
end
end
section
variable {X:Cx}
def mB (m:D->D->Res Bool):D->D->Res D:=λx y=>m x y>>=λb=>.ok (.bool b)
theorem z5 (h:mB m x y=.ok d):∃b,m x y=.ok b/\d=.bool b:=by obtain⟨b,h1,h2⟩:=Res.aA h;exact⟨b,h1,(Res.ok.inj h2).symm⟩
theorem FP (hu:X.A.units+64<cLine):qW X (c0 .Eq) (mB (cmpD .Eq)):=by
 rintro pins s Y H x y v u Q I rx ry ⟨Bx,By,dx,dy,d,r1,r2,e,q⟩
 obtain⟨b,e',rfl⟩:=z5 e;have e:=e';have e:(if(aP 40 dx&&aP 40 dy)=true then Res.ok (cQ dx dy)else Res.no)=Res.ok b:=e;split at e
 ·rename_i hs;cases e;rw[br]at hs;obtain⟨⟨as,ra⟩,c1,p1⟩:=Rep.reads I dx 40 hs.1 r1 rx;obtain⟨⟨bs,rb⟩,c2,p2⟩:=Rep.reads I dy 40 hs.2 r2 ry;exact SeqAt.compareEq_reads ra rb c1 c2 (by omega) ⟨.bl _,H,I,rfl,q _ H (Same.refl H) rfl⟩
 ·cases e
theorem FQ (hu:X.A.units+64<cLine):qW X (c0 .NotEq) (mB (cmpD .NotEq)):=by
 rintro pins s Y H x y v u Q I rx ry ⟨Bx,By,dx,dy,d,r1,r2,e,q⟩
 obtain⟨b,e',rfl⟩:=z5 e;have e:=e';have e:(if(aP 40 dx&&aP 40 dy)=true then Res.ok (!cQ dx dy)else Res.no)=Res.ok b:=e;split at e
 ·rename_i hs;cases e;rw[br]at hs;obtain⟨⟨as,ra⟩,c1,p1⟩:=Rep.reads I dx 40 hs.1 r1 rx;obtain⟨⟨bs,rb⟩,c2,p2⟩:=Rep.reads I dy 40 hs.2 r2 ry;exact SeqAt.compareNe_reads ra rb c1 c2 (by omega) ⟨.bl _,H,I,rfl,q _ H (Same.refl H) rfl⟩
 ·cases e
theorem zl8 (h:OpR X (c0 op) r)(hI:∀i j b H Q,cmpD op (.int i) (.int j)=.ok b->Q (.bl b) H->r (.int i) (.int j) H Q)(hS:∀i j b H Q,cmpD op (.str i) (.str j)=.ok b->Q (.bl b) H->r (.str i) (.str j) H Q)
  (hm:∀dx dy b,cmpD op dx dy=.ok b->(∃i j,dx=.int i/\dy=.int j)\/∃i j,dx=.str i/\dy=.str j):qW X (c0 op) (mB (cmpD op)):=by
 refine OpR.imp h λx y H Q h=>?_;obtain⟨Bx,By,dx,dy,d,rx,ry,e,q⟩:=h;obtain⟨b,e',rfl⟩:=z5 e;have e:=e';rcases hm dx dy b e with⟨i,j,rfl,rfl⟩|⟨i,j,rfl,rfl⟩
 ·have e1:x=.int i:=rx;have e2:=ry;subst e1 e2;exact hI i j b H Q e (q _ H (Same.refl H) rfl)
 ·have e1:x=.str i:=rx.1;have e2:=ry.1;subst e1 e2;exact hS i j b H Q e (q _ H (Same.refl H) rfl)
theorem FR:qW X (c0 .Lt) (mB (cmpD .Lt)):=zl8 Fp (λi j b H Q e q=>by cases e;exact SF q) (λi j b H Q e q=>by cases e;exact SH q) λdx dy b e=>by cases dx<;>first|exact(fV e).elim|(cases dy<;>first|exact .inl ⟨_,_,rfl,rfl⟩|exact .inr ⟨_,_,rfl,rfl⟩|exact(fV e).elim)
theorem FT:qW X (c0 .Gt) (mB (cmpD .Gt)):=zl8 Fq (λi j b H Q e q=>by cases e;exact SG q) (λi j b H Q e q=>by cases e;exact SI q) λdx dy b e=>by cases dx<;>first|exact(fV e).elim|(cases dy<;>first|exact .inl ⟨_,_,rfl,rfl⟩|exact .inr ⟨_,_,rfl,rfl⟩|exact(fV e).elim)
theorem FU:qW X (c0 .GtE) (mB (cmpD .GtE)):=zl8 Q3 (λi j b H Q e q=>by cases e;exact⟨i,j,rfl,rfl,q⟩) (λi j b H Q e q=>by cases e) λdx dy b e=>by cases dx<;>first|exact(fV e).elim|(cases dy<;>first|exact .inl ⟨_,_,rfl,rfl⟩|exact .inr ⟨_,_,rfl,rfl⟩|exact(fV e).elim)
theorem bC.val {K:W.Frag}(k:Key):∀{kvs:List (Key×V)} {es:bY},bC K H B kvs es->match hZ es (kD k)with|some d=>∃v,cW kvs k=some v/\Rep K H B v d|none=>cW kvs k=none
 |kvs,[],r=>by have e:=r;subst e;exact rfl
 |kvs,(kd,d)::es,r=>by
  obtain⟨k',v,t,e,e2,ok,h,q⟩:=r;subst e e2;by_cases z:k'=k
  ·subst z
   have e1:hZ ((kD k',d)::es) (kD k')=some d:=by
    have:eqK (kD k') (kD k')=true:=by cases k'<;>simp[kD,eqK]
    unfold hZ;rw[ow (by exact this)];rfl
   rw[e1];exact⟨v,B7 rfl,h⟩
  ·have e0:eqK (kD k') (kD k)=false:=by
    rw[m9];intro w;apply z;cases k'<;>cases k<;>simp[kD,eqK]at w<;>rw[w]
   have e1:hZ ((kD k',d)::es) (kD k)=hZ es (kD k):=by unfold hZ;rw[List.find?_cons_of_neg (e0▸ce)]
   rw[e1,B8 z];exact bC.val k q
theorem z6 {K:W.Frag}(h:lF d=true)(r:Rep K H B v d):∃k,d=kD k/\v=kV k/\keyOk k:=by
 cases d<;>try (cases h;done)
 case int i=>exact⟨.inl i,rfl,r,True.intro⟩
 case str x=>exact⟨.inr x,rfl,r.1,r.2⟩
theorem zid (hu:X.A.units+64<cLine)(ng:Bool)(I:Inv X pins Y H s)(rx:RelV x v)(ry:RelV y u)
  (r1:Rep X.K H Bx x dx) (r2:Rep X.K H By y dy) (e:inD dx dy=.ok b) (q:Q (.bl (if ng then !b else b)) H):
  wpAny (model X.prog X.w) X.A (c0 (if ng then .NotIn else .In) v u) (EP X pins Y Q) X.xe s:=by
 cases dy<;>try (cases e;done)
 case list xs=>
  change(if(aP 40 dx&&cR 40 xs)=true then Res.ok (xs.any λy=>cQ y dx)else .no)=_ at e;split at e
  ·rename_i hs;cases e;rw[br]at hs;obtain⟨⟨as,ra⟩,c1,p1⟩:=Rep.reads I dx 40 hs.1 r1 rx;obtain⟨⟨bs,rb⟩,c2,p2⟩:=Rep.reads I (.list xs) 41 hs.2 r2 ry;have z7:PyData.canLayAll0 xs=true:=by simpa only[PyData.canLay0]using c2
   cases ng
   ·exact SeqAt.in_list_reads rb ra z7 c1 (by omega) ⟨.bl _,H,I,rfl,q⟩
   ·exact SeqAt.notIn_list_reads rb ra z7 c1 (by omega) ⟨.bl _,H,I,rfl,q⟩
  ·cases e
 case tuple xs=>
  change(if(aP 40 dx&&cR 40 xs)=true then Res.ok (xs.any λy=>cQ y dx)else .no)=_ at e;split at e
  ·rename_i hs;cases e;rw[br]at hs;obtain⟨⟨as,ra⟩,c1,p1⟩:=Rep.reads I dx 40 hs.1 r1 rx;obtain⟨⟨bs,rb⟩,c2,p2⟩:=Rep.reads I (.tuple xs) 41 hs.2 r2 ry;have z7:PyData.canLayAll0 xs=true:=by simpa only[PyData.canLay0]using c2
   cases ng
   ·exact SeqAt.in_tuple_reads rb ra z7 c1 (by omega) ⟨.bl _,H,I,rfl,q⟩
   ·exact SeqAt.notIn_tuple_reads rb ra z7 c1 (by omega) ⟨.bl _,H,I,rfl,q⟩
  ·cases e
 case dict es=>
  change(if lF dx=true then Res.ok (hZ es dx).isSome else .no)=_ at e;split at e
  ·rename_i hk;cases e;obtain⟨k,rfl,rfl,_⟩:=z6 hk r1;obtain⟨a,kvs,rfl,h1,_,h2⟩:=r2;cases ry;have hv:=h2.val k;have g:DGet H a (kV k) (cW kvs k):=DGet.k h1
   have hb:(cW kvs k).isSome=(hZ es (kD k)).isSome:=by
    cases e:hZ es (kD k)with
    |none=>rw[e]at hv;rw[show cW kvs k=none from hv];rfl
    |some d=>rw[e]at hv;obtain⟨v,hv,_⟩:=hv;rw[hv];rfl
   cases ng
   ·exact d_in (by omega) I g rx λs' I'=>⟨.bl _,H,I',rfl,by rw[hb];exact q⟩
   ·exact zjy (by omega) I g rx λs' I'=>⟨.bl _,H,I',rfl,by rw[hb];exact q⟩
  ·cases e
 case str z=>
  cases dx<;>try (cases e;done)
  rename_i w;have e1:=r1.1;have e2:=r2.1;subst e1 e2;change(match w.cps.toList with| [c]=>Res.ok (decide (c∈z.cps.toList))|_=>.no)=_ at e;split at e
  ·rename_i c hw;cases e
   have ew:w=⟨#[c]⟩:=by
    obtain⟨cps⟩:=w;have:cps=#[c]:=by rw[<-p8 (xs:=cps)];rw[show cps.toList=[c]from hw]
    rw[this]
   subst ew;cases ng
   ·exact Fs pins s Y H _ _ v u Q I rx ry (SJ q)
   ·exact Sw pins s Y H _ _ v u Q I rx ry (SK q)
  ·cases e
theorem FW (hu:X.A.units+64<cLine):qW X (c0 .In) (mB (cmpD .In)):=by
 rintro pins s Y H x y v u Q I rx ry ⟨Bx,By,dx,dy,d,r1,r2,e,q⟩
 obtain⟨b,e',rfl⟩:=z5 e;exact zid hu false I rx ry r1 r2 e' (q _ H (Same.refl H) rfl)
theorem S' (hu:X.A.units+64<cLine):qW X (c0 .NotIn) (mB (cmpD .NotIn)):=by
 rintro pins s Y H x y v u Q I rx ry ⟨Bx,By,dx,dy,d,r1,r2,e,q⟩
 obtain⟨b,e',rfl⟩:=z5 e;obtain⟨b',e1,e2⟩:=Res.aA e';cases e2;exact zid hu true I rx ry r1 r2 e1 (q _ H (Same.refl H) rfl)
theorem CC (hu:X.A.units+64<cLine)(op:CmpOp)(h:z4y op=true):qW X (c0 op) (mB (cmpD op)):=by
 cases op<;>try (cases h;done)
 ·exact FP hu
 ·exact FQ hu
 ·exact FR
 ·exact FT
 ·exact FU
 ·exact FW hu
 ·exact S' hu
end
section
variable {X:Cx}{a b c e:Expr}{es:List Expr}{fa fb fc:Rho->Res GD}{pos:Pos}
theorem CD (h:PE X e (tC v))(r:∀H B,Rep X.K H B v d):PE X e (tD X.K λ_=>.ok (.fr,d)):=PE.imp h λY H Q ⟨ρ,F,x,so,e,q⟩=>by cases e;exact q v H (Same.refl H) (r H _)
theorem Ta {i:Nat}(hN:X.N[i]?=some x)(hv:Vis X.env.scope x)(hd:aab x)(hcd:(x==("__classdict__":Str))=false):PE X (.Name x pos) (tD X.K λρ=>Cn ρ[i]?):=PE.imp (sS hN hv hd hcd) λY H Q ⟨ρ,F,x,so,e,q⟩=>by obtain⟨v,h1,h2⟩:=so.rd e;exact⟨v,h1,q v H (Same.refl H) h2⟩
theorem Lp {K:W.Frag}(r:Rep K H' B v d)(h:∀a,B a->BG F H g a)(n:∀ds,d=.list ds->imms ds=true->Rep K H' (nw H) v d):Rep K H' (BG F H (gN d g)) v d:=by
 cases d with
 |list ds=>
  show Rep K H' (BG F H (if imms ds=true then .fr else g)) v _;split
  ·rename_i hi;exact n ds rfl hi
  ·exact r.weak h
 |_=>exact tH r h
theorem Tb (ho:Cw op=true)(ha:PE X a (tD X.K fa))(hb:PE X b (tD X.K fb)):PE X (.BinOp a op b pos) (tD X.K λρ=>fa ρ>>=λx=>fb ρ>>=λy=>dD op x.2 y.2>>=λd=>.ok (gN d (bO [x,y]),d)):=
 PE.imp (EB (Lo op ho) ha hb) λY H Q ⟨ρ,F,z,so,e,q⟩=>by
  obtain⟨x,e1,e⟩:=Res.aA e;obtain⟨y,e2,e⟩:=Res.aA e;obtain⟨d,e3,e⟩:=Res.aA e;cases e;refine⟨ρ,F,x,so,e1,λv H1 s1 rv=>⟨ρ,F,y,so.same s1,e2,λu H2 s2 ru=>⟨_,_,x.2,y.2,d,rv.same s2 λ_ z=>z,ru,e3,λw H3 s3 bI nn=>q w H3 ((s1.trans s2).trans s3) (Lp bI (λa h=>?_) λds z hi=>(nn ds z hi).weak λ_ z=>nw.back (s1.trans s2) z)⟩⟩⟩;rcases h with h|h|h
  ·exact FN so.aM (s1.trans s2) h
  ·exact ya so.aM (by simp) h
  ·exact ya so.aM (by simp) (h.back s1)
theorem Lq (h:tD X.K (λρ=>fa ρ>>=λx=>fb ρ>>=λy=>cmpD op x.2 y.2>>=λb=>.ok (.fr,.bool b)) Y H Q):iO (qV X.K (mB (cmpD op))) (tD X.K fa) (tD X.K fb) Y H Q:=by obtain⟨ρ,F,z,so,e,q⟩:=h;obtain⟨x,e1,e⟩:=Res.aA e;obtain⟨y,e2,e⟩:=Res.aA e;obtain⟨d,e3,e⟩:=Res.aA e;cases e;exact⟨ρ,F,x,so,e1,λv H1 s1 rv=>⟨ρ,F,y,so.same s1,e2,λu H2 s2 ru=>⟨_,_,x.2,y.2,.bool d,rv.same s2 λ_ z=>z,ru,by show(cmpD op x.2 y.2>>=λb=>Res.ok (PyData.bool b))=_;rw[e3];rfl,λw H3 s3 bI=>q w H3 ((s1.trans s2).trans s3) bI⟩⟩⟩
theorem zu7 (hu:X.A.units+64<cLine)(ho:z4y op=true)(hm:dw op b=false)(ha:PE X a (tD X.K fa))(hb:PE X b (tD X.K fb)):
  PE X (.Compare a [op] [b] pos) (tD X.K λρ=>fa ρ>>=λx=>fb ρ>>=λy=>cmpD op x.2 y.2>>=λb=>.ok (.fr,.bool b)):=
 PE.imp (Kw (CC hu op ho) ha hb hm) λY H Q h=>Lq h
theorem FY (ht:∀Y H Q,tD X.K f Y H Q->t Y H Q)(hb:∀ρ x,f ρ=.ok x->∃c,x.2=.bool c)(Y:L2.St)(H:Hp)(Q:Bool->Hp->Prop)(h:dZ X.K (λρ=>f ρ>>=λx=>lH x.2) Y H Q):vw t Y H Q:=by obtain⟨ρ,F,c,so,e,q⟩:=h;obtain⟨x,e1,e⟩:=Res.aA e;obtain⟨k,e2⟩:=hb ρ x e1;rw[e2]at e;cases e;refine ht Y H _ ⟨ρ,F,x,so,e1,λv H' s r=>?_⟩;rw[e2]at r;exact⟨k,r,q H' s⟩
theorem Tc (e:(fa ρ>>=λx=>fb ρ>>=λy=>cmpD op x.2 y.2>>=λb=>Res.ok ((.fr,.bool b):GD))=.ok x):∃c,x.2=.bool c:=by obtain⟨x,e1,e⟩:=Res.aA e;obtain⟨y,e2,e⟩:=Res.aA e;obtain⟨d,e3,e⟩:=Res.aA e;cases e;exact⟨d,rfl⟩
theorem zs5 (hu:X.A.units+64<cLine)(ho:z4y op=true)(hm:dw op b=false)(ha:PE X a (tD X.K fa))(hb:PE X b (tD X.K fb)):
  PT X (.Compare a [op] [b] pos) (dZ X.K λρ=>(fa ρ>>=λx=>fb ρ>>=λy=>cmpD op x.2 y.2>>=λb=>Res.ok ((.fr,.bool b):GD))>>=λx=>lH x.2):=
 PT.imp (ED (CC hu op ho) ha hb hm) (FY (λY H Q h=>Lq h) λρ x e=>Tc e)
theorem Ls {K:W.Frag}(r:Rep K H B v d):decide (v=.bA)=(match d with|.none=>true|_=>false):=by
 cases d with
 |none=>have e:v=.bA:=r;subst e;rfl
 |bool b=>have e:v=.bl b:=r;subst e;rfl
 |int b=>have e:v=.int b:=r;subst e;rfl
 |str b=>have e:v=.str b:=r.1;subst e;rfl
 |tuple ds=>obtain⟨a,vs,e,_⟩:=r;subst e;rfl
 |list ds=>obtain⟨a,vs,e,_⟩:=r;subst e;rfl
 |dict ds=>obtain⟨a,vs,e,_⟩:=r;subst e;rfl
def qX (ng:Bool)(fa:Rho->Res GD):Rho->Res GD:=λρ=>fa ρ>>=λx=>.ok (.fr,.bool (match x.2 with|.none=>!ng|_=>ng))
theorem CF (h:tD X.K (qX ng fa) Y H Q):(if ng then BY (tD X.K fa)else pZ (tD X.K fa)) Y H Q:=by
 obtain⟨ρ,F,z,so,e,q⟩:=h;obtain⟨x,e1,e⟩:=Res.aA e;cases e;cases ng with
 |false=>
  refine⟨ρ,F,x,so,e1,λv H1 s1 rv=>?_⟩
  dsimp only
  rw[Ls rv];refine q _ H1 s1 ?_;obtain⟨g,d⟩:=x;cases d<;>rfl
 |true=>
  refine⟨ρ,F,x,so,e1,λv H1 s1 rv=>?_⟩
  dsimp only
  rw[Ls rv];refine q _ H1 s1 ?_;obtain⟨g,d⟩:=x;cases d<;>rfl
theorem Lu (e:qX ng fa ρ=.ok x):∃c,x.2=.bool c:=by obtain⟨x,e1,e⟩:=Res.aA e;cases e;exact⟨_,rfl⟩
theorem Td {j p2}(ho:o=if ng then .IsNot else .Is)(ha:PE X a (tD X.K fa)):PE X (.Compare a [o] [.Constant .none j p2] pos) (tD X.K (qX ng fa)):=by
 subst ho;cases ng with
 |false=>exact PE.imp (B2 (BZ ha)) λY H Q h=>CF h
 |true=>exact PE.imp (B2 (B1 ha)) λY H Q h=>CF h
theorem Tf {j p2}(ho:o=if ng then .IsNot else .Is)(ha:PE X a (tD X.K fa)):PT X (.Compare a [o] [.Constant .none j p2] pos) (dZ X.K λρ=>qX ng fa ρ>>=λx=>lH x.2):=by
 subst ho;cases ng with
 |false=>exact PT.imp (B3 (BZ ha)) (FY (λY H Q h=>CF h) λρ x e=>Lu e)
 |true=>exact PT.imp (B3 (B1 ha)) (FY (λY H Q h=>CF h) λρ x e=>Lu e)
def FZ (fa fb:Rho->Res GD):Rho->Res GD:=λρ=>fa ρ>>=λx=>match x.2 with|.bool c=>if c then fb ρ else .ok (.fr,.bool false)|_=>.no
def Th (fa fb:Rho->Res GD):Rho->Res GD:=λρ=>fa ρ>>=λx=>match x.2 with|.bool c=>if c then .ok (.fr,.bool true)else fb ρ|_=>.no
theorem CG (s1:Same H H1)(so:StOk X.K F H Y ρ)(e:f ρ=.ok x)(q:∀v H',Same H H'->Rep X.K H' (BG F H x.1) v x.2->Q v H'):tD X.K f Y H1 Q:=⟨ρ,F,x,so.same s1,e,λv H' s r=>q v H' (s1.trans s) (r.weak λ_ b=>b.back s1)⟩
theorem Lw {rest:List Expr}(ha:PE X a (tD X.K fa))(hb:PE X (.BoolOp .And (b::rest) pos) (tD X.K fb)):PE X (.BoolOp .And (a::b::rest) pos) (tD X.K (FZ fa fb)):=
 PE.imp (Ep ha hb) λY H Q ⟨ρ,F,z,so,e,q⟩=>by
  obtain⟨x,e1,e⟩:=Res.aA e;refine⟨ρ,F,x,so,e1,λv H1 s1 rv=>?_⟩;obtain⟨g,d⟩:=x;cases d<;>try (cases e;done)
  rename_i c;refine⟨c,rv,?_⟩;cases c with
  |true=>exact lE (CG s1 so e q)
  |false=>cases e;exact lD (q _ H1 s1 rfl)
theorem z8 {rest:List Expr}(ha:PE X a (tD X.K fa))(hb:PE X (.BoolOp .Or (b::rest) pos) (tD X.K fb)):PE X (.BoolOp .Or (a::b::rest) pos) (tD X.K (Th fa fb)):=
 PE.imp (QI ha hb) λY H Q ⟨ρ,F,z,so,e,q⟩=>by
  obtain⟨x,e1,e⟩:=Res.aA e;refine⟨ρ,F,x,so,e1,λv H1 s1 rv=>?_⟩;obtain⟨g,d⟩:=x;cases d<;>try (cases e;done)
  rename_i c;refine⟨c,rv,?_⟩;cases c with
  |false=>exact lD (CG s1 so e q)
  |true=>cases e;exact lE (q _ H1 s1 rfl)
theorem Lx {K:W.Frag}(r:Rep K H B v d)(e:lH d=.ok k):vx K v H k:=by
 cases d with
 |none=>cases e;have e1:v=.bA:=r;subst e1;exact rfl
 |bool b=>cases e;have e1:v=.bl b:=r;subst e1;exact rfl
 |int b=>cases e;have e1:v=.int b:=r;subst e1;show(!decide (b=0))=(b != 0);rw[bne,lf]
 |str b=>
  have e1:=r.1;subst e1;simp only[lH]at e;split at e
  ·rename_i hl;cases e;refine⟨lR hl,?_⟩;rw[bne,lf]
   congr 1
   rw[decide_eq_decide];omega
  ·cases e
 |tuple ds=>cases e;obtain⟨a,vs,e1,h,q⟩:=r;subst e1;refine .inr (.inl ⟨vs,h,?_⟩);show(!ds.isEmpty)=!vs.isEmpty;have:=q.length;cases vs<;>cases ds<;>simp at this ⊢
 |list ds=>cases e;obtain⟨a,vs,e1,h,q⟩:=pJ r;subst e1;refine .inl ⟨vs,h,?_⟩;show(!ds.isEmpty)=!vs.isEmpty;have:=q.length;cases vs<;>cases ds<;>simp at this ⊢
 |dict es=>
  cases e;obtain⟨a,kvs,e1,h,_,q⟩:=r;subst e1;refine .inr (.inr ⟨kvs,h,?_⟩);cases es with
  |nil=>have e2:kvs=[]:=q;subst e2;rfl
  |cons e0 er=>obtain⟨k,v,t,e2,_⟩:=q;subst e2;rfl
theorem Ti (ha:PE X a (tD X.K fa)):PE X (.UnaryOp .Not a pos) (tD X.K λρ=>fa ρ>>=λx=>lH x.2>>=λc=>.ok (.fr,.bool (!c))):=by
 rintro pins s Y H Q I ⟨ρ,F,z,so,e,q⟩
 obtain⟨x,e1,e⟩:=Res.aA e;obtain⟨k,e2,e⟩:=Res.aA e;cases e;refine UnaryOp_ (aO (ha pins s Y H (λv H1=>Same H H1/\Rep X.K H1 (BG F H x.1) v x.2) I ⟨ρ,F,x,so,e1,λv H1 s1 rv=>⟨s1,rv⟩⟩) λv s1 zz=>?_);obtain⟨y,H1,I1,r1,s2,rv⟩:=zz;exact not_of (aO (Kz pins s1 Y H1 y v (λb H2=>b=k/\H2=H1) I1 r1 ⟨k,Lx rv e2,rfl,rfl⟩) λb s2' ⟨H2,I2,eb,eH⟩=>by subst eb eH;exact⟨.bl _,H2,I2,rfl,q _ H2 s2 rfl⟩)
theorem Tj (ha:PE X e (tD X.K fa))(he:∀whole,ub e X.env whole=(do let v <-whole;standAt e.pos;vf [v] (truthy v))):PT X e (dZ X.K λρ=>fa ρ>>=λx=>lH x.2):=PT.imp (zg6 ha he) λY H Q ⟨ρ,F,k,so,e,q⟩=>by obtain⟨x,e1,e⟩:=Res.aA e;exact⟨ρ,F,x,so,e1,λv H1 s1 rv=>⟨k,Lx rv e,q H1 s1⟩⟩
section
variable {ta tb:Rho->Res Bool}{rest:List Expr}
theorem Ly (s1:Same H H1)(so:StOk X.K F H Y ρ)(e:f ρ=.ok x)(q:∀H',Same H H'->Q x H'):dZ X.K f Y H1 Q:=⟨ρ,F,x,so.same s1,e,λH' s=>q H' (s1.trans s)⟩
theorem w_and (ha:PT X a (dZ X.K ta))(hb:PW X (.BoolOp .And (b::rest) pos) (dZ X.K tb)):PW X (.BoolOp .And (a::b::rest) pos) (dZ X.K λρ=>ta ρ>>=λc=>if c then tb ρ else .ok false):=
 PW.imp (QH ha hb) λY H Q ⟨ρ,F,k,so,e,q⟩=>by
  obtain⟨x,e1,e⟩:=Res.aA e;refine⟨ρ,F,x,so,e1,λH1 s1=>?_⟩;cases x with
  |true=>exact lE (Ly s1 so e q)
  |false=>cases e;simp_all
theorem w_or (ha:PT X a (dZ X.K ta))(hb:PW X (.BoolOp .Or (b::rest) pos) (dZ X.K tb)):PW X (.BoolOp .Or (a::b::rest) pos) (dZ X.K λρ=>ta ρ>>=λc=>if c then .ok true else tb ρ):=
 PW.imp (Em ha hb) λY H Q ⟨ρ,F,k,so,e,q⟩=>by
  obtain⟨x,e1,e⟩:=Res.aA e;refine⟨ρ,F,x,so,e1,λH1 s1=>?_⟩;cases x with
  |false=>exact lD (Ly s1 so e q)
  |true=>cases e;simp_all
theorem z9 (ha:PT X a (dZ X.K ta)):PT X (.UnaryOp .Not a pos) (dZ X.K λρ=>ta ρ>>=λc=>.ok (!c)):=PT.imp (Kj ha) λY H Q ⟨ρ,F,k,so,e,q⟩=>by obtain⟨x,e1,e⟩:=Res.aA e;cases e;exact⟨ρ,F,x,so,e1,λH1 s1=>q H1 s1⟩
theorem Tn (hc:PT X c (dZ X.K ta))(ha:PE X a (tD X.K fa))(hb:PE X b (tD X.K fb)):PE X (.IfExp c a b pos) (tD X.K λρ=>ta ρ>>=λk=>if k then fa ρ else fb ρ):=
 PE.imp (QK hc ha hb) λY H Q ⟨ρ,F,z,so,e,q⟩=>by
  obtain⟨x,e1,e⟩:=Res.aA e;refine⟨ρ,F,x,so,e1,λH1 s1=>?_⟩;cases x with
  |true=>exact lE (CG s1 so e q)
  |false=>exact lD (CG s1 so e q)
end
theorem Lz:PA X [] (tDA X.K λ_=>.ok []):=PA.imp pF λY H Q ⟨ρ,F,z,so,e,q⟩=>by cases e;exact q [] H (Same.refl H) rfl
theorem LA (hs:isStar e=false)(ha:PE X e (tD X.K fa))(hr:PA X es (tDA X.K fs)):PA X (e::es) (tDA X.K λρ=>fa ρ>>=λx=>fs ρ>>=λxs=>.ok (x::xs)):=PA.imp (fQ ha hr hs) λY H Q ⟨ρ,F,z,so,e,q⟩=>by obtain⟨x,e1,e⟩:=Res.aA e;obtain⟨xs,e2,e⟩:=Res.aA e;cases e;refine⟨ρ,F,x,so,e1,λv H1 s1 rv=>⟨ρ,F,xs,so.same s1,e2,λvs H2 s2 rs=>q _ H2 (s1.trans s2) ?_⟩⟩;exact⟨v,vs,rfl,rv.same s2 λ_ z=>z,rs.back s1⟩
theorem To {x1}(h:PA X es (tDA X.K fs))(hl:∀ρ xs,fs ρ=.ok xs->xs.length<=bc):PE X (.Tuple es x1 pos) (tD X.K λρ=>fs ρ>>=λys=>.ok (gJ (.tuple (ys.map (·.2))) (bO ys),.tuple (ys.map (·.2)))):=PE.imp (KA h) λY H Q ⟨ρ,F,z,so,e,q⟩=>by obtain⟨ys,e1,e⟩:=Res.aA e;cases e;refine⟨ρ,F,ys,so,e1,λvs H1 s1 rs=>?_⟩;have r:=rs.dW λx hx a h=>ya so.aM hx h;refine⟨by rw[r.length,ac];exact hl ρ ys e1,λp hp=>q _ _ (s1.trans (Same.upd hp)) (tH (CA hp r λ_ z=>z) λ_ z=>z)⟩
theorem Tq (h:PA X es (tDA X.K fs))(hl:∀ρ xs,fs ρ=.ok xs->xs.length<=bc):PE X (.List es pos) (tD X.K λρ=>fs ρ>>=λys=>.ok (bO ys,.list (ys.map (·.2)))):=PE.imp (EG h) λY H Q ⟨ρ,F,z,so,e,q⟩=>by obtain⟨ys,e1,e⟩:=Res.aA e;cases e;refine⟨ρ,F,ys,so,e1,λvs H1 s1 rs=>?_⟩;have r:=rs.dW λx hx a h=>ya so.aM hx h;refine⟨by rw[r.length,ac];exact hl ρ ys e1,λp hp=>q _ _ (s1.trans (Same.upd hp)) (wg hp r (λ_ z=>z) (FN so.aM s1 hp))⟩
theorem Tr:PE X (.Dict [] [] pos) (tD X.K λ_=>.ok (.fr,.dict [])):=PE.imp KQ λY H Q ⟨ρ,F,z,so,e,q⟩=>by cases e;intro p hp;exact q _ _ (Same.upd hp) ⟨p,[],rfl,bE,hp,rfl⟩
end
theorem Ts {α:Type}(xs:List α)(i:Int):L2.dM xs i=Mi.dM xs i:=rfl
theorem Tu (n d:Nat)(o:Option Int):HT.aX n d o=Mi.aX n d o:=by cases o<;>rfl
theorem Reps.cut {K:W.Frag}(lo hi:Option Int)(r:Reps K H B vs ds):Reps K H B (Mi.cut vs lo hi) (Mi.cut ds lo hi):=by unfold Mi.cut;rw[r.length];exact(r.drop _).take _
theorem Reps.dM {K:W.Frag}(r:Reps K H B vs ds)(e:Mi.dM ds i=some d):∃v,L2.dM vs i=some v/\Rep K H B v d:=by
 unfold Mi.dM at e;cases e1:Mi.jK ds.length i with
 |none=>rw[e1]at e;cases e
 |some j=>rw[e1]at e;obtain⟨v,h1,h2⟩:=r.get e;refine⟨v,?_,h2⟩;rw[Ts];unfold Mi.dM;rw[r.length,e1];exact h1
section
variable {X:Cx}{a b c e:Expr}{es:List Expr}{fa fb fc:Rho->Res GD}{pos:Pos}
theorem Tv (hu:X.A.units+64<cLine):mQ X (λx y H Q=>∃a v,x=.ref a/\DGet H a y (some v)/\Q v H):=by intro value slice pins s Y H x y v u Q I rx ry h hs;obtain⟨a,z,rfl,g,q⟩:=h;cases rx;exact tail_any (Rk I g) PySem.F.slot_dict_getitem.lookup (zdn (by omega) I g ry λw' s' I' bI=>⟨z,H,I',bI,q⟩) hs
def oJ (K:W.Frag):R2:=λx y H Q=>∃B B' dx dy d,Rep K H B x dx/\Rep K H B' y dy/\jB dx dy=.ok d/\∀w,Rep K H B w d->Q w H
theorem LB (hu:X.A.units+64<cLine):mQ X (oJ X.K):=by
 intro value slice pins s Y H x y v u Q I rx ry h hs;refine(Sx.or (Tv hu)) value slice pins s Y H x y v u Q I rx ry ?_ hs;obtain⟨B,B',dx,dy,d,r1,r2,e,q⟩:=h;cases dx<;>try (cases e;done)
 case list xs=>
  cases dy<;>try (cases e;done)
  rename_i i;subst r2;obtain⟨a,vs,rfl,h1,q1⟩:=pJ r1;change Res.iZ (Mi.dM xs i)=_ at e;cases e3:Mi.dM xs i with
  |none=>rw[e3]at e;cases e
  |some d'=>rw[e3]at e;cases e;obtain⟨w,h3,h4⟩:=q1.dM e3;exact .inl (.inl ⟨a,vs,i,w,rfl,rfl,h1,h3,q w h4⟩)
 case tuple xs=>
  cases dy<;>try (cases e;done)
  rename_i i;subst r2;obtain⟨a,vs,rfl,h1,q1⟩:=r1;change Res.iZ (Mi.dM xs i)=_ at e;cases e3:Mi.dM xs i with
  |none=>rw[e3]at e;cases e
  |some d'=>rw[e3]at e;cases e;obtain⟨w,h3,h4⟩:=q1.dM e3;exact .inl (.inr (.inl ⟨a,vs,i,w,rfl,rfl,h1,h3,q w h4⟩))
 case str z=>
  cases dy<;>try (cases e;done)
  rename_i i;have e1:=r1.1;subst e1 r2;change(if z.length<=bB then Res.iZ ((Mi.dM z.cps.toList i).map λc=>PyData.str ⟨#[c]⟩)else .no)=_ at e;split at e
  ·rename_i hl;cases e3:Mi.dM z.cps.toList i with
   |none=>rw[e3]at e;cases e
   |some c=>
    rw[e3]at e;cases e
    have hc:c∈z.cps.toList:=by
     unfold Mi.dM at e3;cases e4:Mi.jK z.cps.toList.length i with
     |none=>rw[e4]at e3;cases e3
     |some j=>rw[e4]at e3;exact cj e3
    exact .inl (.inr (.inr ⟨z,i,c,rfl,rfl,lR hl,e3,q _ ⟨rfl,Lm r1.2 hc⟩⟩))
  ·cases e
 case dict es=>
  change(if lF _=true then Res.iZ (hZ es _)else Res.no)=_ at e;split at e
  ·rename_i hk;obtain⟨k,rfl,rfl,_⟩:=z6 hk r2;obtain⟨a,kvs,rfl,h1,_,h2⟩:=r1;have hv:=h2.val k;cases e3:hZ es (kD k)with
   |none=>rw[e3]at e;cases e
   |some d'=>rw[e3]at e hv;cases e;obtain⟨w,h3,h4⟩:=hv;exact .inr ⟨a,w,rfl,by rw[<-h3];exact DGet.k h1,q w h4⟩
  ·cases e
theorem F3 (h:z3h i=true):K2 i:=λo v=>by cases i<;>first|rfl|cases h
theorem d_ix (hu:X.A.units+64<cLine)(hs:z3h i=true)(ha:PE X a (tD X.K fa))(hb:PE X i (tD X.K fb)):
  PE X (.Subscript a i pos) (tD X.K λρ=>fa ρ>>=λx=>fb ρ>>=λy=>jB x.2 y.2>>=λd=>.ok (gJ d x.1,d)):=
 PE.imp (EN (LB hu) ha hb (F3 hs)) λY H Q ⟨ρ,F,z,so,e,q⟩=>by obtain⟨x,e1,e⟩:=Res.aA e;obtain⟨y,e2,e⟩:=Res.aA e;obtain⟨d,e3,e⟩:=Res.aA e;cases e;exact⟨ρ,F,x,so,e1,λv H1 s1 rv=>⟨ρ,F,y,so.same s1,e2,λu H2 s2 ru=>⟨_,_,x.2,y.2,d,rv.same s2 λ_ z=>z,ru,e3,λw bI=>q w H2 (s1.trans s2) (tH bI λ_ z=>z)⟩⟩⟩
theorem Tw (h:PyData.strOk z=true)(lo hi:Option Int):PyData.strOk (vR z lo hi)=true:=
 Cz.mpr λc hc=>Cz.mp h c (by
  have:c∈Mi.cut z.cps.toList lo hi:=by simpa[vR]using hc
  exact List.mem_of_mem_drop (List.mem_of_mem_take this))
theorem LC (lo hi:Option Int)(n:Nat):gk lo hi 1 n=sliceRange ((Mi.aX n 0 lo:Nat):Int) ((Mi.aX n n hi:Nat):Int) 1:=by
 delta gk
 simp
 congr 1
 ·cases lo with
  |none=>rfl
  |some v=>
   simp only[Mi.aX];by_cases h:v<0
   ·simp only[vg h];omega
   ·simp only[vh h];omega
 ·cases hi with
  |none=>rfl
  |some v=>
   simp only[Mi.aX];by_cases h:v<0
   ·simp only[vg h];omega
   ·simp only[vh h];omega
theorem Tz (n d:Nat)(hd:d<=n)(o:Option Int):Mi.aX n d o<=n:=by rw[<-Tu];exact HT.nT n d hd o
theorem TB (z:Str)(lo hi:Option Int):Txt.slice z lo hi=vR z lo hi:=by
 have hn:z.cps.toList.length=z.length:=by simp[Str.length]
 have e:(gk lo hi 1 z.length).filterMap (z.cps[·]?)=Mi.cut z.cps.toList lo hi:=by rw[LC,p7,pick_run];unfold Mi.cut;rw[hn]
 have hl:(gk lo hi 1 z.length).length=Mi.aX z.length z.length hi-Mi.aX z.length 0 lo:=by rw[LC,p7,ac,d9]
 unfold Txt.slice;split
 ·rename_i hc;simp at hc;have h2:=Tz z.length z.length (ag _) hi
  have e2:Mi.cut z.cps.toList lo hi=z.cps.toList:=by
   unfold Mi.cut;rw[hn];by_cases h0:Mi.aX z.length 0 lo=0
   ·rw[h0,List.drop_zero,k8 (by grind)]
   ·have hz:z.length=0:=by omega
    have:z.cps.toList=[]:=i8.mp (hn▸hz);rw[this];simp
  unfold vR;rw[e2]
 ·unfold vR;rw[<-e]
def F5 (K:W.Frag):V->Option Int->Option Int->Hp->VK->Prop:=λx lo hi H Q=>∃B dx d,Rep K H B x dx/\zO dx lo hi=.ok d/\∀w H',Same H H'->Rep K H' (λa=>nw H a\/B a) w d->(∀ds,d=.list ds->imms ds=true->Rep K H' (nw H) w d)->Q w H'
theorem TC:pH X (F5 X.K):=by
 intro pins s Y H x v vl vu lo hi sl Q I rx hs pl pu h;refine(Sy.or RB) pins s Y H x v vl vu lo hi sl Q I rx hs pl pu ?_;obtain⟨B,dx,d,r,e,q⟩:=h;cases dx<;>try (cases e;done)
 case list xs=>cases e;obtain⟨a,vs,rfl,h1,q1⟩:=pJ r;refine .inl (.inl ⟨a,vs,rfl,h1,λp hp=>?_⟩);exact q _ _ (Same.upd hp) (wg hp (q1.cut lo hi) (λ_ z=>.inr z) (.inl hp)) λds z F6=>by cases z;exact wg hp (Reps.bG _ F6 (q1.cut lo hi)) (λ_ z=>z) hp
 case tuple xs=>
  change(if aX xs.length 0 lo=0/\aX xs.length xs.length hi=xs.length then Res.no else Res.ok (PyData.tuple (cut xs lo hi)))=_ at e;split at e
  ·cases e
  ·rename_i hw;cases e;obtain⟨a,vs,rfl,h1,q1⟩:=r;refine .inr ⟨a,vs,rfl,h1,by rw[q1.length];exact hw,λp hp=>?_⟩;exact q _ _ (Same.upd hp) (CA hp (q1.cut lo hi) λ_ z=>.inr z) λds z=>by cases z
 case str z=>
  change(if z.length<=bB then Res.ok (PyData.str (vR z lo hi))else .no)=_ at e;split at e
  ·rename_i hl;cases e;have e1:=r.1;subst e1;refine .inl (.inr ⟨z,rfl,lR hl,?_⟩);rw[TB];exact q _ H (Same.refl H) ⟨rfl,Tw r.2 lo hi⟩ λds z=>by cases z
  ·cases e
theorem yb:PO X none (tDO X.K λ_=>.ok none):=PO.imp Rw λY H Q ⟨ρ,F,z,so,e,q⟩=>by cases e;exact q H (Same.refl H)
theorem TF (ha:PE X a (tD X.K fa)):PO X (some a) (tDO X.K λρ=>fa ρ>>=λx=>vS x.2):=
 PO.imp (Rx ha) λY H Q ⟨ρ,F,z,so,e,q⟩=>by
  obtain⟨x,e1,e⟩:=Res.aA e;refine⟨ρ,F,x,so,e1,λv H1 s1 rv=>?_⟩;obtain⟨g,d⟩:=x;cases d<;>try (cases e;done)
  cases e;exact⟨_,rv,q H1 s1⟩
theorem d_sl {lo:Option Expr}(ha:PE X a (tD X.K fa))(hl:PO X lo (tDO X.K fl))(hh:PO X hi (tDO X.K fh)):
  PE X (.Subscript a (.Slice lo hi none p2) pos) (tD X.K λρ=>fa ρ>>=λx=>fl ρ>>=λl=>fh ρ>>=λh=>zO x.2 l h>>=λd=>.ok (gN d (bO [x]),d)):=
 PE.imp (RA TC ha hl hh) λY H Q ⟨ρ,F,z,so,e,q⟩=>by
  obtain⟨x,e1,e⟩:=Res.aA e;obtain⟨l,e2,e⟩:=Res.aA e;obtain⟨h,e3,e⟩:=Res.aA e;obtain⟨d,e4,e⟩:=Res.aA e;cases e;refine⟨ρ,F,x,so,e1,λv H1 s1 rv=>⟨ρ,F,l,so.same s1,e2,λH2 s2=>⟨ρ,F,h,so.same (s1.trans s2),e3,λH3 s3=>⟨_,x.2,d,rv.same (s2.trans s3) λ_ z=>z,e4,λw H4 s4 bI nn=>q w H4 ((s1.trans (s2.trans s3)).trans s4) (Lp bI (λa h=>?_) λds z hi=>(nn ds z hi).weak λ_ z=>nw.back (s1.trans (s2.trans s3)) z)⟩⟩⟩⟩;rcases h with h|h
  ·exact FN so.aM (s1.trans (s2.trans s3)) h
  ·exact ya so.aM (by simp) h
theorem Reps.pick {K:W.Frag}(r:Reps K H B vs ds):∀is:List Nat,Reps K H B (is.filterMap (vs[·]?)) (is.filterMap (ds[·]?))
 | []=>rfl
 |i::is=>by
  rw[cx,cx];cases h:ds[i]? with
  |some d=>obtain⟨v,h1,h2⟩:=r.get h;rw[h1];exact Reps.cons h2 (Reps.pick r is)
  |none=>
   have:vs[i]?=none:=by rw[mx]at h ⊢;rw[r.length];exact h
   rw[this];exact Reps.pick r is
theorem Vals.pick (r:Vals vs us):∀is:List Nat,Vals (is.filterMap (vs[·]?)) (is.filterMap (us[·]?))
 | []=>.nil
 |i::is=>by
  rw[cx,cx];cases h:vs[i]? with
  |some d=>obtain⟨v,h1,h2⟩:=r.get h;rw[h1];exact .cons h2 (Vals.pick r is)
  |none=>
   have:us[i]?=none:=by rw[mx]at h ⊢;rw[<-r.length];exact h
   rw[this];exact Vals.pick r is
theorem d_cB {id:String}(hc:CallR X (.builtin id) (zbr X.K m))(hm:X.mg x=none)(hv:dg x=some (.builtin id))(ha:PA X (e::es) (tDA X.K fs))(hst:((e::es).all fun e=>!isStar e)=true)(hg:Gl X x)(hn:x≠"__name__")(hdb:aab x):
  PE X (.Call (.Name x p) (e::es) [] pos) (tD X.K λρ=>fs ρ>>=λys=>m (ys.map (·.2))>>=λd=>.ok (gJ d .al,d)):=
 PE.imp (Fh hc hm hv ha hst hg hn hdb) λY H Q ⟨ρ,F,z,so,e,q⟩=>by obtain⟨ys,e1,e⟩:=Res.aA e;obtain⟨d,e2,e⟩:=Res.aA e;cases e;exact⟨ρ,F,ys,so,e1,λvs H1 s1 rs=>⟨_,_,d,rs.kL so.aM,e2,λw H2 s2 bI=>q w H2 (s1.trans s2) (tH bI λa h=>h.elim (λz=>(nw.back s1 z).aM so.aM) λz=>z)⟩⟩
theorem bC.length {K:W.Frag}:∀{kvs:List (Key×V)} {es:bY},bC K H B kvs es->kvs.length=es.length
 |kvs,[],r=>by have e:kvs=[]:=r;subst e;rfl
 |kvs,(kd,d)::es,r=>by obtain⟨k,v,t,rfl,_,_,_,q⟩:=r;rw[bv,bv,q.length]
theorem Ab {K:W.Frag}(r:Reps K H B xs [d]):∃v,xs=[v]/\Rep K H B v d:=by obtain⟨v,t,e,h,q⟩:=r;subst e q;exact⟨v,rfl,h⟩
theorem F7 {K:W.Frag}(r:Reps K H B xs [d,d']):∃v v',xs=[v,v']/\Rep K H B v d/\Rep K H B v' d':=by obtain⟨v,t,e,h,q⟩:=r;obtain⟨v',e2,h'⟩:=Ab q;subst e e2;exact⟨v,v',rfl,h,h'⟩
theorem TH:CallR X (.builtin "len") (zbr X.K (lI "len")):=by
 refine CallR.imp (Sz.or R5) λxs H Q h=>?_;obtain⟨B,ds,d,r,e,q⟩:=h;simp only[lI,if_true]at e;split at e
 ·rename_i x;obtain⟨v,rfl,r1⟩:=Ab r;clear r;have r:=r1;cases x<;>try (cases e;done)
  case str z=>
   change(if z.length<=bB then Res.ok (PyData.int z.length)else .no)=_ at e;split at e
   ·rename_i hl;cases e;have e1:=r.1;subst e1;exact .inl (.inl ⟨z,rfl,lR hl,q _ H (Same.refl H) rfl⟩)
   ·cases e
  case tuple ds=>cases e;obtain⟨a,vs,rfl,h1,q1⟩:=r;exact .inl (.inr ⟨a,vs,rfl,.inr h1,q _ H (Same.refl H) (q1.length▸rfl)⟩)
  case list ds=>cases e;obtain⟨a,vs,rfl,h1,q1⟩:=pJ r;exact .inl (.inr ⟨a,vs,rfl,.inl h1,q _ H (Same.refl H) (q1.length▸rfl)⟩)
  case dict ds=>cases e;obtain⟨a,vs,rfl,h1,_,q1⟩:=r;exact .inr ⟨a,vs,rfl,h1,q _ H (Same.refl H) (q1.length▸rfl)⟩
 ·cases e
theorem TJ (hc:X.calm=true):CallR X (.builtin "max") (zbr X.K (lI "max")):=by
 refine CallR.imp (Q8 hc) λxs H Q h=>?_;obtain⟨B,ds,d,r,e,q⟩:=h;simp only[lI,show("max":String)≠"len" by decide,if_true,if_false]at e;split at e
 ·rename_i i j;cases e;obtain⟨v,v',rfl,h1,h2⟩:=F7 r;subst h1 h2;refine⟨i,j,rfl,q _ H (Same.refl H) ?_⟩
  congr 1
  split<;>omega
 ·cases e
theorem zh0 (I:Inv X pins Y H s)(rx:RelV x u)(r:Rep X.K H B x d)(hT:T∈tysB)
  (h:∀tk,Q (.bool (lJ (iR d) T)) {s with toks:=tk}):wpAny (model X.prog X.w) A (call (.builtin "isinstance") [u,.type T]) Q E s:=by
 have ht:iR d∈qJ:=by cases d<;>simp[iR,qJ]
 have e:=SA X.K _ ht T hT;cases d with
 |none=>have e1:x=.bA:=r;subst e1;exact z2j I rx .bA e h
 |bool b=>have e1:x=.bl b:=r;subst e1;exact z2j I rx (.bl b) e h
 |int b=>have e1:x=.int b:=r;subst e1;exact z2j I rx (.int b) e h
 |str b=>have e1:x=.str b:=r.1;subst e1;exact z2j I rx (.str b) e h
 |tuple ds=>obtain⟨a,vs,rfl,h1,_⟩:=r;cases rx;obtain⟨_,_,⟨o,ho,hc,_⟩,_⟩:=I.tuple h1;exact W.kia_one W.kitx_tuple I.fF ⟨o,ho,hc⟩ e (λz=>nomatch z) h
 |list ds=>obtain⟨a,vs,rfl,h1,_⟩:=pJ r;cases rx;obtain⟨_,_,⟨o,_,ho,hc,_⟩,_⟩:=I.list h1;exact W.kia_one W.kitx_list I.fF ⟨o,ho,hc⟩ e (λz=>nomatch z) h
 |dict es=>obtain⟨a,vs,rfl,h1,_⟩:=r;exact z2j I rx (.dK h1) e h
def F9 (K:W.Frag):List V->Hp->VK->Prop:=λxs H Q=>∃B x d T,xs=[x,.ty T]/\Rep K H B x d/\T∈tysB/\Q (.bl (lJ (iR d) T)) H
theorem TK:CallR X (.builtin "isinstance") (F9 X.K):=by
 rintro pins s Y H xs us Q I r ⟨B,x,d,T,rfl,rx,hT,q⟩
 obtain⟨u,w',rfl,r1,r2⟩:=vals2 r;obtain rfl:w'=Value.type T:=r2;exact zh0 I r1 rx hT λtk=>⟨.bl _,H,I.tok _,rfl,q⟩
theorem zvy (hm:X.mg "isinstance"=none)(hg:Gl X "isinstance")(hm2:X.mg x2=none)(hv2:dg x2=some (.type T))(hg2:Gl X x2)(hn2:x2≠"__name__")(hd2:aab x2)(hT:T∈tysB)(hs:isStar y=false)(ha:PE X y (tD X.K fa)):
  PE X (.Call (.Name "isinstance" p) [y,.Name x2 p2] [] pos) (tD X.K λρ=>fa ρ>>=λx=>.ok (.fr,.bool ([T].any λT=>lJ (iR x.2) T))):=
 PE.imp (Fh TK hm (by decide+kernel) (fQ ha (fQ (QF (v:=.ty T) hg2 hm2 hv2 rfl hn2 hd2) pF) hs) (by simp[hs];rfl) hg dc dc) λY H Q ⟨ρ,F,z,so,e,q⟩=>by obtain⟨x,e1,e⟩:=Res.aA e;cases e;refine⟨ρ,F,x,so,e1,λv H1 s1 rv=>?_⟩;refine⟨_,v,x.2,T,rfl,rv,hT,q _ H1 s1 ?_⟩;show V.bl _=V.bl _;simp
end
section
variable {X:Cx}{pos:Pos}
def Ga (K:W.Frag)(n:Nat)(t:TGs):TG:=λv Y H Q=>∃a xs,v=.ref a/\SqL K H a xs/\xs.length=n/\t xs Y H Q
theorem TL (hc:X.calm=true)(h:PGs X es t)(hn:(eu es X.env).length=n)(hst:(eu es X.env).findIdx? (·.1)=none):PG X (.Tuple es k pos) (Ga X.K n t):=by
 rintro pins s Y H v u Q I r ⟨a,xs,rfl,hq,hl,hw⟩
 cases r;obtain⟨its,rv,pl,hz⟩:=I.list hq;apply ae;refine qq ?_
 delta unpack
 rw[hst,show(eu es X.env).length=its.toArray.size by rw[hn,<-hl,rv.length,ax]];apply ae;refine gn (W.kun_itemsOf (I.ok.hd hc) pl.isList λh' hx=>?_);have I1:Inv X pins Y H {s with heap:=h'}:=I.kept λb o e=>hx b o (cw (bt e)) e;exact h pins _ Y H xs _ Q I1 (by simpa using rv) hw
end
def Kp (B:Ad->Prop)(H1 H2:Hp):Prop:=∀a o,H1 a=some o->(B (some a)\/Fix o)->H2 a=some o
theorem Kp.of (s:Same H1 H2):Kp B H1 H2:=λa o e _=>s a o e
structure Walk (K:W.Frag)(J:It)(B:Ad->Prop)(H1:Hp)(xs:List D):Prop where
 len:xs.length<=bc
 go:∀H2,Kp B H1 H2->∀i,i<xs.length->J.go i H2
 stop:∀H2,Kp B H1 H2->J.stop xs.length H2
 iM:∀H2,Kp B H1 H2->∀i x H3,i<xs.length->J.iM i H2 x H3->Same H2 H3/\∃d,xs[i]?=some d/\Rep K H3 B x d
def tDW (K:W.Frag)(f:Rho->Res (G×List D)):TI:=λY H R=>∃ρ F w,StOk K F H Y ρ/\f ρ=.ok w/\∀J B H',Same H H'->(∀a,B a->BG F H w.1 a/\¬nw H' a)->Walk K J B H' w.2->R J H'
theorem _root_.L2.PI.imp (h:PI X tg e t)(i:∀Y H Q,t' Y H Q->t Y H Q):PI X tg e t':=λpins s Y H Q I q=>h pins s Y H Q I (i Y H Q q)
section
variable {K:W.Frag}{H:Hp}{B:Ad->Prop}
theorem TM (h:(H a=some (.lst vs)/\B (some a))\/(FL K H a vs/\B none))(r:Reps K H B vs ds)(hz:ds.length<=bc):Walk K (Ez K a) B H ds:=by
 have sq:∀H2,Kp B H H2->SqL K H2 a vs:=λH2 k=>by
  rcases h with⟨h,b⟩|⟨⟨o,h⟩|h,_⟩
  ·exact .inl (.inl (k a _ h (.inl b)))
  ·exact .inl (.inr ⟨o,k a _ h (.inr True.intro)⟩)
  ·exact .inr h
 refine⟨hz,λH2 k i hi=>?_,λH2 k=>⟨vs,sq H2 k,by rw[r.length];exact ag _⟩,λH2 k i x H3 hi y=>?_⟩
 ·have hv:i<vs.length:=r.length▸hi;exact⟨vs,vs[i],sq H2 k,by simp[hv]⟩
 ·obtain⟨rfl,y⟩:=y;obtain⟨d,h1,h2⟩:=r.oH (y vs (sq _ k));exact⟨Same.refl _,d,h1,Rep.keep k (λ_ z=>z) d h2⟩
theorem TN (h:bS K H a vs)(r:Reps K H B vs ds)(hz:ds.length<=bc):Walk K (Kr K a) B H ds:=by
 have sq:∀H2,Kp B H H2->bS K H2 a vs:=λH2 k=>h.keep k;refine⟨hz,λH2 k i hi=>?_,λH2 k=>⟨vs,sq H2 k,by rw[r.length];exact ag _⟩,λH2 k i x H3 hi y=>?_⟩
 ·have hv:i<vs.length:=r.length▸hi;exact⟨vs,vs[i],sq H2 k,by simp[hv]⟩
 ·obtain⟨rfl,y⟩:=y;obtain⟨d,h1,h2⟩:=r.oH (y vs (sq _ k));exact⟨Same.refl _,d,h1,Rep.keep k (λ_ z=>z) d h2⟩
theorem TQ (ok:PyData.strOk z=true)(hz:z.length<=bc):Walk K (Fg z) B H (z.cps.toList.map λc=>.str ⟨#[c]⟩):=by
 have hl:(z.cps.toList.map λc=>(PyData.str ⟨#[c]⟩:D)).length=z.cps.size:=by simp
 refine⟨by rw[hl];exact hz,λH2 k i hi=>?_,λH2 k=>?_,λH2 k i x H3 hi y=>?_⟩
 ·rw[hl]at hi;exact hi
 ·show z.cps.size<=_;rw[hl];simp_all
 ·obtain⟨rfl,c,hc,rfl⟩:=y;have sR:z.cps.toList[i]?=some c:=by simpa using hc
  refine⟨Same.refl _,.str ⟨#[c]⟩,by rw[bj,sR];rfl,rfl,Lm ok (cj sR)⟩
theorem TR {lo:Int}(hz:n<=bc):Walk K (B5 lo n) B H ((cn n).map λ(i:Nat)=>.int (lo+i)):=by
 have hl:((cn n).map λ(i:Nat)=>(PyData.int (lo+i):D)).length=n:=by simp
 refine⟨by rw[hl];exact hz,λH2 k i hi=>?_,λH2 k=>?_,λH2 k i x H3 hi y=>?_⟩
 ·rw[hl]at hi;exact hi
 ·show n<=_;rw[hl];simp_all
 ·obtain⟨rfl,rfl⟩:=y;rw[hl]at hi;exact⟨Same.refl _,.int (lo+i),by rw[bj,ma hi];rfl,rfl⟩
end
section
variable {X:Cx}{tg a b c e:Expr}{es:List Expr}{fa fb fc:Rho->Res GD}{pos:Pos}
theorem z37 (I1:Inv X pins Y H1 s1)(r1:RelV y v)(rv:Rep X.K H1 B y d)(e:z4x d=.ok xs)
  (q:∀J,Walk X.K J B H1 xs->R J H1):wpAny (model X.prog X.w) X.A (uc v) (xT X pins Y tg R) X.xe s1:=by
 cases d<;>try (cases e;done)
 case list ds=>
  cases e;obtain⟨a,vs,rfl,h,rs⟩:=rv
  have hq:SqL X.K H1 a vs:=by
   rcases h with⟨h,_⟩|⟨h|h,_⟩
   ·exact .inl (.inl h)
   ·exact .inl (.inr h)
   ·exact .inr h
  cases r1;obtain⟨its,Ac,p,hz⟩:=I1.list hq;refine m7 p.isList (⟨s1.heap.objs.size,[s1.heap.objs.size],_,_,H1,rfl,I1.kept λb o e=>ah _ e,Ks a _,⟨_,bw _ rfl,rfl,rfl⟩,λb hb=>?_,q _ (TM h rs (rs.length▸hz))⟩);have e:b=s1.heap.objs.size:=by simpa using hb
  subst e;exact I1.iN (ag _) (I1.hok.fresh (ag _))
 case tuple ds=>
  cases e;obtain⟨a,vs,rfl,hq,rs⟩:=rv;cases r1;obtain⟨its,Ac,p,hz⟩:=I1.tuple hq;refine se p (⟨s1.heap.objs.size,[s1.heap.objs.size],_,_,H1,rfl,I1.kept λb o e=>ah _ e,QP a _,⟨_,bw _ rfl,rfl,rfl⟩,λb hb=>?_,q _ (TN hq rs (rs.length▸hz))⟩);have e:b=s1.heap.objs.size:=by simpa using hb
  subst e;exact I1.iN (ag _) (I1.hok.fresh (ag _))
 case str z=>
  change(if z.length<=bB then Res.ok (z.cps.toList.map λc=>PyData.str ⟨#[c]⟩)else .no)=_ at e;split at e
  case isFalse=>cases e
  rename_i hs;cases e;have e1:=rv.1;subst e1;obtain⟨t,rfl⟩:=r1
  have fin:∀ty hty,xT X pins Y tg R (.ref s1.heap.objs.size) {s1 with heap:=s1.heap.push {cls:=.type ty,data:=.fields #[.str z t,.int 0 0]}}:=λty hty=>by
   refine⟨s1.heap.objs.size,[s1.heap.objs.size],_,_,H1,rfl,I1.kept λb o e=>ah _ e,Sn hty _ z t,⟨_,bw _ rfl,rfl,rfl⟩,λb hb=>?_,(q _ (TQ rv.2 (lR hs)))⟩;have e:b=s1.heap.objs.size:=by simpa using hb
   subst e;exact I1.iN (ag _) (I1.hok.fresh (ag _))
  cases ha:z.cps.all (· <128)
  ·exact wpAny_pyIter_wide ha (fin _ (.inr rfl))
  ·exact wpAny_pyIter_ascii ha (fin _ (.inl rfl))
theorem cI (ha:PE X a (tD X.K fa)):PI X tg a (tDW X.K λρ=>fa ρ>>=λx=>z4x x.2>>=λxs=>.ok (x.1,xs)):=by
 rintro pins s Y H R I ⟨ρ,F,w,so,e,q⟩
 obtain⟨x,e1,e⟩:=Res.aA e;obtain⟨xs,e2,e⟩:=Res.aA e;cases e;refine aO (ha pins s Y H (λv H1=>Same H H1/\Rep X.K H1 (BG F H x.1) v x.2) I ⟨ρ,F,x,so,e1,λv H1 s1 rv=>⟨s1,rv⟩⟩) λv s1 zz=>?_;obtain⟨y,H1,I1,r1,Ae,rv⟩:=zz;exact z37 I1 r1 (Rep.there _ rv) e2 λJ wk=>q J _ H1 Ae (λ_ z=>z) wk
theorem TU {n:Int}(h1:n<=bB)(h2:-bB<=n):-(2 ^ 62)<=n/\n<2 ^ 62:=by unfold bB at *;omega
theorem eF.one {K:W.Frag}(r:eF K F H H' vs [x]):∃v,vs=[v]/\Rep K H' (BG F H x.1) v x.2:=by obtain⟨v,t,e,h,q⟩:=r;subst e q;exact⟨v,rfl,h⟩
theorem eF.two {K:W.Frag}(r:eF K F H H' vs [x,y]):∃v w,vs=[v,w]/\Rep K H' (BG F H x.1) v x.2/\Rep K H' (BG F H y.1) w y.2:=by obtain⟨v,t,e,h,q⟩:=r;obtain⟨w,e2,h2⟩:=q.one;subst e e2;exact⟨v,w,rfl,h,h2⟩
theorem TV (hm:X.mg "range"=none)(hg:Gl X "range")(hs:isStar a=false)(ha:PA X [a] (tDA X.K fs))(hl:∀ρ ys,fs ρ=.ok ys->ys.length=1):PI X tg (.Call (.Name "range" p) [a] [] pos) (tDW X.K λρ=>fs ρ>>=λys=>lK (ys.map (·.2))>>=λxs=>.ok (.fr,xs)):=
 PI.imp (QS hg hm ha (jQ hs)) λY H R ⟨ρ,F,w,so,e,q⟩=>by
  obtain⟨ys,e1,e⟩:=Res.aA e;obtain⟨xs,e2,e⟩:=Res.aA e;cases e;refine⟨ρ,F,ys,so,e1,λvs H1 s1 rs=>?_⟩
  match ys,(hl ρ ys e1)with
  | [(g,d)],hy1=>
   obtain⟨v,rfl,rv⟩:=rs.one;cases d<;>try (cases e2;done)
   rename_i n;subst rv;change(if n<=bB/\-bB<=n then Res.ok ((cn n.toNat).map λ(i:Nat)=>PyData.int i)else .no)=_ at e2;split at e2
   case isFalse=>cases e2
   rename_i hn;cases e2;have LD:=TU hn.1 hn.2;refine⟨n,rfl,LD.1,LD.2,q _ (λ_=>False) H1 s1 (λ_ z=>z.elim) ?_⟩;have e0:((cn n.toNat).map λ(i:Nat)=>(PyData.int i:D))=(cn n.toNat).map λi=>.int (0+i):=by apply ju;intro i _;rw[Int.zero_add]
   rw[e0];exact TR (lR (by unfold bB at *;omega))
def Fm.drop (F:Fm)(i:Nat):Fm:={F with O:=λa=>if F.O a=some i then none else F.O a}
theorem Fm.bL {F:Fm}{a:Addr}(h:F.O a=none):(F.drop i).O a=none:=by show(if F.O a=some i then none else F.O a)=none;rw[h];rfl
theorem Bin.drop {a:Ad}(h:Bin F a):Bin (F.drop i) a:=by
 cases a with
 |none=>exact h
 |some a=>exact⟨Fm.bL h.1,h.2⟩
theorem Slot.drop {K:W.Frag}(hij:j≠i)(h:Slot K F H j g v d):Slot K (F.drop i) H j g v d:=by
 cases g with
 |fr=>
  obtain⟨p,e,o,h⟩:=h;refine⟨p,e,?_,?_⟩
  ·show(if F.O p=some i then none else F.O p)=some j;rw[o,vh (λz=>hij (vi z))]
  ·rcases h with⟨vs,ds,e1,e2,r⟩|⟨vs,ds,e1,e2,r⟩
   ·exact .inl ⟨vs,ds,e1,e2,r.weak λ_ b=>b.drop⟩
   ·exact .inr ⟨vs,ds,e1,e2,bC.same (λ_ _ e=>e) (λ_ b=>b.drop) r⟩
 |od=>exact h
 |al=>exact h
 |nu=>exact Rep.weak (λ_ b=>b.drop) h
def BI (F:Fm):G->Ad->Prop
 |.od=>fR F
 |.fr=>bP F
 |.al=>bP F
 |.nu=>bP F
theorem BI.of {a:Ad}(hv:∀a,H a=none->F.V a)(h:BG F H g a):BI F g a:=by
 cases g with
 |fr=>exact nw.aM hv h
 |od=>exact h
 |al=>exact h
 |nu=>exact h.elim (nw.aM hv) Bin.aM
theorem StOk.lS {K:W.Frag}(so:StOk K F H Y ρ)(r:Rep K H (BI F x.1) v x.2):StOk K (F.drop i) H (Y.set i (some v)) (ρ.set i (some (z2d x))) where
 ext:=so.ext
 aM:=so.aM
 own:=λa j e=>by
  have e':F.O a=some j:=by
   have:(if F.O a=some i then none else F.O a)=some j:=e;split at this
   ·cases this
   ·exact this
  exact so.own a j e'
 len:=by rw[cu,cu];exact so.len
 sl:=λj g d e=>by
  by_cases hj:i=j
  ·subst hj;rw[et]at e;simp only[if_true]at e;split at e
   ·rename_i hl;have e1:z2d x=(g,d):=by simpa using e
    refine⟨v,?_,?_⟩
    ·rw[et];simp[so.len,hl]
    ·obtain⟨gx,dx⟩:=x;cases gx with
     |fr=>cases e1;exact r
     |od=>cases e1;exact r
     |al=>cases e1;exact r
     |nu=>cases e1;exact r
   ·cases e
  ·rw[ci hj]at e ⊢;obtain⟨u,h1,h2⟩:=so.sl j g d e;exact⟨u,h1,h2.drop λz=>hj z.symm⟩
structure Keeps (F F':Fm)(is:List Nat)(Y σ':L2.St):Prop where
 h0:F'.H0=F.H0
 v:F'.V=F.V
 z:F'.z=F.z
 o:∀a,F.O a=none->F'.O a=none
 len:σ'.length=Y.length
 rest:∀j,j∉is->σ'[j]?=Y[j]?
theorem Keeps.refl:Keeps F F is Y Y:=⟨rfl,rfl,rfl,λ_ h=>h,rfl,λ_ _=>rfl⟩
theorem Keeps.set {v:Option V}(h:i∈is):Keeps F (F.drop i) is Y (Y.set i v):=⟨rfl,rfl,rfl,λ_ h=>Fm.bL h,cu,λj hj=>ci λz=>hj (by rw[<-z];exact h)⟩
theorem Keeps.trans (a:Keeps F F' is Y σ')(b:Keeps F' mS is σ' wj):Keeps F mS is Y wj:=⟨b.h0.trans a.h0,b.v.trans a.v,b.z.trans a.z,λx h=>b.o x (a.o x h),b.len.trans a.len,λj hj=>(b.rest j hj).trans (a.rest j hj)⟩
def tDG (K:W.Frag)(t:Tg):TG:=λv Y H Q=>∃ρ F x aQ,StOk K F H Y ρ/\Rep K H (BI F x.1) v x.2/\eE t x ρ=.ok aQ/\∀σ' F',StOk K F' H σ' aQ->Keeps F F' (tgIx t) Y σ'->Q σ' H
theorem _root_.L2.PG.imp (h:PG X e t)(i:∀v Y H Q,t' v Y H Q->t v Y H Q):PG X e t':=λpins s Y H v u Q I r q=>h pins s Y H v u Q I r (i v Y H Q q)
theorem _root_.L2.PGs.imp {e:List Expr}(h:PGs X e t)(i:∀v Y H Q,t' v Y H Q->t v Y H Q):PGs X e t':=λpins s Y H v u Q I r q=>h pins s Y H v u Q I r (i v Y H Q q)
theorem TX (hN:X.N.Nodup)(hi:X.N[i]?=some x)(hx:Loc X.env.scope x)(hf:Sto X x):PG X (.Name x pos) (tDG X.K (.nm i)):=PG.imp (Ew hN hi hx hf) λv Y H Q ⟨ρ,F,x,aQ,so,r,e,q⟩=>by cases e;exact q _ _ (so.lS r) (Keeps.set (by simp[tgIx]))
def oK (K:W.Frag)(all is:List Nat):TGs:=λvs Y H Q=>∃ρ F g ds aQ,(∀i∈is,i∈all)/\StOk K F H Y ρ/\Reps K H (BI F g) vs ds/\sZ ρ is ds g=some aQ/\∀σ' F',StOk K F' H σ' aQ->Keeps F F' all Y σ'->Q σ' H
theorem TY:PGs X [] (oK X.K all []):=
 PGs.imp QN λvs Y H Q ⟨ρ,F,g,ds,aQ,_,so,r,e,q⟩=>by
  cases ds with
  |nil=>cases e;exact⟨r,q Y F so Keeps.refl⟩
  |cons d ds=>cases e
theorem TZ (hN:X.N.Nodup)(hi:X.N[i]?=some x)(hx:Loc X.env.scope x)(hf:Sto X x)(h:PGs X es (oK X.K all is)):PGs X (.Name x p::es) (oK X.K all (i::is)):=
 PGs.imp (zh3 (Ew hN hi hx hf) h (by rfl)) λvs Y H Q ⟨ρ,F,g,ds,aQ,wt,so,r,e,q⟩=>by
  cases ds with
  |nil=>cases e
  |cons d ds=>
   obtain⟨v,t,rfl,h1,h2⟩:=r;refine⟨v,t,rfl,ρ.set i (some (z2d (gJ d g,d))),F.drop i,g,ds,aQ,λj hj=>wt j (bn _ hj),?_,?_,e,λσ' F' pK k=>q σ' F' pK ((Keeps.set (wt i az)).trans k)⟩
   ·refine so.lS ?_;unfold gJ;by_cases hi:aU d=true
    ·rw[vg hi];exact Rep.bG d hi h1
    ·rw[vh hi];exact h1
   ·exact h2.weak λa b=>by cases g<;>exact b
theorem T1 (hc:X.calm=true)(h:PGs X es (oK X.K is is))(hn:(eu es X.env).length=n)(hst:(eu es X.env).findIdx? (·.1)=none)(hl:is.length=n):PG X (.Tuple es k pos) (tDG X.K (.tp is)):=
 λpins s Y H v u Q I ru ⟨ρ,F,⟨g,d⟩,aQ,so,r,e,q⟩=>by
  have hlen:∀is ds ρ ρ1,sZ ρ is ds g=some ρ1->is.length=ds.length:=by
   intro is
   induction is with
   |nil=>intro ds ρ ρ1 h;cases ds with
    |nil=>rfl
    |cons _ _=>cases h
   |cons i is ih=>intro ds ρ ρ1 h;cases ds with
    |nil=>cases h
    |cons d ds=>rw[bv,bv,ih ds _ _ h]
  have got:∀ds,Res.iZ (sZ ρ is ds g)=.ok aQ->sZ ρ is ds g=some aQ:=λds e=>by
   cases e1:sZ ρ is ds g with
   |none=>rw[e1]at e;cases e
   |some ρ1=>rw[e1]at e;rw[Res.ok.inj e]
  cases d<;>try (cases e;done)
  case tuple ds=>have e1:=got ds e;obtain⟨a,vs,rfl,h1,h2⟩:=r;exact zq2 hc h hn hst pins s Y H _ u Q I ru ⟨a,vs,rfl,h1,by rw[h2.length,<-hlen _ _ _ _ e1];exact hl,ρ,F,g,ds,aQ,λ_ h=>h,so,h2,e1,q⟩
  case list ds=>
   have e1:=got ds e;obtain⟨a,vs,rfl,h1,h2⟩:=r
   have h3:SqL X.K H a vs:=by
    rcases h1 with⟨h1,_⟩|⟨h1|h1,_⟩
    ·exact .inl (.inl h1)
    ·exact .inl (.inr h1)
    ·exact .inr h1
   exact TL hc h hn hst pins s Y H _ u Q I ru ⟨a,vs,rfl,h3,by rw[h2.length,<-hlen _ _ _ _ e1];exact hl,ρ,F,g,ds,aQ,λ_ h=>h,so,h2,e1,q⟩
theorem StOk.blk {K:W.Frag}(so:StOk K F H Y ρ)(nt:Nat)(js:List Nat)(l:Addr)(xs:List V)(hl:H l=none):
  StOk K {F with V:=λa=>F.V a/\a≠l,O:=λ_=>none} (upd H l (.lst xs)) (eU nt js Y) (ba nt none++js.map λj=>toAl (ρ.getD j none)) where
 ext:=λa o e=>by have:=so.ext a o e;rw[aL (eB this hl)];exact this
 aM:=λa e=>by
  by_cases h:a=l
  ·subst h;rw[bE]at e;cases e
  ·rw[aL h]at e;exact⟨so.aM a e,h⟩
 own:=λa i e=>by cases e
 len:=by unfold eU;simp
 sl:=λi g d e=>by
  have hB:∀a,bP F a/\¬nw H a->bP {F with V:=λa=>F.V a/\a≠l,O:=λ_=>none} a:=λa h=>by
   cases a with
   |none=>exact h.1
   |some a=>exact⟨h.1,λz=>h.2 (z▸hl)⟩
  have T2:∀a,fR F a/\¬nw H a->fR {F with V:=λa=>F.V a/\a≠l,O:=λ_=>none} a:=λa h=>by
   cases a with
   |none=>exact h.1
   |some a=>exact⟨h.1.1,h.1.2,λz=>h.2 (z▸hl)⟩
  rw[lu]at e;split at e
  ·rw[dq]at e;split at e<;>cases e
  ·rename_i hi;rw[cf]at hi e;rw[bj]at e;cases ej:js[i-nt]? with
   |none=>rw[ej]at e;cases e
   |some j=>
    rw[ej]at e;have e1:toAl (ρ.getD j none)=some (g,d):=vi e;cases er:ρ[j]? with
    |none=>rw[bd,er]at e1;cases e1
    |some o=>
     rw[bd,er]at e1;cases o with
     |none=>cases e1
     |some gd=>
      obtain⟨g0,d0⟩:=gd;obtain⟨v,h1,h2⟩:=so.sl j g0 d0 er;refine⟨v,?_,?_⟩
      ·unfold eU;rw[e9 (by grind),cf,bj,ej];show some (Y.getD j none)=_;rw[bd,h1];rfl
      ·cases g0 with
       |fr=>cases e1;exact Rep.same (Same.upd hl) hB (Rep.there _ (h2.rep so.jU))
       |od=>cases e1;exact Rep.same (Same.upd hl) T2 (Rep.there _ h2)
       |al=>cases e1;exact Rep.same (Same.upd hl) hB (Rep.there _ h2)
       |nu=>cases e1;exact Rep.same (Same.upd hl) hB (Rep.there _ (h2.rep so.jU))
theorem Gb:∀l m r,lL f (l++m)=.ok r->∃r1 r2,lL f l=.ok r1/\lL f m=.ok r2/\r=r1++r2
 | [],m,r,h=>⟨[],r,rfl,h,rfl⟩
 |x::l,m,r,h=>by
  obtain⟨o,e1,h⟩:=Res.aA h;obtain⟨r',e2,h⟩:=Res.aA h;obtain⟨r1,r2,h1,h2,rfl⟩:=Gb l m r' e2;cases h;refine⟨oc o r1,r2,?_,h2,?_⟩
  ·show(f x>>=λo=>lL f l>>=λr=>Res.ok (oc o r))=_;rw[e1,Res.aC,h1,Res.aC]
  ·cases o<;>rfl
theorem eF.snoc {K:W.Frag}:∀{vs:List V} {xs:List GD} {v:V} {x:GD},eF K F H H' vs xs->Rep K H' (BG F H x.1) v x.2->eF K F H H' (vs++[v]) (xs++[x])
 |vs,[],v,x,r,h=>by have e:vs=[]:=r;subst e;exact⟨v,[],rfl,h,rfl⟩
 |vs,y::ys,v,x,r,h=>by obtain⟨u,t,rfl,h1,q⟩:=r;exact⟨u,t++[v],rfl,h1,q.snoc h⟩
theorem eF.keep {K:W.Frag}(hk:∀a o g,H1 a=some o->(BG F H g (some a)\/Fix o)->H2 a=some o):∀{vs:List V} {xs:List GD},eF K F H H1 vs xs->eF K F H H2 vs xs
 |vs,[],r=>r
 |vs,y::ys,r=>by obtain⟨u,t,e,h1,q⟩:=r;exact⟨u,t,e,Rep.keep (λa o e b=>hk a o y.1 e b) (λ_ z=>z) _ h1,q.keep hk⟩
theorem eF.len {K:W.Frag}:∀{vs:List V} {xs:List GD},eF K F H H' vs xs->vs.length=xs.length
 |vs,[],r=>by have e:vs=[]:=r;subst e;rfl
 |vs,y::ys,r=>by obtain⟨u,t,rfl,h1,q⟩:=r;rw[bv,bv,q.len]
theorem LF:∀l r,lL f l=.ok r->r.length<=l.length
 | [],r,h=>by cases h;simp_all
 |x::l,r,h=>by
  obtain⟨o,e1,h⟩:=Res.aA h;obtain⟨r',e2,h⟩:=Res.aA h;have:=LF l r' e2;cases h;cases o with
  |none=>exact cg this (by simp)
  |some y=>simp only[oc,bv];omega
def zfj (nt:Nat)(js:List Nat)(t:Tg)(fw:Rho->Res (G×List D))(fc:Rho->Res Bool)(fe:Rho->Res GD):Rho->Res GD:=λρ=>fw ρ>>=λw=>lL (λx=>eE t (gJ x w.1,x) (ba nt none++js.map λj=>toAl (ρ.getD j none))>>=λρ1=>fc ρ1>>=λk=>if k then fe ρ1>>=λy=>.ok (some y)else .ok none) w.2>>=λys=>.ok (sY ys,.list (ys.map (·.2)))
def T4 (g:TG)(tc:TT)(te:TE)(em:L2.St->L2.St)(Y:L2.St)(Q:VK):It->Hp->Prop:=λJ H1=>∀l,H1 l=none->∃P:Nat->Nat->List V->Hp->Prop,(∃m,P 0 m [] (upd H1 l (.lst [])))/\∀i m acc H2,P i m acc H2->(J.stop i H2/\Q (.ref l) H2)\/(J.go i H2/\acc.length<bc/\∃N:List V->Hp->Prop,(∀acc' H',N acc' H'->∃m',m'<m/\P (i+1) m' acc' H')/\∀x H3,J.iM i H2 x H3->g x (em Y) H3 λdC H4=>gP (em Y) dC/\tc dC H4 λb H5=>if b=true then te dC H5 λy H6=>H6 l=some (.lst acc)/\N (acc++[y]) (upd H6 l (.lst (acc++[y])))else N acc H5)
abbrev CI (K:W.Frag)(F:Fm)(f:D->Res (Option GD))(ds:List D)(H1:Hp)(l:Nat)(i:Nat)(acc:List V)(H2:Hp):Prop:=H2 l=some (.lst acc)/\(∀a o,H1 a=some o->H2 a=some o)/\∃ys,lL f (ds.take i)=.ok ys/\eF K F (upd H1 l (.lst [])) H2 acc ys
theorem zag {fc:Rho->Res Bool}(ht0:∀i∈tgIx t,i<nt)(so:StOk X.K F H Y ρ)(e:zfj nt js t fw fc fe ρ=.ok z)(q:∀v H',Same H H'->Rep X.K H' (BG F H z.1) v z.2->Q v H'):
  ∃w,fw ρ=.ok w/\∀J B H',Same H H'->(∀a,B a->BG F H w.1 a/\¬nw H' a)->Walk X.K J B H' w.2->T4 (tDG X.K t) (dZ X.K fc) (tD X.K fe) (eU nt js) Y Q J H':=by
 obtain⟨w,e1,e⟩:=Res.aA e;obtain⟨LG,e2,e⟩:=Res.aA e;cases e;refine⟨w,e1,λJ B H1 s1 hB wk l hl=>?_⟩;generalize hr:(ba nt none++js.map λj=>toAl (ρ.getD j none))=LH at e2;generalize hf:(λx=>eE t (gJ x w.1,x) LH>>=λρ1=>fc ρ1>>=λk=>if k then fe ρ1>>=λy=>Res.ok (some y)else .ok none)=f at e2;have iB:=so.same s1;have lC:∀i,∃ys,lL f (w.2.take i)=.ok ys:=λi=>by rw[<-List.take_append_drop i w.2]at e2;obtain⟨r1,r2,h1,_,_⟩:=Gb _ _ _ e2;exact⟨r1,h1⟩
 let Fb:Fm:={F with V:=λa=>F.V a/\a≠l,O:=λ_=>none}
 refine zvz (CI X.K Fb f w.2 H1 l) wk.len ?_ ?_ ?_ ?_ ?_
 ·exact⟨bE,λa o e=>by rw[aL (eB e hl)];exact e,[],rfl,rfl⟩
 ·rintro i acc H2 ⟨_,_,ys,hy,rs⟩
  rw[rs.len];have:=LF _ _ hy;rw[iz]at this;omega
 ·rintro acc H2 ⟨h1,h2,ys,hy,rs⟩
  rw[oh]at hy;rw[e2]at hy;cases hy;refine⟨wk.stop H2 (λa o e _=>h2 a o e),q _ _ (λa o e=>h2 a o (s1 a o e)) ?_⟩;have LI:=s1.none hl;refine⟨l,acc,rfl,.inl ⟨h1,?_⟩,rs.dW λx hx a hb=>?_⟩
  ·show BG F H (sY LG) (some l);unfold sY;split
   ·exact LI
   ·exact so.aM l LI
  ·unfold sY;by_cases ea:(LG.all λx=>x.1==.fr)=true
   ·rw[vg ea];have T5:x.1=.fr:=by simpa using b8.mp ea x hx
    rw[T5]at hb;cases a with
    |none=>exact hb
    |some a=>
     have Af:upd H1 l (.lst []) a=none:=hb
     have:H1 a=none:=by
      by_cases hal:a=l
      ·subst hal;exact hl
      ·rw[aL hal]at Af;exact Af
     exact s1.none this
   ·rw[vh ea];have:bP Fb a:=BG.aM (λa e=>((iB.blk nt js l [] hl).aM a e)) hb;cases a with
    |none=>exact this
    |some a=>exact this.1
 ·rintro i acc H2 hi ⟨_,h2,_⟩
  exact wk.go H2 (λa o e _=>h2 a o e) i hi
 ·rintro i acc H2 x H3 hi ⟨h1,h2,ys,hy,rs⟩ y
  obtain⟨s3,d,hd,rx⟩:=wk.iM H2 (λa o e _=>h2 a o e) i x H3 hi y;obtain⟨LJ,x5⟩:=lC (i+1);have xW:w.2.take (i+1)=w.2.take i++[d]:=by rw[List.take_add_one,hd];rfl
  rw[xW]at x5;obtain⟨r1,r2,g1,g2,g3⟩:=Gb _ _ _ x5;rw[hy]at g1;cases g1;obtain⟨o,g4,g2⟩:=Res.aA g2;obtain⟨r3,g5,g2⟩:=Res.aA g2;cases g5;rw[<-hf]at g4;obtain⟨ρ1,k1,g4⟩:=Res.aA g4;obtain⟨k,k2,g4⟩:=Res.aA g4
  have sb:StOk X.K Fb H3 (eU nt js Y) LH:=by
   rw[<-hr];refine(iB.blk nt js l acc hl).same λa o e=>s3 a o ?_;by_cases hal:a=l
   ·subst hal;rw[bE]at e;rw[h1];exact e
   ·rw[aL hal]at e;exact h2 a o e
  have Ge:Rep X.K H3 (BI Fb (gJ d w.1)) x d:=by
   unfold gJ;by_cases hi:aU d=true
   ·rw[vg hi];exact Rep.bG d hi rx
   ·rw[vh hi];refine rx.weak λa b=>?_;obtain⟨b1,b2⟩:=hB a b;have b3:=BI.of so.aM b1;cases a with
    |none=>cases hw:w.1<;>rw[hw]at b3<;>exact b3
    |some a=>
     have hal:a≠l:=λz=>b2 (by rw[z];exact hl);cases hw:w.1<;>rw[hw]at b3
     ·exact⟨b3,hal⟩
     ·exact⟨b3.1,b3.2,hal⟩
     ·exact⟨b3,hal⟩
     ·exact⟨b3,hal⟩
  refine⟨_,Fb,(gJ d w.1,d),ρ1,sb,Ge,k1,λdC F4 CH gQ=>⟨⟨gQ.len.symm,λj v hj=>?_⟩,ρ1,F4,k,CH,k2,λH5 s5=>?_⟩⟩
  ·by_cases LK:j∈tgIx t
   ·have :=ht0 j LK;unfold eU at hj;rw[fq (cf▸this),dq,vg this]at hj;cases hj
   ·rw[gQ.rest j LK];exact hj
  ·have h5:∀a o,H1 a=some o->H5 a=some o:=λa o e=>s5 a o (s3 a o (h2 a o e));have Ag:=s5 _ _ (s3 _ _ h1);have LL:=rs.keep λa o g e _=>s5 a o (s3 a o e);cases k with
   |false=>cases g4;cases g2;refine lD ⟨Ag,h5,ys,?_,LL⟩;rw[xW,x5,g3];simp[oc]
   |true=>
    obtain⟨yv,k3,g4⟩:=Res.aA g4;cases g4;cases g2;refine lE ⟨ρ1,F4,yv,CH.same s5,k3,λv H6 s6 rv=>⟨s6 _ _ Ag,bE,λa o e=>?_,ys++[yv],?_,?_⟩⟩
    ·rw[aL (eB e hl)];exact s6 a o (h5 a o e)
    ·rw[xW,x5,g3];rfl
    ·have T6:=s6 _ _ Ag
     have hk:∀a o g,H6 a=some o->(BG Fb (upd H1 l (.lst [])) g (some a)\/Fix o)->upd H6 l (.lst (acc++[v])) a=some o:=λa o g e b=>by
      have hal:a≠l:=by
       intro z;subst z;rcases b with b|b
       ·cases g with
        |fr=>have b':upd H1 a (.lst []) a=none:=b;rw[bE]at b';cases b'
        |od=>exact b.2.2 rfl
        |al=>exact b.2 rfl
        |nu=>
         rcases b with b|b
         ·have b':upd H1 a (.lst []) a=none:=b;rw[bE]at b';cases b'
         ·exact b.2.2.2 rfl
       ·rw[T6]at e;cases e;exact b
      rw[aL hal];exact e
     have Ac:Rep X.K H6 (BG Fb (upd H1 l (.lst [])) yv.1) v yv.2:=by
      refine rv.weak λa b=>?_;cases hg:yv.1 with
      |fr=>
       rw[hg]at b;cases a with
       |none=>exact b
       |some a=>
        have b':H5 a=none:=b;show upd H1 l (.lst []) a=none;rw[aL (λz=>by rw[z,Ag]at b';cases b')];cases e1:H1 a with
        |none=>rfl
        |some o=>rw[h5 a o e1]at b';cases b'
      |nu=>
       rw[hg]at b;cases a with
       |none=>exact b
       |some a=>
        rcases b with b|b
        ·have b':H5 a=none:=b;refine .inl ?_;show upd H1 l (.lst []) a=none;rw[aL (λz=>by rw[z,Ag]at b';cases b')];cases e1:H1 a with
         |none=>rfl
         |some o=>rw[h5 a o e1]at b';cases b'
        ·refine .inr ⟨rfl,?_,?_⟩
         ·have:=b.2.1;rw[gQ.h0]at this;exact this
         ·have:=b.2.2;rw[gQ.v]at this;exact this
      |od=>
       rw[hg]at b;cases a with
       |none=>have b1:F4.z:=b;rw[gQ.z]at b1;exact b1
       |some a=>have b1:F4.H0 a≠none/\F4.V a:=b;rw[gQ.h0,gQ.v]at b1;exact b1
      |al=>
       rw[hg]at b;cases a with
       |none=>have b1:F4.z:=b;rw[gQ.z]at b1;exact b1
       |some a=>have b1:F4.V a:=b;rw[gQ.v]at b1;exact b1
     exact((LL.keep λa o g e _=>s6 a o e).snoc Ac).keep hk
theorem T7 {fc:Rho->Res Bool}(ht0:∀i∈tgIx t,i<nt):∀Y H Q,tD X.K (zfj nt js t fw fc fe) Y H Q->vK (tDW X.K fw) (tDG X.K t) (dZ X.K fc) (tD X.K fe) (eU nt js) Y H Q:=by
 rintro Y H Q ⟨ρ,F,z,so,e,q⟩
 obtain⟨w,e1,h⟩:=zag ht0 so e q;exact⟨ρ,F,w,so,e1,h⟩
theorem zf0 {fc:Rho->Res Bool}(hc:X.calm=true)(Bk:BlkScope X scope N' nt js)(ht0:∀i∈tgIx t,i<nt)(hi:PI X tg iter (tDW X.K fw))
  (hg:∀C fp s H,PG (blk X scope N' C fp s H) tg (tDG X.K t)) (ht:∀C fp s H,qG (blk X scope N' C fp s H) ifs (dZ X.K fc)) (he:∀C fp s H,PE (blk X scope N' C fp s H) elt (tD X.K fe)) (hs:∀x,gg iter X.env x=pure x):
  PE X (.ListComp elt [⟨tg,iter,ifs,0⟩] scope pos) (tD X.K (zfj nt js t fw fc fe))/\∀Y H Q,tD X.K (zfj nt js t fw fc fe) Y H Q->vK (tDW X.K fw) (tDG X.K t) (dZ X.K fc) (tD X.K fe) (eU nt js) Y H Q:=by
 have main:=T7 (X:=X) (js:=js) (fw:=fw) (fc:=fc) (fe:=fe) ht0;exact⟨PE.imp (z9p hc Bk hi hg ht he hs) main,main⟩
end
def BC (H:Hp)(A:Ad->Prop):G->Ad->Prop
 |.fr=>nw H
 |.od=>λa=>nw H a\/A a
 |.al=>λa=>nw H a\/A a
 |.nu=>nw H
def spD (K:W.Frag)(n:Nat)(m:Fn):Sp:=λvs H Q _=>∃A ds x,vs.length=n/\Reps K H A vs ds/\m ds=.ok x/\∀v H',Same H H'->Rep K H' (BC H A x.1) v x.2->Q v H'
section
variable {X:Cx}{tg a b c e o:Expr}{es:List Expr}{fa fb fc:Rho->Res GD}{pos:Pos}
theorem zo2 (Cc:Cal X.prog X.w X.K X.mg X.base k x ps (spD X.K n m))(hr:Room k' X.A)(hk:k<=k')(ha:PA X (e::es) (tDA X.K fs))(hst:((e::es).all fun e=> !isStar e)=true)(hg:Gl X x)(hdb:aab x)
  (hl:∀ρ ys,fs ρ=.ok ys->ys.length=n):PE X (.Call (.Name x p) (e::es) [] pos) (tD X.K λρ=>fs ρ>>=λys=>m (ys.map (·.2))>>=λr=>.ok (gJ r.2 (jS r.1),r.2)):=
 PE.imp (zhv Cc hr ha hst hk hg hdb) λY H Q ⟨ρ,F,z,so,e,q⟩=>by
  obtain⟨ys,e1,e⟩:=Res.aA e;obtain⟨r,e2,e⟩:=Res.aA e;cases e;refine⟨ρ,F,ys,so,e1,λvs H1 s1 rs=>?_⟩;show spD X.K n m (vs++[]) H1 Q E0;rw[cr];refine⟨_,_,r,by rw[rs.len];exact hl ρ ys e1,rs.kL so.aM,e2,λv H2 s2 rv=>q v H2 (s1.trans s2) (tH rv λa h=>?_)⟩;have al:(nw H1 a\/bP F a)->bP F a:=λh=>h.elim (λh=>(nw.back s1 h).aM so.aM) λh=>h;cases hg:r.1 with
  |fr=>rw[hg]at h;exact nw.back s1 h
  |od=>rw[hg]at h;exact al h
  |al=>rw[hg]at h;exact al h
  |nu=>rw[hg]at h;exact nw.back s1 h
def rMt (K:W.Frag)(m:String):V->List V->Hp->VK->Prop:=λx xs H Q=>∃B B' dx ds d,Rep K H B x dx/\Reps K H B' xs ds/\mtD m dx ds=.ok d/\∀w H',Same H H'->Rep K H' (λa=>nw H a\/B a\/B' a) w d->Q w H'
theorem sX (h:z2h o=true):lq o n env w=w:=by
 unfold lq;split
 ·rename_i id p pos;cases h
 ·rfl
theorem LM:∀{es:List Expr},(es.all λe=> !isStar e)=true->(l6 pos (d5 es env)).all (λx=> !x.1)=true
 | [],_=>rfl
 |e::es,h=>by have h:=av.mp (cv▸h);rw[jQ (by simpa using h.1)];show(true&&(l6 pos (d5 es env)).all (λx=>!x.1))=true;rw[LM h.2];rfl
theorem z8l (h:(es.all fun e=> !isStar e)=true)(hl:es.length<20):((l6 cpos (d5 es env)).all (fun x=> !x.1)&&(backToKw cpos (ue [] env)).all (fun x=>x.1.isSome)
  &&decide (es.length+([]:List qe).length+(if([]:List qe).isEmpty then 0 else 1)<30))=true:=by
 rw[LM h];show(true&&true&&decide (es.length+0+0<30))=true;rw[vn (by omega)];rfl
theorem d_mt {id:String}(pa:ux T)(slot:PySem.Slot T n id)(hty:ud (.builtin id)=pure (.type "method_descriptor"))(hm:MtR X id (rMt X.K m))(hT:∀H B x dx ds d,Rep X.K H B x dx->mtD m dx ds=.ok d->tyV X.K T x H)
  (ho:PE X o (tD X.K fa)) (ha:PA X (e::es) (tDA X.K fs)) (hns:z2h o=true) (hst:((e::es).all λe=>!isStar e)=true) (hl:(e::es).length<20) (hline:(apos.endLine==cpos.line)=true):
  PE X (.Call (.Attribute o n apos) (e::es) [] cpos) (tD X.K λρ=>fa ρ>>=λx=>fs ρ>>=λys=>mtD m x.2 (ys.map (·.2))>>=λd=>.ok (gJ d .al,d)):=by
 have jW:=hst;rw[cv,br]at jW;refine PE.imp (zg8 pa slot hty hm ho ha (sX hns) (z8l hst hl) hline (jQ (by simpa using jW.1)) (qH jW.2)) λY H Q zz=>?_;obtain⟨ρ,F,z,so,e,q⟩:=zz;obtain⟨x,e1,e⟩:=Res.aA e;obtain⟨ys,e2,e⟩:=Res.aA e;obtain⟨d,e3,e⟩:=Res.aA e;cases e;refine⟨ρ,F,x,so,e1,λv H1 s1 rv=>⟨hT H1 _ v x.2 _ d rv e3,ρ,F,ys,so.same s1,e2,λvs H2 s2 rs=>?_⟩⟩;refine⟨_,_,x.2,_,d,rv.same s2 λ_ z=>z,rs.kL (so.same s1).aM,e3,λw H3 s3 bI=>q w H3 ((s1.trans s2).trans s3) (tH bI λa h=>?_)⟩;rcases h with h|h|h
 ·exact(nw.back (s1.trans s2) h).aM so.aM
 ·exact h.aM so.aM
 ·exact h
theorem T8 (hu:X.A.units+64<cLine):MtR X "dict.get" (rMt X.K "get"):=by
 rintro pins s Y H x xs v us Q I rx rs ⟨B,B',dx,ds,d,r1,r2,e,q⟩
 simp only[mtD,if_true]at e;split at e
 ·rename_i es k d0;split at e
  case isFalse=>cases e
  rename_i hk;cases e;obtain⟨vk,vd,rfl,h1,h2⟩:=F7 r2;obtain⟨kk,rfl,rfl,_⟩:=z6 hk h1;obtain⟨a,kvs,rfl,g1,_,g2⟩:=r1;cases rx;obtain⟨u1,u2,rfl,q1,q2⟩:=vals2 rs;have hv:=g2.val kk;refine zoq (by omega) I (DGet.k g1) q1 q2 λw' s' I' bI=>⟨_,H,I',bI,q _ H (Same.refl H) ?_⟩;cases e3:hZ es (kD kk)with
  |none=>rw[e3]at hv;rw[show cW kvs kk=none from hv];exact h2.weak λ_ z=>.inr (.inr z)
  |some d'=>rw[e3]at hv;obtain⟨w,h3,h4⟩:=hv;rw[h3];exact h4.weak λ_ z=>.inr (.inl z)
 ·cases e
theorem T9 (r:Rep X.K H B x dx)(e:mtD "get" dx ds=.ok d):tyV X.K "dict" x H:=by
 simp only[mtD,if_true]at e;split at e
 ·obtain⟨a,kvs,rfl,g1,_,_⟩:=r;exact .inr (.inr (.inl ⟨rfl,.inl ⟨kvs,g1⟩⟩))
 ·cases e
end
section
variable {X:Cx}{o e:Expr}{fa fb:Rho->Res GD}
theorem T':CallR X (.type "int") (λxs H Q=>∃x,xs=[.str x]/\vT x.cps.toList=true/\x.length<=600/\Q (.int (zQ x.cps.toList:Int)) H):=by
 rintro pins s Y H xs us Q I r ⟨x,rfl,hf,hl,q⟩
 obtain⟨u,rfl,t,rfl⟩:=vals1 r;unfold vT at hf;rw[av]at hf;have hd:=λc hc=>by have:=b8.mp hf.2 c hc;rw[av,decide_eq_true_iff,decide_eq_true_iff]at this;exact this
 exact W.KIN.call_text (intText_digits hd (λz=>by rw[z]at hf;cases hf.1) (by omega)) (by omega) ⟨.int _,H,I.tok _,⟨_,rfl⟩,q⟩
end
def cX (F:Fm)(H:Hp)(F':Fm)(H':Hp):Prop:=∀a o,H a=some o->F.O a=none->H' a=some o/\F'.O a=none
theorem cX.refl:cX F H F H:=λ_ _ e o=>⟨e,o⟩
theorem cX.trans (a:cX F H F' H')(b:cX F' H' mS fC):cX F H mS fC:=λx o e n=>by obtain⟨e1,n1⟩:=a x o e n;exact b x o e1 n1
theorem cX.same (s:Same H H'):cX F H F H':=λa o e n=>⟨s a o e,n⟩
def Run (F F':Fm):Prop:=Same F.H0 F'.H0/\F'.V=F.V/\F'.z=F.z
theorem Run.refl:Run F F:=⟨λ_ _ e=>e,rfl,rfl⟩
theorem Run.trans (a:Run F F')(b:Run F' mS):Run F mS:=⟨λx o e=>b.1 x o (a.1 x o e),b.2.1.trans a.2.1,b.2.2.trans a.2.2⟩
theorem Run.of (h:F'.H0=F.H0)(v:F'.V=F.V)(z:F'.z=F.z):Run F F':=⟨λ_ _ e=>by rw[h];exact e,v,z⟩
def BR (F:Fm):G->Ad->Prop
 |.fr=>λa=>match a with|some a=>F.H0 a=none|none=>False
 |.od=>bP F
 |.al=>bP F
 |.nu=>λa=>match a with|some a=>F.H0 a=none|none=>False
def Ah (K:W.Frag)(F:Fm)(H:Hp)(D:Ends):Out->Prop
 |.nx aQ=>∀σ' H' F',StOk K F' H' σ' aQ->Run F F'->cX F H F' H'->D.nx σ' H'
 |.rt g d=>∀v H',(∀a o,F.H0 a=some o->H' a=some o)->Rep K H' (BR F g) v d->D.rt v H'
def tDS (K:W.Frag)(f:Rho->Res Out):TS:=λD Y H=>∃ρ F out,StOk K F H Y ρ/\f ρ=.ok out/\Ah K F H D out
theorem none_of (s:Same H H')(h:H' a=none):H a=none:=by
 cases e:H a with
 |none=>rfl
 |some o=>rw[s a o e]at h;cases h
theorem BR.run (r:Run F F')(h:BR F' g a):BR F g a:=by obtain⟨r1,r2,r3⟩:=r;cases g<;>cases a<;>first|exact h|(exact none_of r1 h)|(have h':F'.V _:=h;rw[r2]at h';exact h')|(have h':F'.z:=h;rw[r3]at h';exact h')
theorem Ah.back {K:W.Frag}{D:Ends}(r:Run F F')(f:cX F H F' H')(h:Ah K F H D out):Ah K F' H' D out:=by
 cases out with
 |nx aQ=>exact λwj fC mS so r2 f2=>h wj fC mS so (r.trans r2) (f.trans f2)
 |rt g d=>exact λv fC k rv=>h v fC (λa o e=>k a o (r.1 a o e)) (rv.weak λ_ b=>b.run r)
section
variable {X:Cx}{tg a b c e:Expr}{es:List Expr}{fa fb fc:Rho->Res GD}{pos:Pos}{st:Stmt}{rest A Bs:List Stmt}{fs gs:Rho->Res Out}
theorem Ua:PSs X [] (tDS X.K λρ=>.ok (.nx ρ)):=PSs.imp Km λD Y H ⟨ρ,F,out,so,e,q⟩=>by cases e;exact q Y H F so Run.refl cX.refl
theorem Ub (h1:PS X st (tDS X.K fs))(h2:PSs X rest (tDS X.K gs)):PSs X (st::rest) (tDS X.K λρ=>qM (fs ρ) gs):=
 PSs.imp (Kn h1 h2) λD Y H ⟨ρ,F,out,so,e,q⟩=>by
  have e:qM (fs ρ) gs=.ok out:=e;cases e1:fs ρ with
  |no=>rw[e1]at e;cases e
  |exc x=>rw[e1]at e;cases e
  |ok o1=>
   rw[e1]at e;cases o1 with
   |nx ρ1=>exact⟨ρ,F,.nx ρ1,so,e1,λσ' H' F' pK r f=>⟨ρ1,F',out,pK,e,q.back r f⟩⟩
   |rt g d=>cases e;exact⟨ρ,F,.rt g d,so,e1,q⟩
theorem Gf (hc:PT X c (dZ X.K ft))(ha:PSs X A (tDS X.K fs))(hb:PSs X Bs (tDS X.K gs)):PS X (.If c A Bs pos) (tDS X.K λρ=>ft ρ>>=λk=>if k then fs ρ else gs ρ):=
 PS.imp (Kq hc ha hb) λD Y H ⟨ρ,F,out,so,e,q⟩=>by
  obtain⟨k,e1,e⟩:=Res.aA e;refine⟨ρ,F,k,so,e1,λH1 s1=>?_⟩;cases k with
  |true=>exact lE ⟨ρ,F,out,so.same s1,e,q.back Run.refl (cX.same s1)⟩
  |false=>exact lD ⟨ρ,F,out,so.same s1,e,q.back Run.refl (cX.same s1)⟩
theorem Uc {K:W.Frag}(so:∀a o,F.H0 a=some o->H a=some o)(hv:∀a,H a=none->F.V a)(r:Rep K H' (BG F H g) v d):Rep K H' (BR F (jS g)) v d:=by
 refine r.weak λa b=>?_;cases g with
 |fr=>
  cases a with
  |none=>exact b
  |some a=>exact Same.none so b
 |od=>exact fR.aM b
 |al=>exact b
 |nu=>
  cases a with
  |none=>exact b.elim id id
  |some a=>exact b.elim (λb=>Same.none so b) λb=>b.2.1
theorem Ud (ha:PE X e (tD X.K fa)):PS X (.Return (some e) pos) (tDS X.K λρ=>fa ρ>>=λx=>.ok (.rt (jS x.1) x.2)):=PS.imp (Es ha) λD Y H ⟨ρ,F,out,so,e,q⟩=>by obtain⟨x,e1,e⟩:=Res.aA e;cases e;exact⟨ρ,F,x,so,e1,λv H1 s1 rv=>q v H1 (λa o e=>s1 a o (so.ext a o e)) (Uc so.ext so.aM rv)⟩
theorem Slot.ret {K:W.Frag}(so:∀a i,F.O a=some i->F.H0 a=none/\F.V a)(h:Slot K F H i g v d):Rep K H (BR F (if aU d then .fr else jS g)) v d:=by
 by_cases hi:aU d=true
 ·rw[vg hi];exact Rep.bG d hi (h.rep λa i e=>(so a i e).2)
 ·rw[vh hi];cases g with
  |fr=>
   obtain⟨p,e,o,h⟩:=h
   have hb:∀a,Bin F a->BR F .fr a:=λa b=>by
    cases a with
    |none=>exact b
    |some a=>exact b.2.1
   rcases h with⟨vs,ds,rfl,e2,r⟩|⟨vs,ds,rfl,e2,r⟩
   ·exact⟨p,vs,e,.inl ⟨e2,(so _ _ o).1⟩,r.weak hb⟩
   ·exact⟨p,vs,e,e2,(so _ _ o).1,bC.same (λ_ _ e=>e) hb r⟩
  |od=>exact Rep.weak (λ_ b=>b.aM) h
  |al=>exact h
  |nu=>
   refine Rep.weak (λa b=>?_) h;cases a with
   |none=>exact b
   |some a=>exact b.2.1
theorem z90 {i:Nat}(hN:X.N[i]?=some x)(hv:Vis X.env.scope x)(hd:aab x)(hcd:(x==("__classdict__":Str))=false):
  PS X (.Return (some (.Name x p)) pos) (tDS X.K λρ=>match ρ[i]? with|some (some (g,d))=>.ok (.rt (if aU d then .fr else jS g) d)|_=>.no):=
 PS.imp (Es (sS hN hv hd hcd)) λD Y H ⟨ρ,F,out,so,e,q⟩=>by
  have e:(match ρ[i]? with|some (some (g,d))=>Res.ok (Out.rt (if aU d then .fr else jS g) d)|_=>.no)=.ok out:=e;cases e1:ρ[i]? with
  |none=>rw[e1]at e;cases e
  |some o=>
   rw[e1]at e;cases o with
   |none=>cases e
   |some gd=>obtain⟨g,d⟩:=gd;cases e;obtain⟨v,h1,h2⟩:=so.sl i g d e1;exact⟨v,h1,q v H so.ext (h2.ret λa i e=>⟨(so.own a i e).1,(so.own a i e).2.1⟩)⟩
theorem Ue (hs:z1n e=false)(ha:PE X e (tD X.K fa)):PS X (.Expr e pos) (tDS X.K λρ=>fa ρ>>=λ_=>.ok (.nx ρ)):=PS.imp (oA ha hs) λD Y H ⟨ρ,F,out,so,e,q⟩=>by obtain⟨x,e1,e⟩:=Res.aA e;cases e;exact⟨ρ,F,x,so,e1,λv H1 s1 rv=>q Y H1 F (so.same s1) Run.refl (cX.same s1)⟩
theorem bC.bG {K:W.Frag}:∀{kvs:List (Key×V)} es,bZ es=true->bC K H B kvs es->bC K H B' kvs es
 |kvs,[],_,r=>r
 |kvs,(kd,d)::es,i,r=>by unfold bZ at i;rw[cv,br]at i;obtain⟨k,v,t,e,e2,ok,h,q⟩:=r;exact⟨k,v,t,e,e2,ok,Rep.bG d i.1 h,bC.bG es i.2 q⟩
theorem StOk.gA {K:W.Frag}(so:StOk K F H Y ρ){a:Ad}(h:nw H a):Bin F a:=by
 cases a with
 |none=>exact h
 |some a=>
  refine⟨?_,Same.none so.ext h,so.aM a h⟩;cases e1:F.O a with
  |none=>rfl
  |some j=>obtain⟨_,_,z⟩:=so.own a j e1;rcases z with⟨xs,z⟩|⟨xs,z⟩<;>rw[h]at z<;>cases z
theorem StOk.Gg {K:W.Frag}(so:StOk K F H Y ρ)(r:Rep K H (Bin F) v d):StOk K (F.drop i) H (Y.set i (some v)) (ρ.set i (some (.nu,d))):=by
 have z:=so.lS (i:=i) (x:=(.al,d)) (Rep.weak (λ_ b=>Bin.aM b) r);refine⟨z.ext,z.aM,z.own,by rw[cu,cu];exact so.len,λj g d' e=>?_⟩;by_cases hj:i=j
 ·subst hj;rw[et]at e;simp only[if_true]at e;split at e
  ·rename_i hl;cases e;exact⟨v,by rw[et];simp[so.len,hl],Rep.weak (λ_ b=>b.drop) r⟩
  ·cases e
 ·refine z.sl j g d' ?_;rw[ci hj]at e ⊢;exact e
def Fm.take (F:Fm)(i:Nat)(p:Addr):Fm:={F with O:=λa=>if a=p then some i else if F.O a=some i then none else F.O a}
theorem cX.drop (s:Same H H'):cX F H (F.drop i) H':=λa o e n=>⟨s a o e,Fm.bL n⟩
theorem StOk.setA {K:W.Frag}(so:StOk K F H Y ρ)(s1:Same H H1)(r:Rep K H1 (BG F H x.1) v x.2):
  ∃F',StOk K F' H1 (Y.set i (some v)) (ρ.set i (some (z1q x)))/\Run F F'/\cX F H F' H1:=by
 have iB:=so.same s1;obtain⟨g,d⟩:=x
 have plain:z1q (g,d)=z2d (if aU d then .al else Lj g,d)->∃F',StOk K F' H1 (Y.set i (some v)) (ρ.set i (some (z1q (g,d))))/\Run F F'/\cX F H F' H1:=λe=>by
  rw[e];refine⟨F.drop i,iB.lS ?_,Run.of rfl rfl rfl,cX.drop s1⟩;by_cases hi:aU d=true
  ·rw[vg hi];exact Rep.bG d hi r
  ·rw[vh hi];cases g with
   |fr=>exact r.weak λ_ b=>nw.aM so.aM b
   |od=>exact r
   |al=>exact r
   |nu=>exact r.weak λ_ b=>b.elim (nw.aM so.aM) Bin.aM
 have CJ:z1q (g,d)=(.nu,d)->(∀a,BG F H g a->Bin F a)->∃F',StOk K F' H1 (Y.set i (some v)) (ρ.set i (some (z1q (g,d))))/\Run F F'/\cX F H F' H1:=λe hb=>by rw[e];exact⟨F.drop i,iB.Gg (Rep.weak hb r),Run.of rfl rfl rfl,cX.drop s1⟩
 have own:∀p,F.O p=none->H p=none->F.H0 p=none->F.V p->v=.ref p->z1q (g,d)=(.fr,d)->(∀F',(∀a,Bin F a\/nw H a->a≠some p->Bin F' a)->F'.O p=some i->Slot K F' H1 i .fr v d)->(((∃xs,H1 p=some (.lst xs))\/∃kvs,H1 p=some (.dK kvs)))->
   ∃F',StOk K F' H1 (Y.set i (some v)) (ρ.set i (some (z1q (g,d))))/\Run F F'/\cX F H F' H1:=λp Ug jX Uh Ui ev es Uj jN=>by
  have yc:∀a,a≠p->(F.take i p).O a=(F.drop i).O a:=λa ha=>by show(if a=p then some i else _)=_;rw[vh ha];rfl
  have Gh:∀a,H a=none->F.O a=none:=λa e=>by
   cases e1:F.O a with
   |none=>rfl
   |some j=>obtain⟨_,_,h⟩:=so.own a j e1;rcases h with⟨xs,h⟩|⟨xs,h⟩<;>rw[e]at h<;>cases h
  have wu:∀a,Bin F a\/nw H a->a≠some p->Bin (F.take i p) a:=λa b gB=>by
   cases a with
   |none=>exact b.elim id id
   |some a=>have fN:a≠p:=λz=>gB (by rw[z]);have hb:=b.elim id λb=>⟨Gh a b,(λa e=>Same.none so.ext e) a b,so.aM a b⟩;exact⟨by rw[yc a fN];exact Fm.bL hb.1,hb.2⟩
  have Gi:(F.take i p).O p=some i:=by show(if p=p then some i else _)=_;rw[vg rfl]
  refine⟨F.take i p,⟨iB.ext,iB.aM,λa j e=>?_,by rw[cu,cu];exact so.len,λj g' d' e=>?_⟩,Run.of rfl rfl rfl,λa o e n=>⟨s1 a o e,?_⟩⟩
  ·by_cases fN:a=p
   ·subst fN;exact⟨Uh,Ui,jN⟩
   ·rw[yc a fN]at e
    have e':F.O a=some j:=by
     have:(if F.O a=some i then none else F.O a)=some j:=e;split at this
     ·cases this
     ·exact this
    exact iB.own a j e'
  ·by_cases hj:i=j
   ·subst hj;rw[et]at e;simp only[if_true]at e;split at e
    ·rename_i hl;have e1:z1q (g,d)=(g',d'):=by simpa using e
     rw[es]at e1;cases e1;exact⟨v,by rw[et];simp[so.len,hl],Uj _ wu Gi⟩
    ·cases e
   ·rw[ci hj]at e ⊢;obtain⟨u,h1,h2⟩:=so.sl j g' d' e;refine⟨u,h1,?_⟩;cases g' with
    |fr=>
     obtain⟨p',e1,o1,h3⟩:=h2;refine⟨p',e1,?_,?_⟩
     ·rw[yc p' (λz=>by rw[z,Ug]at o1;cases o1)];show(if F.O p'=some i then none else F.O p')=some j;rw[o1,vh (λz=>hj (vi z).symm)]
     ·have Af:∀a,Bin F a/\¬nw H a->Bin (F.take i p) a:=λa b=>wu a (.inl b.1) λz=>b.2 (z▸jX);rcases h3 with⟨vs,ds,e3,e2,r3⟩|⟨vs,ds,e3,e2,r3⟩
      ·exact .inl ⟨vs,ds,e3,s1 _ _ e2,Reps.same s1 Af (Reps.there _ r3)⟩
      ·exact .inr ⟨vs,ds,e3,s1 _ _ e2,bC.same s1 Af (bC.there _ r3)⟩
    |od=>exact Rep.same s1 (λ_ b=>b) h2
    |al=>exact Rep.same s1 (λ_ b=>b) h2
    |nu=>exact Rep.same s1 (λa b=>wu a (.inl b.1) λz=>b.2 (z▸jX)) (Rep.there _ h2)
  ·have fN:a≠p:=λz=>by rw[z,jX]at e;cases e
   rw[yc a fN];exact Fm.bL n
 have LN:∀p,H p=none->F.O p=none:=λp jX=>by
  cases e1:F.O p with
  |none=>rfl
  |some j=>obtain⟨_,_,h'⟩:=so.own p j e1;rcases h' with⟨xs,h'⟩|⟨xs,h'⟩<;>rw[jX]at h'<;>cases h'
 by_cases hi:aU d=true
 ·exact plain (by show(if aU d then _ else _)=_;rw[vg hi];rw[vg hi];rfl)
 ·cases g with
  |od=>exact plain (by delta z1q;simp only[vh hi];rfl)
  |al=>exact plain (by delta z1q;simp only[vh hi];cases d<;>rfl)
  |nu=>exact CJ (by delta z1q;simp only[vh hi]) λa b=>b.elim so.gA id
  |fr=>
   cases d with
   |none=>exact absurd rfl hi
   |bool b=>exact absurd rfl hi
   |int b=>exact absurd rfl hi
   |str b=>exact absurd rfl hi
   |tuple ds=>exact CJ (by delta z1q;simp only[vh hi]) λa b=>so.gA b
   |list ds=>
    by_cases him:imms ds=true
    ·obtain⟨p,vs,ev,h,rs⟩:=r;rcases h with⟨h,b⟩|⟨_,b⟩
     ·have jX:H p=none:=b;exact own p (LN p jX) jX (Same.none so.ext jX) (so.aM p jX) ev (by delta z1q;simp only[vh hi,vg him]) (λF' hb ho=>⟨p,ev,ho,.inl ⟨vs,ds,rfl,h,Reps.bG ds him rs⟩⟩) (.inl ⟨vs,h⟩)
     ·exact b.elim
    ·exact CJ (by delta z1q;simp only[vh hi,vh him]) λa b=>so.gA b
   |dict es=>
    by_cases him:bZ es=true
    ·obtain⟨p,kvs,ev,h,b,rs⟩:=r;have jX:=b;exact own p (LN p jX) jX (Same.none so.ext jX) (so.aM p jX) ev (by delta z1q;simp only[vh hi,vg him]) (λF' hb ho=>⟨p,ev,ho,.inr ⟨kvs,es,rfl,h,bC.bG es him rs⟩⟩) (.inr ⟨kvs,h⟩)
    ·exact CJ (by delta z1q;simp only[vh hi,vh him]) λa b=>so.gA b
theorem LO {K:W.Frag}{te:TE}(h:∀Y H Q,tD K fa Y H Q->te Y H Q)(D:Ends)(Y:L2.St)(H:Hp)(q:tDS K (λρ=>fa ρ>>=λx=>.ok (.nx (ρ.set i (some (z1q x))))) D Y H):te Y H λv H1=>D.nx (Y.set i (some v)) H1:=by obtain⟨ρ,F,out,so,e,q⟩:=q;obtain⟨x,e1,e⟩:=Res.aA e;cases e;refine h Y H _ ⟨ρ,F,x,so,e1,λv H1 s1 rv=>?_⟩;obtain⟨F',pK,r,f⟩:=so.setA s1 rv;exact q _ H1 F' pK r f
theorem zrj (hN:X.N.Nodup)(hi:X.N[i]?=some x)(hx:Loc X.env.scope x)(hf:Sto X x)(hs:ke e (some (.Name x px)) pos.line X.env=pure false)(ha:PE X e (tD X.K fa)):
  PS X (.Assign [.Name x px] e pos) (tDS X.K λρ=>fa ρ>>=λx=>.ok (.nx (ρ.set i (some (z1q x))))):=
 PS.imp (z8s hN hi hx ha hs hf) λD Y H q=>LO (λ_ _ _ h=>h) D Y H q
theorem znp (hg:PG X te (tDG X.K (.tp is)))(ha:PE X e (tD X.K fa))(hs:qm [te] e pos.line X.env=pure false)(hw:qo [te] e X.env=pure none)(h1:(eu [te] X.env).map (·.2)=[q8 te X.env]):
  PS X (.Assign [te] e pos) (tDS X.K λρ=>fa ρ>>=λx=>eE (.tp is) x ρ>>=λaQ=>.ok (.nx aQ)):=
 PS.imp (zp7 ha hg hs hw h1) λD Y H ⟨ρ,F,out,so,e,q⟩=>by obtain⟨x,e1,e⟩:=Res.aA e;obtain⟨aQ,e2,e⟩:=Res.aA e;cases e;refine⟨ρ,F,x,so,e1,λv H1 s1 rv=>⟨ρ,F,x,aQ,so.same s1,rv.weak λ_ b=>BI.of so.aM b,e2,λσ' F' pK gQ=>?_⟩⟩;exact q σ' H1 F' pK (Run.of gQ.h0 gQ.v gQ.z) λa o e n=>⟨s1 a o e,gQ.o a n⟩
theorem CK {K:W.Frag}(so:StOk K F H Y ρ)(h:okIn y=true)(r:Rep K H1 (BG F H y.1) u y.2):Rep K H1 (Bin F) u y.2:=by
 obtain⟨g,d⟩:=y;rcases fj.mp h with hi|hg
 ·exact Rep.bG d hi r
 rcases fj.mp hg with h|h
 ·cases eq_of_beq h;exact Rep.weak (λa b=>so.gA b) r
 ·cases eq_of_beq h;exact Rep.weak (λa b=>b.elim so.gA id) r
theorem StOk.mutate {K:W.Frag}(so:StOk K F H Y ρ)(hO:F.O p=some i)(hσ:Y[i]?=some (some (.ref p)))(ho':(∃xs,o'=.lst xs)\/∃kvs,o'=.dK kvs)
  (hs:Slot K F (upd H p o') i .fr (.ref p) d'):StOk K F (upd H p o') Y ((ρ.set i (some (.fr,d'))).map cZ)/\cX F H F (upd H p o'):=by
 obtain⟨h0,hV,jN⟩:=so.own p i hO;have gB:∀a,F.O a=none->a≠p:=λa e z=>by rw[z,hO]at e;cases e
 have qY:∀a o,H a=some o->Fix o->a≠p:=λa o e f z=>by subst z;rcases jN with⟨xs,h⟩|⟨xs,h⟩<;>rw[e]at h<;>cases h<;>exact f
 refine⟨⟨λa o e=>?_,λa e=>?_,λa j e=>?_,by rw[ac,cu];exact so.len,λj g d e=>?_⟩,(λa o e n=>⟨by rw[aL (gB a n)];exact e,n⟩)⟩
 ·have fN:a≠p:=λz=>by rw[z,h0]at e;cases e
  rw[aL fN];exact so.ext a o e
 ·by_cases fN:a=p
  ·subst fN;exact hV
  ·rw[aL fN]at e;exact so.aM a e
 ·obtain⟨x1,x2,x3⟩:=so.own a j e;refine⟨x1,x2,?_⟩;by_cases fN:a=p
  ·subst fN;rw[bE];rcases ho' with⟨xs,rfl⟩|⟨xs,rfl⟩
   ·exact .inl ⟨xs,rfl⟩
   ·exact .inr ⟨xs,rfl⟩
  ·rw[aL fN];exact x3
 ·rw[bj]at e;by_cases hj:i=j
  ·subst hj;have hl:i<ρ.length:=by rw[<-so.len];exact(aq.mp hσ).1
   rw[et]at e;simp only[if_true,hl]at e;cases(by simpa using e);exact⟨_,hσ,hs⟩
  ·rw[ci hj]at e;cases e2:ρ[j]? with
   |none=>rw[e2]at e;cases e
   |some sl=>
    rw[e2]at e;have e3:cZ sl=some (g,d):=by simpa using e
    cases sl with
    |none=>cases e3
    |some gd=>
     obtain⟨g0,d0⟩:=gd;obtain⟨v,h1,h2⟩:=so.sl j g0 d0 e2;refine⟨v,h1,?_⟩;cases g0 with
     |fr=>
      cases e3;obtain⟨p',e4,o4,h3⟩:=h2;have LP:p'≠p:=λz=>by rw[z,hO]at o4;simp_all
      have hk:∀a o,H a=some o->(Bin F (some a)\/Fix o)->upd H p o' a=some o:=λa o e b=>by have:a≠p:=b.elim (λb=>gB a b.1) λf=>qY a o e f;rw[aL this];exact e
      refine⟨p',e4,o4,?_⟩;rcases h3 with⟨vs,ds,e5,e6,r⟩|⟨vs,ds,e5,e6,r⟩
      ·exact .inl ⟨vs,ds,e5,by rw[aL LP];exact e6,Reps.keep hk (λ_ z=>z) ds r⟩
      ·exact .inr ⟨vs,ds,e5,by rw[aL LP];exact e6,bC.keep hk (λ_ z=>z) ds r⟩
     |od=>cases e3;exact Rep.keep (λa o e b=>by have:a≠p:=b.elim (λb z=>by have b1:F.H0 a≠none/\F.V a:=b;rw[z]at b1;exact b1.1 h0) λf=>qY a o e f;rw[aL this];exact e) (λ_ z=>z) _ h2
     |nu=>cases e3;exact Rep.keep (λa o e b=>by have:a≠p:=b.elim (λb=>gB a b.1) λf=>qY a o e f;rw[aL this];exact e) (λ_ z=>z) _ h2
     |al=>
      change(if aU d0 then some (G.al,d0)else none)=_ at e3;split at e3
      ·rename_i him;cases e3;exact Rep.jT (λa o e f=>by rw[aL (qY a o e f)];exact e) _ him h2
      ·cases e3
theorem CL {K:W.Frag}(so:StOk K F H Y ρ)(e:ρ[i]?=some (some (.fr,d))):∃p,Y[i]?=some (some (.ref p))/\F.O p=some i/\((∃vs ds,d=.list ds/\H p=some (.lst vs)/\Reps K H (Bin F) vs ds)\/(∃kvs es,d=.dict es/\H p=some (.dK kvs)/\bC K H (Bin F) kvs es)):=by obtain⟨v,h1,p,rfl,o,h⟩:=so.sl i .fr d e;exact⟨p,h1,o,h⟩
def Gj (m:String)(i:Nat)(fs:Rho->Res (List GD)):Rho->Res Out:=λρ=>fs ρ>>=λys=>match ρ[i]? with
 |some (some (.fr,.list xs))=>oF m xs ys>>=λtF=>.ok (.nx ((ρ.set i (some (.fr,.list tF))).map cZ))
 |_=>.no
theorem zgj {fs:Rho->Res (List GD)}(hN:X.N[i]?=some x)(hv:Vis X.env.scope x)(hd:aab x)(hcd:(x==("__classdict__":Str))=false)(ha:PA X (e::es) (tDA X.K fs))(hst:((e::es).all fun e=>!isStar e)=true)(hl:(e::es).length<20)(hline:(ap.endLine==cp.line)=true):
  PS X (.Expr (.Call (.Attribute (.Name x p) "append" ap) (e::es) [] cp) pos) (tDS X.K (Gj "append" i fs)):=by
 have jW:=hst;rw[cv,br]at jW;refine PS.imp (oA (zg8 PySem.F.plainAttrs_list PySem.F.slot_list_append PySem.F.type_list_append ET (sS hN hv hd hcd) ha rfl (z8l hst hl) hline (jQ (by simpa using jW.1)) (qH jW.2)) rfl) λD Y H zz=>?_;obtain⟨ρ,F,out,so,e,q⟩:=zz;obtain⟨ys,e1,e⟩:=Res.aA e;split at e
 ·rename_i xs hr;obtain⟨tF,e2,e⟩:=Res.aA e;cases e;obtain⟨pa,h1,hO,h⟩:=CL so hr;rcases h with⟨vs,ds,e3,e4,r⟩|⟨_,_,e3,_⟩
  ·cases e3;refine⟨_,h1,.inl ⟨rfl,vs,SqL.of e4⟩,ρ,F,ys,so,e1,λus H1 s1 rs=>?_⟩;simp only[oF,if_true]at e2;split at e2
   ·rename_i y;split at e2
    case isFalse=>cases e2
    rename_i hc;cases e2;rw[av,decide_eq_true_iff]at hc;obtain⟨u,rfl,ru⟩:=rs.one;have e5:=s1 _ _ e4;refine⟨pa,vs,u,rfl,rfl,e5,lR (by rw[r.length];omega),?_⟩
    have r':Reps X.K (upd H1 pa (.lst (vs++[u]))) (Bin F) (vs++[u]) (xs++[y.2]):=by
     refine Reps.keep (λa o e b=>?_) (λ_ z=>z) _ (Reps.append (r.same s1 λ_ z=>z) ⟨u,[],rfl,CK so hc.1 ru,rfl⟩)
     have fN:a≠pa:=by
      intro z;subst z;rcases b with b|b
      ·have b1:F.O a=none:=b.1;rw[hO]at b1;cases b1
      ·rw[e5]at e;cases e;exact b
     rw[aL fN];exact e
    obtain⟨pL,f2⟩:=(so.same s1).mutate hO h1 (.inl ⟨_,rfl⟩) ⟨pa,rfl,hO,.inl ⟨_,_,rfl,bE,r'⟩⟩;exact q Y _ F pL Run.refl ((cX.same s1).trans f2)
   ·cases e2
  ·cases e3
 ·cases e
end
section
variable {X:Cx}{e:Expr}{es:List Expr}{pos:Pos}
theorem _root_.Mi.Reps.eraseIdx {K:W.Frag}:∀{vs:List V} {ds:List D} (n:Nat),Reps K H B vs ds->Reps K H B (vs.eraseIdx n) (ds.eraseIdx n)
 |vs,[],n,r=>by have e:vs=[]:=r;subst e;exact rfl
 |vs,d::ds,0,r=>by obtain⟨v,t,e,_,p⟩:=r;subst e;exact p
 |vs,d::ds,n+1,r=>by obtain⟨v,t,e,h,p⟩:=r;subst e;exact⟨v,_,rfl,h,Reps.eraseIdx n p⟩
end
section
variable {X:Cx}{pos:Pos}
def Ai (j i:Nat):Rho->Res Out:=λρ=>match ρ[i]? with
 |some (some (.fr,.list xs))=>(match Cq xs with
  |some d=>.ok (.nx (((ρ.set i (some (.fr,.list xs.dropLast))).map cZ).set j (some (.al,d))))
  |none=>.no)
 |_=>.no
theorem Uk (h:Cq xs=some d):xs[xs.length-1]?=some d/\aU d=true:=by
 unfold Cq at h;split at h
 ·rename_i y e;split at h
  ·rename_i hi;cases h;rw[List.getLast?_eq_getElem?]at e;exact⟨e,hi⟩
  ·cases h
 ·cases h
theorem Reps.front {K:W.Frag}(r:Reps K H B vs ds):Reps K H B vs.dropLast ds.dropLast:=by rw[pj,pj,r.length];exact r.take _
theorem zs1 (so:StOk X.K F H Y ρ)(hO:F.O pa=some i)(h1:Y[i]?=some (some (.ref pa)))(e4:H pa=some (.lst vs))(r0:Reps X.K H (Bin F) ws zs):
  StOk X.K F (upd H pa (.lst ws)) Y ((ρ.set i (some (.fr,.list zs))).map cZ)/\cX F H F (upd H pa (.lst ws)):=by
 have r':Reps X.K (upd H pa (.lst ws)) (Bin F) ws zs:=by
  refine Reps.keep (λa o e b=>?_) (λ_ z=>z) _ r0
  have fN:a≠pa:=by
   intro z;subst z;rcases b with b|b
   ·have b1:F.O a=none:=b.1;rw[hO]at b1;cases b1
   ·rw[e4]at e;cases e;exact b
  rw[aL fN];exact e
 exact so.mutate hO h1 (.inl ⟨_,rfl⟩) ⟨pa,rfl,hO,.inl ⟨_,_,rfl,bE,r'⟩⟩
theorem s_pop {i j:Nat}{x y:Str}{p ap cp px:Pos}(hN:X.N.Nodup)(hj:X.N[j]?=some y)(hy:Loc X.env.scope y)(hf:Sto X y)(hi:X.N[i]?=some x)(hv:Vis X.env.scope x)(hd:aab x)(hcd:(x==("__classdict__":Str))=false)(hline:(ap.endLine==cp.line)=true):
  PS X (.Assign [.Name y px] (.Call (.Attribute (.Name x p) "pop" ap) [] [] cp) pos) (tDS X.K (Ai j i)):=by
 refine PS.imp (vM hN hj hy (zin PySem.F.plainAttrs_list PySem.F.slot_list_pop PySem.F.type_list_pop K8 (sS hi hv hd hcd) rfl hline) rfl hf) λD Y H zz=>?_;obtain⟨ρ,F,out,so,e,q⟩:=zz;unfold Ai at e;split at e
 ·rename_i xs hr;split at e
  ·rename_i d hl;cases e;obtain⟨hl,him⟩:=Uk hl;obtain⟨pa,h1,hO,h⟩:=CL so hr;rcases h with⟨vs,ds,e3,e4,r⟩|⟨_,_,e3,_⟩
   ·cases e3;obtain⟨v,LQ,hv2⟩:=r.get hl;rw[<-r.length]at LQ;obtain⟨pL,f2⟩:=zs1 so hO h1 e4 r.front
    have hp:∀a o,H a=some o->Fix o->upd H pa (.lst vs.dropLast) a=some o:=λa o e f=>by
     have:a≠pa:=λz=>by subst z;rw[e4]at e;cases e;exact f
     rw[aL this];exact e
    have Ul:=pL.lS (i:=j) (x:=(.al,d)) (v:=v) (Rep.jT hp d him hv2);exact⟨_,h1,.inl ⟨rfl,vs,SqL.of e4⟩,pa,vs,v,rfl,rfl,e4,LQ,q _ _ _ Ul (Run.of rfl rfl rfl) (f2.trans (cX.drop (Same.refl _)))⟩
   ·cases e3
  ·cases e
 ·cases e
end
theorem eF.ins {K:W.Frag}{F:Fm}{H H1:Hp}{Y:L2.St}{ρ:Rho}(so:StOk K F H Y ρ):∀{vs:List V} {xs:List GD},xs.all okIn=true->eF K F H H1 vs xs->Reps K H1 (Bin F) vs (xs.map (·.2))
 |vs,[],_,r=>r
 |vs,x::xs,h,r=>by rw[cv]at h;rw[br]at h;obtain⟨v,t,e,hv,q⟩:=r;exact⟨v,t,e,CK so h.1 hv,eF.ins so h.2 q⟩
theorem StOk.fL {K:W.Frag}{F:Fm}{H:Hp}{Y:L2.St}{ρ:Rho}(so:StOk K F H Y ρ)(j:Nat):StOk K (F.drop j) H Y (ρ.set j (zT (ρ.getD j none))):=by
 refine⟨so.ext,so.aM,λa i e=>?_,by rw[cu];exact so.len,λi g d e=>?_⟩
 ·have e':F.O a=some i:=by
   have e:(if F.O a=some j then none else F.O a)=some i:=e;split at e
   ·cases e
   ·exact e
  exact so.own a i e'
 ·by_cases hj:j=i
  ·subst hj;rw[et]at e;simp only[if_true]at e;split at e
   ·rename_i hl;cases e2:ρ[j]? with
    |none=>exact absurd hl (by grind)
    |some sl=>
     have e3:zT sl=some (g,d):=by
      have:ρ.getD j none=sl:=by rw[bd,e2];rfl
      rw[this]at e;exact vi e
     cases sl with
     |none=>cases e3
     |some gd=>
      obtain⟨g0,d0⟩:=gd;obtain⟨v,h1,h2⟩:=so.sl j g0 d0 e2;refine⟨v,h1,?_⟩;cases g0 with
      |fr=>
       cases e3;obtain⟨p,rfl,o,h⟩:=h2;obtain⟨o1,o2,_⟩:=so.own p j o;have hp:Bin (F.drop j) (some p):=⟨by show(if F.O p=some j then none else F.O p)=none;rw[vg o],o1,o2⟩;rcases h with⟨vs,ds,rfl,h3,r⟩|⟨vs,ds,rfl,h3,r⟩
       ·exact⟨p,vs,rfl,.inl ⟨h3,hp⟩,r.weak λ_ b=>b.drop⟩
       ·exact⟨p,vs,rfl,h3,hp,bC.same (λ_ _ e=>e) (λ_ b=>b.drop) r⟩
      |od=>cases e3;exact h2
      |al=>cases e3;exact h2
      |nu=>cases e3;exact Rep.weak (λ_ b=>b.drop) h2
   ·cases e
  ·rw[ci hj]at e;obtain⟨v,h1,h2⟩:=so.sl i g d e;exact⟨v,h1,h2.drop λz=>hj z.symm⟩
section
variable {X:Cx}{tg a b c e:Expr}{es:List Expr}{fa fb fc:Rho->Res GD}{pos:Pos}{st:Stmt}{rest A Bs:List Stmt}{fs gs:Rho->Res Out}
theorem Gk (k k':Key):eqK (kD k') (kD k)=decide (k'=k):=by
 cases k'<;>cases k
 ·rename_i a b;show(a==b)=_;rw[lf,decide_eq_decide];exact⟨λh=>by rw[h],λh=>Sum.inl.inj h⟩
 ·rfl
 ·rfl
 ·rename_i a b;show decide (a=b)=_;rw[decide_eq_decide];exact⟨λh=>by rw[h],λh=>Sum.inr.inj h⟩
theorem bC.any {K:W.Frag}(k:Key):∀{kvs:List (Key×V)} {es:bY},bC K H B kvs es->(es.any λe=>eqK e.1 (kD k))=kvs.any λkv=>decide (kv.1=k)
 |kvs,[],r=>by have e:kvs=[]:=r;subst e;rfl
 |kvs,(kd,d)::es,r=>by obtain⟨k',v,t,e,e2,_,_,q⟩:=r;subst e e2;rw[jh,jh,q.any k,Gk]
theorem bC.oM {K:W.Frag}(k:Key)(h:Rep K H B v d):∀{kvs:List (Key×V)} {es:bY},bC K H B kvs es->bC K H B (kvs.map λkv=>if kv.1=k then(kv.1,v)else kv) (es.map λe=>if eqK e.1 (kD k)then(e.1,d)else e)
 |kvs,[],r=>by have e:kvs=[]:=r;subst e;exact rfl
 |kvs,(kd,d0)::es,r=>by
  obtain⟨k',v0,t,e,e2,ok,h0,q⟩:=r;subst e e2;rw[bh,bh];have ih:=q.oM k h;by_cases z:k'=k
  ·subst z;rw[vg rfl,vg (by rw[Gk];simp)];exact⟨k',v,_,rfl,rfl,ok,h,ih⟩
  ·rw[vh z,vh (by rw[Gk];simpa using z)];exact⟨k',v0,_,rfl,rfl,ok,h0,ih⟩
theorem bC.app {K:W.Frag}(ok:keyOk k)(h:Rep K H B v d):∀{kvs:List (Key×V)} {es:bY},bC K H B kvs es->bC K H B (kvs++[(k,v)]) (es++[(kD k,d)])
 |kvs,[],r=>by have e:kvs=[]:=r;subst e;exact⟨k,v,[],rfl,rfl,ok,h,rfl⟩
 |kvs,(kd,d0)::es,r=>by obtain⟨k',v0,t,e,e2,Um,h0,q⟩:=r;subst e e2;exact⟨k',v0,_,rfl,rfl,Um,h0,q.app ok h⟩
theorem bC.put {K:W.Frag}(ok:keyOk k)(h:Rep K H B v d){es:bY}(r:bC K H B kvs es):bC K H B (putK kvs k v) (dput es (kD k) d):=by
 unfold putK dput;rw[r.any k];split
 ·exact r.oM k h
 ·exact r.app ok h
def Gn (td ty tv:TE):TS:=λD Y H=>tv Y H λv H1=>td Y H1 λx H2=>ty Y H2 λy H3=>(∃a H4,x=.ref a/\DPut H3 a y v H4/\D.nx Y H4)\/K4 x y v H3 λH4=>D.nx Y H4
theorem Uo (hu:X.A.units+1<cLine)(ho:PE X o td)(hi:PE X i ty)(hv:PE X value tv)(hs:ke value (some (.Subscript o i pos')) pos.line X.env=pure false):PS X (.Assign [.Subscript o i pos'] value pos) (Gn td ty tv):=by
 intro pins s Y H D I h;refine wpAny_Assign_Subscript (aO (hv pins s Y H _ I h) λr s1 ⟨v,H1,I1,rv,q1⟩=>aO (ho pins s1 Y H1 _ I1 q1) λu s2 ⟨x,H2,I2,rx,q2⟩=>aO (hi pins s2 Y H2 _ I2 q2) λiv s3 ⟨y,H3,I3,ry,q3⟩=>?_) hs;rcases q3 with⟨a,H4,ex,g,q3⟩|q3
 ·subst ex;obtain rfl:u=Value.ref a:=rx;exact zbg hu I3 g ry rv λs4 I4=>⟨Y,H4,I4,q3⟩
 ·exact aO (set_list pins s3 Y H3 x y v u iv r _ I3 rx ry rv q3) λ_ s4 ⟨H4,I4,q4⟩=>⟨Y,H4,I4,q4⟩
def Gp (i:Nat)(fv fk:Rho->Res GD):Rho->Res Out:=λρ=>fv ρ>>=λy=>fk ρ>>=λx=>match ρ[i]? with
 |some (some (.fr,.dict es))=>if lF x.2&&okIn y&&decide (es.length<bB)then .ok (.nx ((ρ.set i (some (.fr,.dict (dput es x.2 y.2)))).map cZ))else .no
 |some (some (.fr,.list xs))=>(match x.2 with
  |.int j=>if okIn y then(match jK xs.length j with|some n=>.ok (.nx ((ρ.set i (some (.fr,.list (xs.set n y.2)))).map cZ))|none=>.no)else .no
  |_=>.no)
 |_=>.no
theorem zuv {i:Nat}{x:Str}{p pos':Pos}{ie value:Expr}{fv fk:Rho->Res GD}(hu:X.A.units+64<cLine)(hN:X.N[i]?=some x)(hv:Vis X.env.scope x)(hd:aab x)(hcd:(x==("__classdict__":Str))=false)(hs:z1n value=false)(hk:PE X ie (tD X.K fk))(hva:PE X value (tD X.K fv)):
  PS X (.Assign [.Subscript (.Name x p) ie pos'] value pos) (tDS X.K (Gp i fv fk)):=by
 refine PS.imp (Uo (by omega) (sS hN hv hd hcd) hk hva (x6 hs _ _ _)) λD Y H zz=>?_;obtain⟨ρ,F,out,so,e,q⟩:=zz;obtain⟨y,e1,e⟩:=Res.aA e;obtain⟨kx,e2,e⟩:=Res.aA e;refine⟨ρ,F,y,so,e1,λv H1 s1 rv=>?_⟩;have iB:=so.same s1;split at e
 ·rename_i es hr;split at e
  case isFalse=>cases e
  rename_i hc;cases e;rw[br,br,decide_eq_true_eq]at hc;obtain⟨pa,h1,hO,h⟩:=CL iB hr;rcases h with⟨_,_,e3,_⟩|⟨kvs,es',e3,e4,r⟩
  ·cases e3
  ·cases e3;refine⟨_,h1,ρ,F,kx,iB,e2,λw H2 s2 bI=>.inl ?_⟩;obtain⟨k,ek,rfl,ok⟩:=z6 hc.1.1 bI;have e5:=s2 _ _ e4;refine⟨pa,_,rfl,DPut.k e5 (by rw[r.length];exact cb hc.2 (lR (ag _))),?_⟩
   have hk:∀a o,H2 a=some o->(Bin F (some a)\/Fix o)->upd H2 pa (.dK (putK kvs k v)) a=some o:=λa o e b=>by
    have fN:a≠pa:=by
     intro z;subst z;rcases b with b|b
     ·have b1:F.O a=none:=b.1;rw[hO]at b1;cases b1
     ·rw[e5]at e;cases e;exact b
    rw[aL fN];exact e
   have r':bC X.K (upd H2 pa (.dK (putK kvs k v))) (Bin F) (putK kvs k v) (dput es kx.2 y.2):=by rw[ek];exact bC.keep hk (λ_ z=>z) _ (bC.put ok (CK so hc.1.2 (rv.same s2 λ_ z=>z)) (r.same s2 λ_ z=>z))
   obtain⟨pL,f2⟩:=(iB.same s2).mutate (o':=.dK (putK kvs k v)) (d':=.dict (dput es kx.2 y.2)) hO h1 (.inr ⟨_,rfl⟩) ⟨pa,rfl,hO,.inr ⟨_,_,rfl,bE,r'⟩⟩;exact q Y _ F pL Run.refl ((cX.same (s1.trans s2)).trans f2)
 ·rename_i xs hr;split at e
  case h_2=>cases e
  rename_i j hj;split at e
  case isFalse=>cases e
  rename_i hc;split at e
  case h_2=>cases e
  rename_i n hn;cases e;obtain⟨pa,h1,hO,h⟩:=CL iB hr;rcases h with⟨vs,ds,e3,e4,r⟩|⟨_,_,e3,_⟩
  ·cases e3;refine⟨_,h1,ρ,F,kx,iB,e2,λw H2 s2 bI=>.inr ?_⟩;rw[hj]at bI;have ew:w=.int j:=bI;subst ew;have e5:=s2 _ _ e4;refine⟨pa,vs,j,n,rfl,rfl,e5,by rw[r.length];exact hn,?_⟩
   have hk:∀a o,H2 a=some o->(Bin F (some a)\/Fix o)->upd H2 pa (.lst (vs.set n v)) a=some o:=λa o e b=>by
    have fN:a≠pa:=by
     intro z;subst z;rcases b with b|b
     ·have b1:F.O a=none:=b.1;rw[hO]at b1;cases b1
     ·rw[e5]at e;cases e;exact b
    rw[aL fN];exact e
   have r':Reps X.K (upd H2 pa (.lst (vs.set n v))) (Bin F) (vs.set n v) (xs.set n y.2):=Reps.keep hk (λ_ z=>z) _ (Reps.set (CK so hc (rv.same s2 λ_ z=>z)) n (r.same s2 λ_ z=>z));obtain⟨pL,f2⟩:=(iB.same s2).mutate (o':=.lst (vs.set n v)) (d':=.list (xs.set n y.2)) hO h1 (.inl ⟨_,rfl⟩) ⟨pa,rfl,hO,.inl ⟨_,_,rfl,bE,r'⟩⟩;exact q Y _ F pL Run.refl ((cX.same (s1.trans s2)).trans f2)
  ·cases e3
 ·cases e
def tDF (K:W.Frag)(f:Rho->Res (G×List D×Rho)):TI:=λY H R=>∃ρ F w,StOk K F H Y ρ/\f ρ=.ok w/\∀J B H' F',Same H H'->Run F F'->cX F H F' H'->StOk K F' H' Y w.2.2->(∀a,B (some a)->F'.O a=none)->(∀a,B a->BI F' w.1 a)->Walk K J B H' w.2.1->R J H'
theorem Gq {K:W.Frag}(so:StOk K F H Y ρ){a:Addr}(hg:g≠.al)(h:BG F H g (some a)):F.O a=none:=by
 cases e1:F.O a with
 |none=>rfl
 |some j=>
  obtain⟨h0,_,h'⟩:=so.own a j e1;cases g with
  |fr=>have hb:=h;rcases h' with⟨xs,h'⟩|⟨xs,h'⟩<;>rw[hb]at h'<;>cases h'
  |od=>exact absurd h0 h.1
  |al=>exact absurd rfl hg
  |nu=>
   rcases h with h|h
   ·have hb:H a=none:=h;rcases h' with⟨xs,h'⟩|⟨xs,h'⟩<;>rw[hb]at h'<;>cases h'
   ·have hb:F.O a=none:=h.1;rw[hb]at e1;cases e1
theorem LR (hw:PI X tg e (tDW X.K fw)):PI X tg e (tDF X.K λρ=>fw ρ>>=λw=>if w.1==.al then .no else .ok (w.1,w.2,ρ)):=
 PI.imp hw λY H R ⟨ρ,F,w,so,e,q⟩=>by
  obtain⟨w0,e1,e⟩:=Res.aA e;refine⟨ρ,F,w0,so,e1,λJ B H1 s1 hB wk=>?_⟩;split at e
  ·cases e
  ·rename_i hal;cases e;exact q J B H1 F s1 Run.refl (cX.same s1) (so.same s1) (λa b=>Gq so (λz=>hal (by rw[z];rfl)) (hB _ b).1) (λa b=>BI.of so.aM (hB a b).1) wk
theorem StOk.giveUp {K:W.Frag}(so:StOk K F H Y ρ)(e:ρ[i]?=some (some (.fr,d))):StOk K (F.drop i) H Y (ρ.set i (some (.al,d))):=by
 obtain⟨v,h1,h2⟩:=so.sl i .fr d e;have:=so.lS (i:=i) (x:=(.al,d)) (h2.rep so.jU)
 have es:Y.set i (some v)=Y:=by
  apply tx;intro j;by_cases hj:i=j
  ·subst hj;rw[et];simp only[if_true,(aq.mp h1).1];exact h1.symm
  ·rw[ci hj]
 rw[es]at this;exact this
theorem Up (hN:X.N[i]?=some x)(hv:Vis X.env.scope x)(hd:aab x)(hcd:(x==("__classdict__":Str))=false):PI X tg (.Name x pos) (tDF X.K (Co i)):=by
 rintro pins s Y H R I ⟨ρ,F,w,so,e,q⟩
 unfold Co at e;split at e
 ·rename_i d hr;obtain⟨xs,e2,e⟩:=Res.aA e;cases e;obtain⟨v,h1,h2⟩:=so.sl i .fr d hr;refine aO (sS hN hv hd hcd pins s Y H (λu H1=>u=v/\H1=H) I ⟨v,h1,rfl,rfl⟩) λu s1 zz=>?_;obtain⟨y,H1,I1,r1,ey,eH⟩:=zz;subst ey eH
  let B:Ad->Prop:=λa=>match a with|some a=>(F.drop i).O a=none/\F.V a|none=>False
  have rv:Rep X.K H1 B y d:=by
   obtain⟨p,ey,hO,h3⟩:=h2
   have hb:∀a,Bin F a->B a:=λa b=>by
    cases a with
    |none=>exact b
    |some a=>exact⟨Fm.bL b.1,b.2.2⟩
   have hp:B (some p):=⟨by show(if F.O p=some i then none else F.O p)=none;rw[vg hO],so.jU p i hO⟩;rcases h3 with⟨vs,ds,rfl,e4,r⟩|⟨vs,ds,rfl,e4,r⟩
   ·exact⟨p,vs,ey,.inl ⟨e4,hp⟩,r.weak hb⟩
   ·exact⟨p,vs,ey,e4,hp,bC.same (λ_ _ e=>e) hb r⟩
  refine z37 I1 r1 rv e2 λJ wk=>q J B H1 (F.drop i) (Same.refl _) (Run.of rfl rfl rfl) (cX.drop (Same.refl _)) (so.giveUp hr) (λa b=>b.1) (λa b=>?_) wk;cases a with
  |none=>exact b.elim
  |some a=>exact b.2
 ·cases e
def Fm.oN (F:Fm)(H:Hp):Fm:={F with O:=λa=>match H a with|some (.dK _)=>F.O a|_=>none}
theorem Fm.iS {F:Fm}{a:Addr}(h:F.O a=none):(F.oN H).O a=none:=by
 unfold Fm.oN
 dsimp only
 split<;>first|exact h|rfl
theorem StOk.oN {K:W.Frag}(so:StOk K F H Y ρ):StOk K (F.oN H) H Y (ρ.map Fz) where
 ext:=so.ext
 aM:=so.aM
 own:=λa i e=>by
  have e':F.O a=some i:=by
   unfold Fm.oN at e
   dsimp only at e
   split at e
   ·exact e
   ·cases e
  exact so.own a i e'
 len:=by rw[ac];exact so.len
 sl:=λi g d e=>by
  rw[bj]at e;cases h1:ρ[i]? with
  |none=>rw[h1]at e;cases e
  |some o=>
   rw[h1]at e;have e':Fz o=some (g,d):=by simpa using e
   cases o with
   |none=>cases e'
   |some gd=>
    obtain⟨g0,d0⟩:=gd;obtain⟨v,h2,h3⟩:=so.sl i g0 d0 h1;refine⟨v,h2,?_⟩
    have hb:∀a,Bin F a->Bin (F.oN H) a:=λa b=>by
     cases a with
     |none=>exact b
     |some a=>exact⟨Fm.iS b.1,b.2.1,b.2.2⟩
    cases g0 with
    |od=>cases e';exact h3
    |al=>cases e';exact h3
    |nu=>cases e';exact Rep.weak hb h3
    |fr=>
     obtain⟨p,ev,hO,h4⟩:=id h3;rcases h4 with⟨vs,ds,rfl,e4,r⟩|⟨kvs,es,rfl,e4,r⟩
     ·have e2:some (G.al,PyData.list ds)=some (g,d):=e';cases e2;have h5:=Slot.rep so.jU h3;exact h5
     ·have e2:some (G.fr,PyData.dict es)=some (g,d):=e';cases e2;refine⟨p,ev,?_,.inr ⟨kvs,es,rfl,e4,bC.same (λ_ _ z=>z) hb r⟩⟩;unfold Fm.oN
      dsimp only
      rw[e4];exact hO
theorem Gr (ha:PE X e (tD X.K fa)):PI X tg e (tDF X.K λρ=>fa ρ>>=λx=>oG x ρ):=by
 rintro pins s Y H R I ⟨ρ,F,w,so,e0,q⟩
 obtain⟨⟨g,d⟩,e1,e0⟩:=Res.aA e0;unfold oG at e0
 dsimp only at e0
 split at e0
 ·rename_i xs;split at e0
  ·rename_i hi;cases e0;refine aO (ha pins s Y H (λv H1=>Same H H1/\Rep X.K H1 (BG F H g) v (.list xs)) I ⟨ρ,F,_,so,e1,λv H1 s1 rv=>⟨s1,rv⟩⟩) λv s1 zz=>?_;obtain⟨y,H1,I1,r1,Ae,rv⟩:=zz
   let B:Ad->Prop:=λa=>match a with|some a=>(F.oN H1).O a=none/\F.V a|none=>F.z
   have Ac:Rep X.K H1 B y (.list xs):=by
    obtain⟨p,vs,ey,h,r⟩:=rv;refine⟨p,vs,ey,?_,Reps.bG xs hi r⟩;rcases h with⟨h,b⟩|⟨h,b⟩
    ·refine .inl ⟨h,?_,(BG.aM so.aM b:bP F (some p))⟩;unfold Fm.oN
     dsimp only
     rw[h]
    ·exact .inr ⟨h,(BG.aM so.aM b:bP F none)⟩
   refine z37 I1 r1 Ac rfl λJ wk=>q J B H1 (F.oN H1) Ae (Run.of rfl rfl rfl) (λa o e n=>⟨Ae a o e,Fm.iS n⟩) ((so.same Ae).oN) (λa b=>b.1) (λa b=>?_) wk;cases a with
   |none=>exact b
   |some a=>exact b.2
  ·cases e0
 ·cases e0
theorem PI.LS {k:Rho->Bool}(hf:PI X tg e (tDF X.K f))(hg:PI X tg e (tDF X.K g)):PI X tg e (tDF X.K λρ=>if k ρ then f ρ else g ρ):=by
 rintro pins s Y H R I ⟨ρ,F,w,so,e,q⟩
 dsimp only at e
 cases hk:k ρ with
 |true=>exact hf pins s Y H R I ⟨ρ,F,w,so,by rw[vg hk]at e;exact e,q⟩
 |false=>exact hg pins s Y H R I ⟨ρ,F,w,so,by rw[vh (hk▸ce)]at e;exact e,q⟩
theorem zvd (hp:g8 (model X.prog X.w) X.A X.env X.xe)(hc:X.calm=true)(hi:PI X tg iter (tDF X.K fw))(hg:PG X tg (tDG X.K t))(hb:PSs X body (tDS X.K fs))(hs:∀x,gg iter X.env x=pure x):
  PS X (.For tg iter body [] pos) (tDS X.K λρ=>fw ρ>>=λw=>dE (λx ρ1=>eE t (gJ x w.1,x) ρ1>>=λcF=>fs cF) w.2.1 w.2.2):=
 PS.imp (z9x hp hc hi hg hb hs) λD Y H ⟨ρ,F,out,so,e,q⟩=>by
  obtain⟨w,e1,e⟩:=Res.aA e;refine⟨ρ,F,w,so,e1,λJ B H1 F1 s1 r1 f1 iB Uq Ur wk=>?_⟩;have q1:=q.back r1 f1;generalize hf:(λx ρ1=>eE t (gJ x w.1,x) ρ1>>=λcF=>fs cF)=f at e
  have kp:∀{F2:Fm} {H2:Hp},cX F1 H1 F2 H2->Kp B H1 H2:=λ{F2 H2} fr a o e b=>by
   have hO:F1.O a=none:=by
    rcases b with b|b
    ·exact Uq a b
    ·cases e2:F1.O a with
     |none=>rfl
     |some j=>obtain⟨_,_,h'⟩:=iB.own a j e2;rcases h' with⟨xs,h'⟩|⟨xs,h'⟩<;>rw[e]at h'<;>cases h'<;>exact b.elim
   exact(fr a o e hO).1
  let W:Nat->Nat->L2.St->Hp->Prop:=λi m eC H2=>m=w.2.1.length-i/\i<=w.2.1.length/\∃cF F2,StOk X.K F2 H2 eC cF/\Run F1 F2/\cX F1 H1 F2 H2/\dE f (w.2.1.drop i) cF=.ok out
  refine⟨W,⟨_,rfl,cz _,w.2.2,F1,iB,Run.refl,cX.refl,e⟩,?_⟩
  rintro i m eC H2 ⟨rfl,Us,cF,F2,pL,r2,f2,e2⟩
  by_cases cE:i<w.2.1.length
  ·refine .inr ⟨wk.go H2 (kp f2) i cE,W (i+1) (w.2.1.length-(i+1)),λσ' H' p=>⟨_,by omega,p⟩,λx H3 y=>?_⟩;obtain⟨s3,d,hd,rx⟩:=wk.iM H2 (kp f2) i x H3 cE y
   have yc:w.2.1.drop i=d::w.2.1.drop (i+1):=by
    rw[my cE];have:w.2.1[i]=d:=by rw[aw cE]at hd;simp_all
    rw[this]
   rw[yc]at e2;simp only[dE]at e2
   have Ge:Rep X.K H3 (BI F2 (gJ d w.1)) x d:=by
    have Ut:∀g a,BI F1 g a->BI F2 g a:=λg a b=>by cases g<;>cases a<;>first|exact b|(have b':F1.V _:=b;rw[<-r2.2.1]at b';exact b')|(have b':F1.z:=b;rw[<-r2.2.2]at b';exact b')|(have b':F1.H0 _≠none/\F1.V _:=b;exact⟨λz=>b'.1 (none_of r2.1 z),by rw[r2.2.1];exact b'.2⟩)
    unfold gJ;by_cases hi:aU d=true
    ·rw[vg hi];exact Rep.bG d hi rx
    ·rw[vh hi];exact rx.weak λa b=>Ut _ _ (Ur a b)
   cases e3:f d cF with
   |no=>rw[e3]at e2;cases e2
   |exc z=>rw[e3]at e2;cases e2
   |ok o1=>
    obtain⟨LU,e4,e5⟩:=Res.aA (by rw[<-e3,<-hf]);rw[e3]at e2;refine⟨cF,F2,(gJ d w.1,d),LU,pL.same s3,Ge,e4,λdC F4 CH gQ=>⟨LU,F4,o1,CH,e5,?_⟩⟩;have r4:=r2.trans (Run.of gQ.h0 gQ.v gQ.z);have f4:=f2.trans λa o e n=>⟨s3 a o e,gQ.o a n⟩;cases o1 with
    |nx Uu=>exact λσ' H' F' pK r' f'=>⟨rfl,cE,Uu,F',pK,r4.trans r',f4.trans f',e2⟩
    |rt g d=>cases e2;exact(q1.back r4 f4:Ah X.K F4 H3 D (.rt g d))
  ·have Aj:i=w.2.1.length:=by omega
   subst Aj;rw[List.drop_length]at e2;cases e2;exact .inl ⟨wk.stop H2 (kp f2),q1 eC H2 F2 pL r2 f2⟩
end
def rAgg (K:W.Frag)(f:String):List V->Hp->VK->Prop:=λxs H Q=>∃B x dx l ys d,xs=[x]/\Rep K H B x dx/\z7b dx=.ok (l,ys)/\aggD f l ys=.ok d/\∀w H',Same H H'->Rep K H' (λa=>nw H a\/(imms ys=false/\B a)) w d->Q w H'
theorem Gs {K:W.Frag}(r:Rep K H B x dx)(e:z7b dx=.ok (l,ys)):∃a vs,x=.ref a/\(if l then SqL K H a vs else bS K H a vs)/\Reps K H B vs ys:=by
 cases dx<;>try (cases e;done)
 ·cases e;obtain⟨a,vs,rfl,h,q⟩:=pJ r;exact⟨a,vs,rfl,h,q⟩
 ·cases e;obtain⟨a,vs,rfl,h,q⟩:=r;exact⟨a,vs,rfl,h,q⟩
theorem Reps.wx {K:W.Frag}(r:Reps K H B vs ys):Reps K H (λa=>nw H a\/(imms ys=false/\B a)) vs ys:=by
 cases hi:imms ys with
 |true=>exact Reps.bG ys hi r
 |false=>exact r.weak λ_ z=>.inr ⟨rfl,z⟩
section
variable {X:Cx}{e:Expr}{fa:Rho->Res GD}{pos:Pos}
theorem zpp (so:StOk X.K F H Y ρ)(e:((fa ρ>>=fun x=>z7b x.2>>=fun p=>Res.ok (x.1,p))>>=fun w=>aggD f w.2.1 w.2.2>>=fun d=>Res.ok ((gJ d (if imms w.2.2 then .fr else agG w.1),d):GD))=.ok z)(q:∀v H',Same H H'->Rep X.K H' (BG F H z.1) v z.2->Q v H'):
  vE (rAgg X.K f) (vB (tD X.K fa) kZ) Y H Q:=by
 obtain⟨w,e0,e⟩:=Res.aA e;obtain⟨x,e1,e0⟩:=Res.aA e0;obtain⟨p,e2,e0⟩:=Res.aA e0;cases e0;obtain⟨d,e3,e⟩:=Res.aA e;cases e;refine⟨ρ,F,x,so,e1,λv H1 s1 rv=>⟨_,v,x.2,p.1,p.2,d,rfl,rv,e2,e3,λw' H2 s2 bI=>q w' H2 (s1.trans s2) (tH bI λa h=>?_)⟩⟩;cases hi:imms p.2 with
 |true=>
  rcases h with h|⟨h,_⟩
  ·exact nw.back s1 h
  ·rw[hi]at h;cases h
 |false=>
  have al:bP F a:=by
   rcases h with h|⟨_,h⟩
   ·exact(nw.back s1 h).aM so.aM
   ·exact h.aM so.aM
  cases hg:x.1 with
  |fr=>
   rcases h with h|⟨_,h⟩
   ·exact nw.back s1 h
   ·rw[hg]at h;exact h
  |od=>exact al
  |al=>exact al
  |nu=>
   rcases h with h|⟨_,h⟩
   ·exact .inl (nw.back s1 h)
   ·rw[hg]at h;exact h
theorem LV:CallR X (.type "list") (rAgg X.K "list"):=by
 refine CallR.imp RQ λxs H Q h=>?_;obtain⟨B,x,dx,l,ys,d,rfl,r,e,e2,q⟩:=h;obtain⟨a,vs,rfl,h,rs⟩:=Gs r e;cases e2
 have h':SqL X.K H a vs\/bS X.K H a vs:=by
  cases l with
  |true=>exact .inl h
  |false=>exact .inr h
 refine⟨a,vs,rfl,h',λp hp=>q _ _ (Same.upd hp) (wg hp rs.wx (λ_ z=>z) (.inl hp))⟩
theorem Uv:CallR X (.type "tuple") (rAgg X.K "tuple"):=by
 refine CallR.imp RS λxs H Q h=>?_;obtain⟨B,x,dx,l,ys,d,rfl,r,e,e2,q⟩:=h;obtain⟨a,vs,rfl,h,rs⟩:=Gs r e;cases e2;refine⟨a,vs,rfl,?_⟩;cases l with
 |true=>exact .inl ⟨h,λp hp=>q _ _ (Same.upd hp) (CA hp rs.wx λ_ z=>z)⟩
 |false=>exact .inr ⟨h,q _ H (Same.refl H) ⟨a,vs,rfl,h,rs.wx⟩⟩
theorem zdv (hc:CallR X (.type f) (rAgg X.K f))(hm:X.mg x=none)(hv:dg x=some (.type f))(hs:isStar y=false)(ha:PE X y (tD X.K fa))(hg:Gl X x)(hn:x≠"__name__")(hdb:aab x):
  PE X (.Call (.Name x p) [y] [] pos) (tD X.K λρ=>(fa ρ>>=λx=>z7b x.2>>=λp=>Res.ok (x.1,p))>>=λw=>aggD f w.2.1 w.2.2>>=λd=>.ok (gJ d (if imms w.2.2 then .fr else agG w.1),d)):=
 PE.imp (Fi hc hm hv (fQ ha pF hs) (by simp[hs]) hg hn hdb) λY H Q ⟨ρ,F,z,so,e,q⟩=>zpp so e q
end
structure NoKeys (T id:String):Prop where
 own:PySem.Slot T "__getattribute__" id
 entry:entryFor table id=some Builtin.«object.__getattribute__»
 two:∀a b:Value,argsOk id {pos:=[a,b]}
 rest:typeLookup (.type T) "__getattr__"=pure none
 miss:∀(a:Addr) (xs:Array Value) (k:Nat) (sl:Array (Option Value)) (u:Tok),Meets (Builtin.«object.__getattribute__» {pos:=[.ref a,.str "keys" u]}) λA R s=>s.heap.get? a=some {cls:=.type T,data:=.seq xs k,slots:=sl}/\raisesAttr (.ref a) "keys" A R s
theorem Uw:NoKeys "list" "list.__getattribute__" where
 own:=F.slot_list_getattribute
 entry:=am_entry_list_getattribute
 two:=F.args_list_getattribute_2
 rest:=am_list_getattr_none
 miss:=λa xs k sl u=>meets_getattribute_miss_list a xs k sl "keys" u (by rw[typeLookup_type,builtinLookup_eq_fast];kernel_rfl) dc (by size_fits)
theorem Ux:NoKeys "tuple" "tuple.__getattribute__" where
 own:=F.slot_tuple_getattribute
 entry:=am_entry_tuple_getattribute
 two:=F.args_tuple_getattribute_2
 rest:=am_tuple_getattr_none
 miss:=λa xs k sl u=>meets_getattribute_miss_tuple a xs k sl "keys" u (by rw[typeLookup_type];kernel_rfl) dc (by size_fits)
theorem NoKeys.ask {T id:String}(N:NoKeys T id){prog:bx}{w:World}{A:d7}{E:Value->af->Prop}{s:af}{a:Addr}{o:Obj}{xs:Array Value}{k:Nat}{Q:Option Value->af->Prop}
  (hx:s.heap.get? a=some o) (hc:o.cls=.type T) (hdat:o.data=.seq xs k) (hd:o.dict=none) (hA:A.handled=none)
  (h:∀h' tk e,qr s.heap h' e "AttributeError"->Q none {s with heap:=h',toks:=tk}):
  wpAny (model prog w) A (tz (.ref a) "keys") Q E s:=by
 cases o;cases hc;cases hdat;cases hd;cases s;rename_i slots heap gens drawn toks os;have ty:∀t,(⟨heap,gens,drawn,t,os⟩:af).TypeIs (.ref a) T:=λt=>⟨_,hx,rfl⟩;have isA:=sub_AttributeError;have n1:=N.own.lookup;have n2:=N.own.bind (.ref a);have n3:=N.rest
 delta tz getAttrBy? getAttrBy
 repeat' (first|assumption|exact ty _|(apply mw N.own (ty _) N.entry (N.two _ _) (N.miss a xs k slots _))|wp_step)
 refine⟨hx,hA,λpG tk2 ex nx=>?_⟩;obtain⟨t2,u2,there⟩:=nx.there;have fin:=λt=>h _ t _ nx.of
 dsimp only[wants]
 delta getattributeRaised
 repeat' (first|assumption|apply fin|wp_step)
theorem Uy
 (hx:s.heap.get? a=some o) (hc:o.cls=.type "list") (hdat:o.data=.seq xs k) (hd:o.dict=none) (hA:A.handled=none) (h:∀h' tk e,qr s.heap h' e "AttributeError"->Q none {s with heap:=h',toks:=tk}):
 wpAny (model prog w) A (tz (.ref a) "keys") Q E s:=Uw.ask hx hc hdat hd hA h
theorem Uz
 (hx:s.heap.get? a=some o) (hc:o.cls=.type "tuple") (hdat:o.data=.seq xs k) (hd:o.dict=none) (hA:A.handled=none) (h:∀h' tk e,qr s.heap h' e "AttributeError"->Q none {s with heap:=h',toks:=tk}):
 wpAny (model prog w) A (tz (.ref a) "keys") Q E s:=Ux.ask hx hc hdat hd hA h
abbrev yd (X:Cx)(A:d7)(E:Value->af->Prop):Cx:={X with A:=A,xe:=E}
theorem _root_.L2.Inv.yd (I:Inv X pins Y H s)(hd:A.handled=X.A.handled)(hf:A.frames=X.A.frames):Inv (yd X A E) pins Y H s:=⟨⟨I.ok.mod,I.ok.kind,I.ok.glob,I.ok.blt,I.ok.above,I.ok.inj,I.ok.has,I.ok.sQ,λz=>hd.trans (I.ok.hd z),hf.trans I.ok.frames,I.ok.uV,I.ok.uW,I.ok.bs,I.ok.kW,I.ok.iI,I.ok.iJ,I.ok.cV,I.ok.pX,I.ok.BW⟩,I.os,I.bare,I.base,I.loc,I.cell,I.free,I.bF,I.pin,I.hok,I.len,I.fx⟩
theorem _root_.L2.Inv.Gu (ok:X.Ok)(I:Inv (yd X A E) pins Y H s):Inv X pins Y H s:=⟨ok,I.os,I.bare,I.base,I.loc,I.cell,I.free,I.bF,I.pin,I.hok,I.len,I.fx⟩
namespace F
theorem entry_dict_loop:entryFor table "dict.update.loop"=some Builtin.«dict.update.loop»:=entryFor_of_tree (by kernel_rfl)
theorem aV:plainId "dict.update.loop"=true:=by decide+kernel
end F
section
variable {X:Cx}{pins:List (Addr×Obj)}{Y:L2.St}
theorem UA (p:IsTup s.heap a its.toArray)(h:Q its s):wpAny (model prog w) A (Builtin.Dict.pairItems (.ref a)) Q E s:=by have hT:=p.typeIs;obtain⟨o,ho,hc,n,hd⟩:=p;apply ae;refine oq hT ?_;apply ae;refine p9 ho hd ?_;apply bq;simpa using h
theorem zse (hc:X.calm=true)(hA:X.A=A.in1)(T:Turn X.prog X.w X.K (.Name x0 p0) J fp it tn)(Wk:Walk X.K J B H1 ds)(hdB:¬B (some d)):
  ∀n i s H kvs (es:bY) t iv,ds.length-i=n->i<=ds.length->Inv X pins Y H s->tn i s.heap->(∀b∈fp,FpOk X pins H b)->H d=some (.dK kvs)->kvs.length<=i->bC X.K H B kvs es->lG es (ds.drop i)=some es'->Kp B H1 H->
   (∀s' H' lT,Inv X pins Y H' s'->H' d=some (.dK lT)->bC X.K H' B lT es'->(∀a o,a≠d->H a=some o->H' a=some o)->R (.ok (.ret .none)) s')->
   kz (model X.prog X.w) A (.builtin "dict.update.loop" ⟨[.ref d,.ref it,.int iv t,.none],[]⟩) R s:=by
 intro n
 induction n with
 |zero=>
  intro i s H kvs es t iv hn hi I st fo hd hl rs em kp hR;have e:i=ds.length:=by omega
  subst e;refine ph F.entry_dict_loop ?_;rw[Around.under_plainId F.aV _,<-hA];refine ae (aO (T.done X rfl rfl rfl hc _ pins s Y H _ I fo st (Wk.stop H kp)) λr s1 zz=>?_);obtain⟨rfl,I1⟩:=zz;rw[List.drop_length]at em;cases em;exact ae (bq (bq (hR s1 H kvs I1 hd rs λ_ _ _ e=>e)))
 |succ n ih=>
  intro i s H kvs es t iv hn hi I st fo hd hl rs em kp hR;have cE:i<ds.length:=by omega
  refine ph F.entry_dict_loop ?_;rw[Around.under_plainId F.aV _,<-hA];refine ae (aO (T.item X rfl rfl rfl hc i pins s Y H _ I fo st (Wk.go H kp i cE)) λr s1 zz=>?_);obtain⟨u,rfl,h4⟩:=zz;have key:∀(m:Sem PySem.Fin) Q' E',wpAny (model X.prog X.w) X.A (jf (.Name x0 p0) (.ref it) u>>=λ_=>m) Q' E' s1->wpAny (model X.prog X.w) X.A m Q' E' s1:=λm Q' E' h=>h;refine key _ _ _ (ae (aO h4 λ_ s5 zz=>?_));obtain⟨x,H5,I5,r5,y5,nN,zj⟩:=zz;obtain⟨sm,di,ye,rx⟩:=Wk.iM H kp i x H5 cE y5;have ed:ds.drop i=di::ds.drop (i+1):=by rw[my cE];rw[aw cE]at ye;cases ye;rfl
  rw[ed]at em;unfold lG at em;split at em
  case h_2=>cases em
  rename_i kd vd;split at em
  case isFalse=>cases em
  rename_i hk;obtain⟨a,vs,rfl,sq,oO⟩:=rx;obtain⟨vk,vv,rfl,rk,rv⟩:=F7 oO;cases r5;obtain⟨its,Gv,pt,_⟩:=I5.tuple sq;obtain⟨uk,uv,rfl,UB,UC⟩:=vals2 Gv;have B6:=I5.pinned (λb hb=>⟨zj b hb,(fo b hb).2⟩) (T.obj _ _ nN);have Gx:=sm _ _ hd;obtain⟨k,rfl,rfl,ok⟩:=z6 hk rk;obtain⟨z,x4,eW,rel,dd⟩:=z8j B6.hok Gx;have hz':eW.length<=bc:=rel.length▸z;have hz:=Wk.len;have qB:(putK kvs k vv).length<=i+1:=by have:=B9 kvs k vv;omega
  refine ae (gn (ae (wpAny_tryCatch (UA pt ?_))));refine gn (wpAny_dictSet_pairs (sU UB) dd λh' hW hs=>?_);have I6:=z5n (t':=s5.toks+1) B6 (Gx▸True.intro) hs (let⟨q,_,_,hq,_⟩:=hW;⟨q,hq⟩) (EI (by omega) x4 (rel.put k UC) hW)
  have LW:Kp B H5 (upd H5 d (.dK (putK kvs k vv))):=λb o e z=>by
   have:b≠d:=by
    rintro rfl
    rcases z with z|z
    ·exact hdB z
    ·rw[Gx]at e;cases e;exact z
   rw[aL this];exact e
  refine bq ⟨qt F.aV _,?_⟩;refine ih (i+1) _ (upd H5 d (.dK (putK kvs k vv))) (putK kvs k vv) (dput es (kD k) vd) _ _ (by omega) cE I6.bW ?_ ?_ bE qB ?_ em ?_ ?_
  ·exact T.keep _ _ _ nN λb hb o e=>(I6.pin (b,o) (ay _ (ay _ (xU hb e)))).1
  ·intro b hb;obtain⟨o,e,_⟩:=T.obj _ _ nN b hb;exact⟨(I6.pin (b,o) (ay _ (ay _ (xU hb e)))).2.1,(fo b hb).2⟩
  ·exact bC.keep LW (λ_ z=>z) _ (bC.put ok rv (rs.same sm λ_ z=>z))
  ·exact λb o e z=>LW b o (sm b o (kp b o e z)) z
  ·intro s' H' lT I' iY CM ext;refine hR s' H' lT I' iY CM λb o hb e=>ext b o hb ?_;rw[aL hb];exact sm b o e
theorem UD {K:W.Frag}(s:Same H H')(h:SqL K H a xs):SqL K H' a xs:=by
 rcases h with(h|⟨o,h⟩)|h
 ·exact .inl (.inl (s _ _ h))
 ·exact .inl (.inr ⟨o,s _ _ h⟩)
 ·exact .inr h
theorem UE (es:bY)(k v:D)(h1:bZ es=true)(h:aU v=true):bZ (es++[(k,v)])=true:=by
 unfold bZ at *
 rw[List.all_append,h1];simp[h]
theorem UG (k v:D)(hv:aU v=true)(es:bY)(h:bZ es=true):bZ (es.map λe=>if eqK e.1 k then(e.1,v)else e)=true:=by
 unfold bZ at *
 rw[b8]at *
 intro e he;obtain⟨e',h1,rfl⟩:=bf.mp he;split
 ·exact hv
 ·exact h e' h1
theorem LX:∀(ys:List D) es es',imms ys=true->bZ es=true->lG es ys=some es'->bZ es'=true
 | [],es,es',_,h,e=>by cases e;exact h
 |y::ys,es,es',h1,h2,e=>by
  simp only[imms,br]at h1;unfold lG at e;split at e
  case h_2=>cases e
  rename_i k v;split at e
  case isFalse=>cases e
  have hv:aU v=true:=by have:=h1.1;change(aU k&&(aU v&&true))=true at this;simp only[br]at this;exact this.2.1
  refine LX ys _ es' h1.2 ?_ e;unfold dput;split
  ·exact UG k v hv es h2
  ·exact UE es k v h2 hv
theorem UH (hc:X.calm=true):CallR X (.type "dict") (rAgg X.K "dict"):=by
 rintro pins s Y H xs us Q I r ⟨B,x,dx,l,ys,d,rfl,rx,e,e2,q⟩
 obtain⟨a,vs,rfl,LY,rs⟩:=Gs rx e
 have e3:∃es',lG [] ys=some es'/\d=.dict es':=by
  simp only[aggD,show("dict":String)≠"list" by decide,show("dict":String)≠"tuple" by decide,show("dict":String)≠"sorted" by decide,show("dict":String)≠"sum" by decide,show("dict":String)≠"all" by decide,show("dict":String)≠"any" by decide,if_true,if_false]at e2;cases h:lG [] ys with
  |none=>rw[h]at e2;cases e2
  |some es=>rw[h]at e2;cases e2;simp_all
 obtain⟨es',em,rfl⟩:=e3;have ew:z4x dx=.ok ys:=by cases dx<;>first|(cases e;done)|(cases e;rfl)
 obtain⟨u,rfl,rfl⟩:=vals1 r;have hp:=I.hok.fresh (ag _);have I1:Inv X pins Y (upd H s.heap.objs.size (.dK [])) {s with heap:=s.heap.push {cls:=.type "dict",data:=.dict #[]}}:=I.laid (λ_ _ q=>ah _ q) (ag _) (EJ s.heap I.big);refine callType_codes (Q₁:=λobj s₁=>obj=.ref s.heap.objs.size/\s₁={s with heap:=s.heap.push {cls:=.type "dict",data:=.dict #[]}}) PySem.F.kt_called_dict (PySem.F.kt_typeCall_dict_1 _) PySem.F.entry_dict_init (kt_code_dict_new _ ⟨rfl,rfl⟩) ?_
 rintro obj s₁ ⟨rfl,rfl⟩
 have qE:(⟨s.heap.push {cls:=.type "dict",data:=.dict #[]},s.gens,s.drawn,s.toks,s.os⟩:af).TypeIs (.ref s.heap.objs.size) "dict":=⟨_,bw _ rfl,rfl⟩;refine⟨qE,PySem.F.args_dict_init_2 _ _,?_⟩
 delta Builtin.«dict.__init__»
 refine ae ?_
 delta Builtin.Dict.selfAndRest
 refine ae (wpAny_notOrdered_dict qE ?_);refine bq ?_;show wpAny _ _ (ol "dict.__init__" s.heap.objs.size (.ref a) [] .none) _ _ _
 delta ol
 have rest:∀h' tk,(∀b o,(s.heap.push {cls:=.type "dict",data:=.dict #[]}).get? b=some o->h'.get? b=some o)->wpAny (model X.prog X.w) X.A.in1.in1 (uc (.ref a)) (λnM s2=>kz (model X.prog X.w) X.A.in1 (.builtin "dict.update.loop" ⟨[.ref s.heap.objs.size,nM,l7 0,.none],[]⟩) (wants (λr jH=>r=.none/\EP X pins Y Q (.ref s.heap.objs.size) jH) X.xe) s2) (λ_ _=>False) ⟨h',s.gens,s.drawn,tk,s.os⟩:=by
  intro h' tk kp;have I2:Inv (yd X X.A.in1.in1 (λ_ _=>False)) pins Y (upd H s.heap.objs.size (.dK [])) ⟨h',s.gens,s.drawn,tk,s.os⟩:=(I1.kept kp).yd rfl rfl;refine aO (z37 (tg:=.Name "" default) (R:=λJ H'=>Walk X.K J (λa=>B a/\¬nw H a) H' ys/\H'=upd H s.heap.objs.size (.dK [])) I2 (show RelV (.ref a) (.ref a)from rfl) ((Rep.there _ rx).same (Same.upd hp) λ_ z=>z) ew λJ wk=>⟨wk,rfl⟩) λnM s2 zz=>?_;obtain⟨it,fp,tn,J,H',UI,I3,T,st,fo,wk,eH⟩:=zz;subst UI eH;refine zse (X:=yd X X.A.in1.in1 (λ_ _=>False)) hc rfl T wk (λz=>z.2 hp) ys.length 0 s2 _ [] [] _ _ (by omega) (by omega) I3 st fo bE (ag _) rfl em (λ_ _ e _=>e) ?_;intro s' H' lT I' iY CM ext;refine⟨rfl,.ref s.heap.objs.size,H',I'.Gu I.ok,rfl,q _ H' (λb o e=>ext b o (eB e hp) (aL (eB e hp)▸e)) ⟨_,lT,rfl,iY,.inl hp,?_⟩⟩;cases hi:imms ys with
  |true=>exact bC.bG es' (LX ys [] es' hi rfl em) CM
  |false=>exact CM.same (Same.refl H') λ_ z=>.inr ⟨rfl,z.1⟩
 have hA:=I.ok.hd hc;cases l with
 |true=>obtain⟨its,_,⟨o,n,ho,iP,ye,Gy⟩,_⟩:=I1.list (UD (Same.upd hp) LY);refine ae (oq ⟨o,ho,iP⟩ ?_);refine ae (Uy ho iP Gy ye hA λh' tk e hx=>?_);refine ae (ox (ae (jl (rest h' tk hx.keeps) (λnM s2 lA=>?_) λ_ _ z=>z.elim)));exact bq ⟨qt F.aV _,lA⟩
 |false=>obtain⟨its,_,⟨o,n,ho,iP,ye,Gy⟩,_⟩:=I1.uX (bS.rel (Same.upd hp) LY);refine ae (oq ⟨o,ho,iP⟩ ?_);refine ae (Uz ho iP Gy ye hA λh' tk e hx=>?_);refine ae (ox (ae (jl (rest h' tk hx.keeps) (λnM s2 lA=>?_) λ_ _ z=>z.elim)));exact bq ⟨qt F.aV _,lA⟩
end
open PySem.W
def runT {α:Type}(lt:Nat->Nat->Bool):KasT α->α
 |.ret a=>a
 |.ask i j k=>runT lt (k (lt i j))
theorem yf {α β:Type}(lt:Nat->Nat->Bool)(f:α->KasT β):∀t,runT lt (t.bind f)=runT lt (f (runT lt t))
 |.ret _=>rfl
 |.ask i j k=>yf lt f (k (lt i j))
section
variable (key:Nat->Nat)
abbrev ltk:Nat->Nat->Bool:=λi j=>decide (key i<key j)
def Kp' (p:Array Nat)(i:Nat):Nat:=key (p.getD i 0)
variable {key}
theorem Ak (h:p[i]?=q[j]?):Kp' key p i=Kp' key q j:=by unfold Kp';rw[e8,e8,h]
theorem Al (hj:j<=p.size)(k:Nat):Kp' key (kas_rev p i j) k=if i<=k/\k<j then Kp' key p (i+j-1-k)else Kp' key p k:=by
 have h:=getElem?_mirror_all (i:=i) hj k;split
 ·rename_i hk;refine Ak ?_;unfold kas_rev;rw[h,vg hk]
 ·rename_i hk;refine Ak ?_;unfold kas_rev;rw[h,vh hk]
theorem LZ (hs:src<p.size)(hd:d<=src)(k:Nat):Kp' key (bubble p src d) k=if k=src-d then Kp' key p src else if src-d<k/\k<=src then Kp' key p (k-1)else Kp' key p k:=by
 have h:=getElem?_bubble hs d hd k;split
 ·rename_i hk;exact Ak (by rw[h,vg hk])
 ·rename_i hk;split
  ·rename_i Gz;exact Ak (by rw[h,vh hk,vg Gz])
  ·rename_i Gz;exact Ak (by rw[h,vh hk,vh Gz])
theorem CN (p:Array Nat)(i j:Nat):(kas_rev p i j).size=p.size:=mirror_size _ _ _ _
theorem Am (p:Array Nat)(i j:Nat):(kas_rev p i j).Perm p:=mirror_perm _ _ _ _
theorem z5z (p:Array Nat):∀f n,1<=n->n<=runT (ltk key) (kas_asc p f n)/\runT (ltk key) (kas_asc p f n)<=n+f/\(∀i,n<=i->i<runT (ltk key) (kas_asc p f n)->Kp' key p (i-1)<=Kp' key p i)/\
  (runT (ltk key) (kas_asc p f n)<n+f->Kp' key p (runT (ltk key) (kas_asc p f n))<Kp' key p (runT (ltk key) (kas_asc p f n)-1))
 |0,n,h=>⟨ag _,ag _,λi h1 h2=>absurd (j8 h1 h2) (cy _),λh2=>absurd h2 (cy _)⟩
 |f+1,n,h=>by
  have e:runT (ltk key) (kas_asc p (f+1) n)=runT (ltk key) (if decide (Kp' key p n<Kp' key p (n-1))=true then .ret n else kas_asc p f (n+1)):=rfl;rw[e];by_cases hc:Kp' key p n<Kp' key p (n-1)
  ·rw[vg (vn hc)];exact⟨ag _,Nat.le_add_right _ _,λi h1 h2=>absurd (j8 h1 h2) (cy _),λ_=>hc⟩
  ·rw[vh (by simpa using hc)];obtain⟨i1,i2,i3,i4⟩:=z5z p f (n+1) (by omega);refine⟨by omega,by omega,λi h1 h2=>?_,λh2=>i4 (by omega)⟩;by_cases hi:i=n
   ·subst hi;omega
   ·exact i3 i (by omega) h2
structure DPre (key:Nat->Nat)(p:Array Nat)(n q:Nat):Prop where
 one:1<=n
 qn:q+1<=n
 sz:n<=p.size
 de:∀i,1<=i->i<n->Kp' key p i<=Kp' key p (i-1)
 eq:∀i,n<=i+1+q->i<n->Kp' key p i=Kp' key p (n-1)
theorem DPre.rev (h:DPre key p n q)(k:Nat):Kp' key (kas_rev p (n-(q+1)) n) k=Kp' key p k:=by
 rw[Al h.sz];split
 ·rename_i hk;rw[h.eq k (by omega) hk.2,h.eq _ (by omega) (by omega)]
 ·rfl
theorem z3a:∀f p n q,DPre key p n q->n+f<=p.size->
  DPre key (runT (ltk key) (kas_desc f p n q)).1 (runT (ltk key) (kas_desc f p n q)).2.1 (runT (ltk key) (kas_desc f p n q)).2.2/\(runT (ltk key) (kas_desc f p n q)).1.Perm p/\(runT (ltk key) (kas_desc f p n q)).2.1<=n+f
 |0,p,n,q,h,hz=>⟨h,Array.Perm.refl _,ag _⟩
 |f+1,p,n,q,h,hz=>by
  have e:runT (ltk key) (kas_desc (f+1) p n q)=runT (ltk key) (if decide (Kp' key p n<Kp' key p (n-1))=true then(if q>0 then kas_desc f (kas_rev p (n-(q+1)) n) (n+1) 0 else kas_desc f p (n+1) 0) else .ask (p.getD (n-1) 0) (p.getD n 0) λd=>if d=true then .ret (p,n,q)else kas_desc f p (n+1) (q+1)):=rfl;rw[e];by_cases hc:Kp' key p n<Kp' key p (n-1)
  ·rw[vg (vn hc)];by_cases hq:q>0
   ·rw[vg hq]
    have h1:DPre key (kas_rev p (n-(q+1)) n) (n+1) 0:=⟨by omega,by omega,by rw[CN];omega,λi i1 i2=>by
     rw[h.rev,h.rev];by_cases hi:i=n
     ·subst hi;omega
     ·exact h.de i i1 (by omega),λi i1 i2=>by
     have:i=n:=by omega
     subst this;rfl⟩
    obtain⟨r1,r2,r3⟩:=z3a f _ (n+1) 0 h1 (by rw[CN];omega);exact⟨r1,r2.trans (Am _ _ _),by omega⟩
   ·rw[vh hq]
    have h1:DPre key p (n+1) 0:=⟨by omega,by omega,by omega,λi i1 i2=>by
     by_cases hi:i=n
     ·subst hi;omega
     ·exact h.de i i1 (by omega),λi i1 i2=>by
     have:i=n:=by omega
     subst this;rfl⟩
    obtain⟨r1,r2,r3⟩:=z3a f _ (n+1) 0 h1 (by omega);exact⟨r1,r2,by omega⟩
  ·rw[vh (by simpa using hc)];have e2:runT (ltk key) (KasT.ask (p.getD (n-1) 0) (p.getD n 0) λd=>if d=true then .ret (p,n,q)else kas_desc f p (n+1) (q+1))=runT (ltk key) (if decide (Kp' key p (n-1)<Kp' key p n)=true then .ret (p,n,q)else kas_desc f p (n+1) (q+1)):=rfl;rw[e2];by_cases lA:Kp' key p (n-1)<Kp' key p n
   ·rw[vg (vn lA)];exact⟨h,Array.Perm.refl _,by show n<=_;omega⟩
   ·rw[vh (by simpa using lA)]
    have h1:DPre key p (n+1) (q+1):=⟨by omega,by have :=h.qn;omega,by omega,λi i1 i2=>by
     by_cases hi:i=n
     ·subst hi;omega
     ·exact h.de i i1 (by omega),λi i1 i2=>by
     by_cases hi:i=n
     ·subst hi;rfl
     ·have :=h.eq i (by omega) (by omega);rw[sg];omega⟩
    obtain⟨r1,r2,r3⟩:=z3a f _ (n+1) (q+1) h1 (by omega);exact⟨r1,r2,by omega⟩
def Asc (key:Nat->Nat)(p:Array Nat)(m:Nat):Prop:=∀i,1<=i->i<m->Kp' key p (i-1)<=Kp' key p i
theorem z52 (h1:1<=n)(hn:n<=nrem)(hz:nrem<=p.size)(de:∀i,1<=i->i<n->Kp' key p i<=Kp' key p (i-1)):
  Asc key (runT (ltk key) (kas_tail3 n nrem p)).2 (runT (ltk key) (kas_tail3 n nrem p)).1/\(runT (ltk key) (kas_tail3 n nrem p)).2.Perm p/\1<=(runT (ltk key) (kas_tail3 n nrem p)).1/\(runT (ltk key) (kas_tail3 n nrem p)).1<=nrem:=by
 unfold kas_tail3;rw[yf];obtain⟨a1,a2,a3,_⟩:=z5z (key:=key) (kas_rev p 0 n) (nrem-n) n h1;refine⟨λi i1 i2=>?_,Am _ _ _,by show 1<=runT _ _;omega,by show runT _ _<=_;omega⟩;by_cases hi:i<n
 ·show Kp' key (kas_rev p 0 n) (i-1)<=Kp' key (kas_rev p 0 n) i;rw[Al (by omega),Al (by omega),vg (by omega),vg (by omega)];have:=de (0+n-1-(i-1)) (by omega) (by omega);have e:0+n-1-(i-1)-1=0+n-1-i:=by omega
  rw[e]at this;exact this
 ·exact a3 i (by omega) i2
theorem descPart_spec (h1:1<=n)(hn:n<nrem)(hz:nrem<=p.size)(eq:∀i,i<n->Kp' key p i=Kp' key p (n-1))(lt:Kp' key p n<Kp' key p (n-1)):
  Asc key (runT (ltk key) (kas_descPart n nrem p)).2 (runT (ltk key) (kas_descPart n nrem p)).1/\(runT (ltk key) (kas_descPart n nrem p)).2.Perm p/\1<=(runT (ltk key) (kas_descPart n nrem p)).1/\(runT (ltk key) (kas_descPart n nrem p)).1<=nrem:=by
 unfold kas_descPart;rw[yf]
 have h:DPre key p (n+1) 0:=⟨by omega,by omega,by omega,λi i1 i2=>by
  by_cases hi:i=n
  ·subst hi;omega
  ·rw[eq i (by omega),eq (i-1) (by omega)];exact ag _,λi i1 i2=>by
  have:i=n:=by omega
  subst this;rfl⟩
 obtain⟨r1,r2,r3⟩:=z3a (nrem-(n+1)) p (n+1) 0 h (by omega);generalize runT (ltk key) (kas_desc (nrem-(n+1)) p (n+1) 0)=r at r1 r2 r3 ⊢;have cM:=r2.size_eq;by_cases hq:r.2.2>0
 ·rw[vg hq];obtain⟨t1,t2,t3,t4⟩:=z52 (p:=kas_rev r.1 (r.2.1-(r.2.2+1)) r.2.1) (nrem:=nrem) r1.one (by omega) (by rw[CN,cM];exact hz) λi i1 i2=>by rw[r1.rev,r1.rev];exact r1.de i i1 i2
  exact⟨t1,t2.trans ((Am _ _ _).trans r2),t3,t4⟩
 ·rw[vh hq];obtain⟨t1,t2,t3,t4⟩:=z52 (nrem:=nrem) r1.one (by omega) (cM▸hz) r1.de;exact⟨t1,t2.trans r2,t3,t4⟩
theorem Asc.le (h:Asc key p m):∀d i,i+d<m->Kp' key p i<=Kp' key p (i+d)
 |0,i,_=>ag _
 |d+1,i,hm=>by exact cg (Asc.le h d i (by omega)) (h (i+d+1) (by omega) (by omega))
theorem zb0 (h1:1<=nrem)(hz:nrem<=p.size):
  Asc key (runT (ltk key) (kas_count nrem p)).2 (runT (ltk key) (kas_count nrem p)).1/\(runT (ltk key) (kas_count nrem p)).2.Perm p/\1<=(runT (ltk key) (kas_count nrem p)).1/\(runT (ltk key) (kas_count nrem p)).1<=nrem:=by
 unfold kas_count;rw[yf];obtain⟨a1,a2,a3,a4⟩:=z5z p (nrem-1) 1 (ag _);generalize runT (ltk key) (kas_asc p (nrem-1) 1)=n at a1 a2 a3 a4 ⊢;have ha:Asc key p n:=a3;by_cases hn:n=nrem
 ·rw[vg (by simpa using hn)];exact⟨ha,Array.Perm.refl _,a1,by show n<=_;omega⟩
 ·rw[vh (by simpa using hn)];have lt:=a4 (by omega);by_cases h2:n>1
  ·rw[vg h2];have e:runT (ltk key) (KasT.ask (p.getD 0 0) (p.getD (n-1) 0) λc=>if c=true then .ret (n,p)else kas_descPart n nrem (kas_rev p 0 n))=runT (ltk key) (if decide (Kp' key p 0<Kp' key p (n-1))=true then .ret (n,p)else kas_descPart n nrem (kas_rev p 0 n)):=rfl;rw[e];by_cases hc:Kp' key p 0<Kp' key p (n-1)
   ·rw[vg (vn hc)];exact⟨ha,Array.Perm.refl _,a1,by show n<=_;omega⟩
   ·rw[vh (by simpa using hc)]
    have eq:∀i,i<n->Kp' key p i=Kp' key p (n-1):=λi hi=>by
     have b1:=ha.le i 0 (by omega);have b2:=ha.le (n-1-i) i (by omega);have e1:0+i=i:=by omega
     have e2:i+(n-1-i)=n-1:=by omega
     rw[e1]at b1;rw[e2]at b2;omega
    have tI:∀i,i<n->Kp' key (kas_rev p 0 n) i=Kp' key p (n-1):=λi hi=>by rw[Al (by omega),vg (by omega)];exact eq _ (by omega)
    obtain⟨t1,t2,t3,t4⟩:=descPart_spec (p:=kas_rev p 0 n) (nrem:=nrem) (by omega) (by omega) (by rw[CN];exact hz) (λi hi=>by rw[tI i hi,tI (n-1) (by omega)]) (by rw[tI (n-1) (by omega),Al (by omega),vh (by omega)];exact lt);exact⟨t1,t2.trans (Am _ _ _),t3,t4⟩
  ·rw[vh h2];have GB:n=1:=by omega
   subst GB
   exact descPart_spec (Nat.le_refl _) (by omega) hz (fun i hi=>by have :i=0:=by omega
                                                                   subst this;rfl) lt
theorem place_spec (ha:Asc key p k):∀f l r,r-l<=f->l<=r->r<=k->(∀i,i<l->Kp' key p i<=Kp' key p k)->(∀i,r<=i->i<k->Kp' key p k<Kp' key p i)->
  runT (ltk key) (kas_place p k f l r)<=k/\(∀i,i<runT (ltk key) (kas_place p k f l r)->Kp' key p i<=Kp' key p k)/\(∀i,runT (ltk key) (kas_place p k f l r)<=i->i<k->Kp' key p k<Kp' key p i)
 |0,l,r,hf,hl,hr,h1,h2=>by
  have:l=r:=by omega
  subst this;exact⟨hr,h1,h2⟩
 |f+1,l,r,hf,hl,hr,h1,h2=>by
  unfold kas_place;by_cases hc:l ≥ r
  ·rw[vg hc];have:l=r:=by omega
   subst this;exact⟨hr,h1,h2⟩
  ·rw[vh hc];have e:runT (ltk key) (KasT.ask (p.getD k 0) (p.getD ((l+r)/2) 0) λc=>if c=true then kas_place p k f l ((l+r)/2)else kas_place p k f ((l+r)/2+1) r)=runT (ltk key) (if decide (Kp' key p k<Kp' key p ((l+r)/2))=true then kas_place p k f l ((l+r)/2)else kas_place p k f ((l+r)/2+1) r):=rfl;rw[e];have L0:l<=(l+r)/2:=by omega
   have hm2:(l+r)/2<r:=by omega
   generalize (l+r)/2=m at L0 hm2 ⊢;by_cases hx:Kp' key p k<Kp' key p m
   ·rw[vg (vn hx)];refine place_spec ha f l m (by omega) L0 (by omega) h1 λi i1 i2=>?_;have:=ha.le (i-m) m (by omega);have e2:m+(i-m)=i:=by omega
    rw[e2]at this;omega
   ·rw[vh (by simpa using hx)];refine place_spec ha f (m+1) r (by omega) (by omega) hr (λi i1=>?_) h2;have:=ha.le (m-i) i (by omega);have e2:i+(m-i)=m:=by omega
    rw[e2]at this;omega
theorem L1:∀f p k,Asc key p k->k+f<=p.size->Asc key (runT (ltk key) (kas_bin f p k)) (k+f)/\(runT (ltk key) (kas_bin f p k)).Perm p
 |0,p,k,ha,hz=>⟨ha,Array.Perm.refl _⟩
 |f+1,p,k,ha,hz=>by
  unfold kas_bin;rw[yf];obtain⟨l1,l2,l3⟩:=place_spec ha k 0 k (by omega) (cz _) (ag _) (λi hi=>absurd hi (Nat.not_lt_zero _)) λi i1 i2=>absurd (j8 i1 i2) (cy _);generalize runT (ltk key) (kas_place p k k 0 k)=l at l1 l2 l3 ⊢
  have hb:Asc key (bubble p k (k-l)) (k+1):=λi i1 i2=>by
   have e:k-(k-l)=l:=by omega
   rw[LZ (by omega) (by omega),LZ (by omega) (by omega),e];by_cases c1:i=l
   ·rw[vh (by omega),vh (by omega),vg c1];exact l2 _ (by omega)
   ·rw[vh c1];by_cases c2:i-1=l
    ·rw[vg c2,vg (by omega)];rw[c2];exact jc (l3 l (ag _) (by omega))
    ·rw[vh c2];by_cases c3:l<i
     ·rw[vg (by omega),vg (by omega)];exact ha (i-1) (by omega) (by omega)
     ·rw[vh (by omega),vh (by omega)];exact ha i i1 (by omega)
  obtain⟨b1,b2⟩:=L1 f (bubble p k (k-l)) (k+1) hb (by rw[bubble_size];omega);refine⟨?_,b2.trans (bubble_perm _ _ _)⟩;have e:k+1+f=k+(f+1):=by omega
  rw[e]at b1;exact b1
theorem L3 (n:Nat)(h1:1<=n):Asc key (runT (ltk key) (kas_sort n)) n/\(runT (ltk key) (kas_sort n)).Perm (jo (cn n)):=by
 unfold kas_sort;rw[yf];have cM:(jo (cn n)).size=n:=by simp
 obtain⟨c1,c2,c3,c4⟩:=zb0 h1 (by rw[cM];exact ag _);generalize runT (ltk key) (kas_count n (jo (cn n)))=r at c1 c2 c3 c4 ⊢;have hr:r.2.size=n:=by rw[c2.size_eq,cM]
 by_cases h:r.1<n
 ·rw[vg h];have e:max r.1 1=r.1:=by omega
  rw[e];obtain⟨b1,b2⟩:=L1 (n-r.1) r.2 r.1 c1 (by omega);refine⟨?_,b2.trans c2⟩;have e:r.1+(n-r.1)=n:=by omega
  rw[e]at b1;exact b1
 ·rw[vh h];have e:r.1=n:=by omega
  rw[e]at c1;exact⟨c1,c2⟩
end
theorem L4 {h:Heap}(hb:b≠a)(e:h.get? b=some o):(h.update a f).get? b=some o:=by rw[jv _ _ _ _ hb];exact e
def dI {α:Type}(n:Nat)(Q:α->Prop):KasT α->Prop
 |.ret a=>Q a
 |.ask i j k=>i<n/\j<n/\∀b,dI n Q (k b)
theorem dI.bind {α β:Type}{Q:α->Prop}{R:β->Prop}{f:α->KasT β}(hf:∀a,Q a->dI n R (f a)):∀{t:KasT α},dI n Q t->dI n R (t.bind f)
 |.ret a,h=>hf a h
 |.ask i j k,h=>⟨h.1,h.2.1,λb=>dI.bind hf (h.2.2 b)⟩
theorem dI.ite [Decidable c] (h1:dI n Q a)(h2:dI n Q b):dI n Q (if c then a else b):=by
 split
 ·exact h1
 ·exact h2
def AllIn (n:Nat)(p:Array Nat):Prop:=0<n/\∀x∈p,x<n
theorem AllIn.get (h:AllIn n p)(i:Nat):p.getD i 0<n:=by
 rw[e8];cases e:p[i]? with
 |none=>exact h.1
 |some x=>exact h.2 x (Array.mem_of_getElem? e)
theorem AllIn.perm (h:AllIn n p)(hp:q.Perm p):AllIn n q:=⟨h.1,λx hx=>h.2 x (hp.mem_iff.mp hx)⟩
theorem AllIn.rev (h:AllIn n p)(i j:Nat):AllIn n (kas_rev p i j):=h.perm (Am _ _ _)
theorem GC (h:AllIn n p):∀f m,dI n (λ_=>True) (kas_asc p f m)
 |0,m=>trivial
 |f+1,m=>⟨h.get _,h.get _,λb=>dI.ite trivial (GC h f (m+1))⟩
theorem CO:∀f p m q,AllIn n p->dI n (λr=>AllIn n r.1) (kas_desc f p m q)
 |0,p,m,q,h=>h
 |f+1,p,m,q,h=>⟨h.get _,h.get _,λb=>dI.ite (dI.ite (CO f _ _ _ (h.rev _ _)) (CO f _ _ _ h)) ⟨h.get _,h.get _,λd=>dI.ite h (CO f _ _ _ h)⟩⟩
theorem L5 (h:AllIn n p):dI n (λr=>AllIn n r.2) (kas_tail3 m r p):=by refine dI.bind (λa _=>?_) (GC (h.rev _ _) _ _);exact h.rev _ _
theorem L6 (h:AllIn n p):dI n (λr=>AllIn n r.2) (kas_descPart m r p):=dI.bind (λa ha=>dI.ite (L5 (AllIn.rev ha _ _)) (L5 ha)) (CO _ _ _ _ h)
theorem UJ (h:AllIn n p):dI n (λr=>AllIn n r.2) (kas_count r p):=by
 refine dI.bind (λm _=>?_) (GC h _ _);split
 ·exact h
 ·split
  ·refine⟨h.get _,h.get _,λc=>?_⟩;show dI n _ (if c=true then _ else _);split
   ·exact h
   ·exact L6 (h.rev _ _)
  ·exact L6 h
theorem GF (h:AllIn n p)(k:Nat):∀f l r,dI n (λ_=>True) (kas_place p k f l r)
 |0,l,r=>trivial
 |f+1,l,r=>by exact dI.ite trivial ⟨h.get _,h.get _,λc=>dI.ite (GF h k f _ _) (GF h k f _ _)⟩
theorem L7:∀(f:Nat) (p:Array Nat) (k:Nat),AllIn n p->dI n (λ_=>True) (kas_bin f p k)
 |0,p,k,h=>trivial
 |f+1,p,k,h=>dI.bind (λl _=>L7 f _ _ (h.perm (bubble_perm _ _ _))) (GF h k _ _ _)
theorem UK (h:0<n):dI n (λ_=>True) (kas_sort n):=by
 have h0:AllIn n (jo (cn n)):=⟨h,λx hx=>by simpa using hx⟩;refine dI.bind (λr hr=>?_) (UJ h0);split
 ·exact L7 _ _ _ hr
 ·exact trivial
theorem L8 {α:Type}{P:af->Prop}(h:∀i j C s,i<n->j<n->P s->(∀s',P s'->C (lt i j) s')->cmp i j C s){Q:α->af->Prop}:∀(t:KasT α) (s:af),dI n (λ_=>True) t->P s->(∀s',P s'->Q (runT lt t) s')->t.kasWp cmp Q s
 |.ret a,s,_,p,q=>q s p
 |.ask i j k,s,a,p,q=>h i j _ s a.1 a.2.1 p λs' p'=>L8 h (k (lt i j)) s' (a.2.2 _) p' q
structure OrdOn (p:D->Prop):Prop where
 gR:∀x,p x->cK x x=false
 tr:∀x y z,p x->p y->p z->cK x y=true->cK y z=true->cK x z=true
 iT:∀x y z,p x->p y->p z->cK x z=true->cK x y=true\/cK y z=true
 iC:∀x y,p x->p y->cK x y=false->cK y x=false->x=y
theorem mT (h:x8 x=true):∃i,x=.int i:=by cases x<;>first|(cases h;done)|exact⟨_,rfl⟩
theorem mU (h:Cm x=true):∃i,x=.str i:=by cases x<;>first|(cases h;done)|exact⟨_,rfl⟩
theorem An (a b:Int):cK (.int a) (.int b)=decide (a<b):=rfl
theorem UL (a b:Str):cK (.str a) (.str b)=decide (a.cps.toList<b.cps.toList):=rfl
theorem Ao:OrdOn (λx=>x8 x=true) where
 gR:=λx h=>by obtain⟨i,rfl⟩:=mT h;rw[An];simp
 tr:=λx y z hx hy hz h1 h2=>by obtain⟨i,rfl⟩:=mT hx;obtain⟨j,rfl⟩:=mT hy;obtain⟨k,rfl⟩:=mT hz;rw[An,decide_eq_true_eq]at *;omega
 iT:=λx y z hx hy hz h=>by
  obtain⟨i,rfl⟩:=mT hx;obtain⟨j,rfl⟩:=mT hy;obtain⟨k,rfl⟩:=mT hz;rw[An,decide_eq_true_eq]at *
  rw[An,decide_eq_true_eq];omega
 iC:=λx y hx hy h1 h2=>by
  obtain⟨i,rfl⟩:=mT hx;obtain⟨j,rfl⟩:=mT hy;rw[An,decide_eq_false_iff_not]at *
  rw[show i=j by omega]
theorem UM {b:Str}(h:a.cps.toList=b.cps.toList):a=b:=by obtain⟨⟨l⟩⟩:=a;obtain⟨⟨m⟩⟩:=b;simp only at h;rw[h]
theorem Ap:OrdOn (λx=>Cm x=true) where
 gR:=λx h=>by obtain⟨i,rfl⟩:=mU h;rw[UL];simp_all
 tr:=λx y z hx hy hz h1 h2=>by obtain⟨i,rfl⟩:=mU hx;obtain⟨j,rfl⟩:=mU hy;obtain⟨k,rfl⟩:=mU hz;exact strKind.trans _ _ _ h1 h2
 iT:=λx y z hx hy hz h=>by obtain⟨i,rfl⟩:=mU hx;obtain⟨j,rfl⟩:=mU hy;obtain⟨k,rfl⟩:=mU hz;exact strKind.negTrans _ _ _ h
 iC:=λx y hx hy h1 h2=>by obtain⟨i,rfl⟩:=mU hx;obtain⟨j,rfl⟩:=mU hy;rw[UM (strKind.total _ _ h1 h2)]
theorem qZ (b:Bool):OrdOn (λx=>ofK b x=true):=by
 cases b with
 |true=>exact Ao
 |false=>exact Ap
theorem GG (hx:ofK b x=true)(hy:ofK b y=true):cQ x y=true↔x=y:=by
 cases b with
 |true=>obtain⟨i,rfl⟩:=mT hx;obtain⟨j,rfl⟩:=mT hy;show(i==j)=true↔_;rw[beq_iff_eq];exact⟨λh=>by rw[h],λh=>by cases h;rfl⟩
 |false=>obtain⟨i,rfl⟩:=mU hx;obtain⟨j,rfl⟩:=mU hy;show(i==j)=true↔_;rw[beq_iff_eq];exact⟨λh=>by rw[h],λh=>by cases h;rfl⟩
theorem fW (h:cN (b::bs) xs=true):∃x r,xs=x::r/\ofK b x=true/\cN bs r=true:=by
 cases xs with
 |nil=>cases h
 |cons x r=>simp only[cN,br]at h;exact⟨x,r,rfl,h.1,h.2⟩
theorem gU (h:cN [] xs=true):xs=[]:=by
 cases xs with
 |nil=>rfl
 |cons x r=>cases h
theorem Aq (x y:D)(xs ys:List D):aH (x::xs) (y::ys)=if cQ x y then aH xs ys else cK x y:=by simp only[aH]
theorem rC (hx:ofK b x=true)(hy:ofK b y=true)(h:x=y):aH (x::xs) (y::ys)=aH xs ys:=by rw[Aq,vg ((GG hx hy).mpr h)]
theorem kM (hx:ofK b x=true)(hy:ofK b y=true)(h:x≠y):aH (x::xs) (y::ys)=cK x y:=by rw[Aq,vh λz=>h ((GG hx hy).mp z)]
theorem yg:aH [] []=false:=by simp[aH]
theorem L9:∀(bs:List Bool) (xs:List D),cN bs xs=true->aH xs xs=false
 | [],xs,h=>by rw[gU h];exact yg
 |b::bs,xs,h=>by obtain⟨x,r,rfl,h1,h2⟩:=fW h;rw[rC h1 h1 rfl];exact L9 bs r h2
theorem Ma:∀(bs:List Bool) (xs ys zs:List D),cN bs xs=true->cN bs ys=true->cN bs zs=true->aH xs ys=true->aH ys zs=true->aH xs zs=true
 | [],xs,ys,zs,h1,h2,h3,e1,e2=>by rw[gU h1,gU h2,yg]at e1;cases e1
 |b::bs,xs,ys,zs,h1,h2,h3,e1,e2=>by
  obtain⟨x,xs,rfl,hx,h1⟩:=fW h1;obtain⟨y,ys,rfl,hy,h2⟩:=fW h2;obtain⟨z,zs,rfl,hz,h3⟩:=fW h3;have O:=qZ b;by_cases xy:x=y
  ·rw[rC hx hy xy]at e1;by_cases yz:y=z
   ·rw[rC hy hz yz]at e2;rw[rC hx hz (xy.trans yz)];exact Ma bs xs ys zs h1 h2 h3 e1 e2
   ·rw[kM hy hz yz]at e2;rw[kM hx hz (by rw[xy];exact yz),xy];exact e2
  ·rw[kM hx hy xy]at e1;by_cases yz:y=z
   ·rw[kM hx hz (by rw[<-yz];exact xy),<-yz];exact e1
   ·rw[kM hy hz yz]at e2;have e3:=O.tr x y z hx hy hz e1 e2;rw[kM hx hz (λq=>by subst q;rw[O.gR x hx]at e3;cases e3)];exact e3
theorem Mb:∀(bs:List Bool) (xs ys zs:List D),cN bs xs=true->cN bs ys=true->cN bs zs=true->aH xs zs=true->aH xs ys=true\/aH ys zs=true
 | [],xs,ys,zs,h1,h2,h3,e1=>by rw[gU h1,gU h3,yg]at e1;cases e1
 |b::bs,xs,ys,zs,h1,h2,h3,e=>by
  obtain⟨x,xs,rfl,hx,h1⟩:=fW h1;obtain⟨y,ys,rfl,hy,h2⟩:=fW h2;obtain⟨z,zs,rfl,hz,h3⟩:=fW h3;have O:=qZ b;by_cases xz:x=z
  ·rw[rC hx hz xz]at e;by_cases xy:x=y
   ·rw[rC hx hy xy,rC hy hz (xy.symm.trans xz)];exact Mb bs xs ys zs h1 h2 h3 e
   ·rw[kM hx hy xy,kM hy hz (λq=>xy (xz.trans q.symm)),<-xz];cases e1:cK x y with
    |true=>exact .inl rfl
    |false=>
     cases e2:cK y x with
     |true=>exact .inr rfl
     |false=>exact(xy (O.iC x y hx hy e1 e2)).elim
  ·rw[kM hx hz xz]at e;by_cases xy:x=y
   ·rw[kM hy hz (λq=>xz (xy.trans q)),<-xy];exact .inr e
   ·rw[kM hx hy xy];by_cases yz:y=z
    ·rw[yz];exact .inl e
    ·rw[kM hy hz yz];exact O.iT x y z hx hy hz e
theorem Mc:∀(bs:List Bool) (xs ys:List D),cN bs xs=true->cN bs ys=true->aH xs ys=false->aH ys xs=false->xs=ys
 | [],xs,ys,h1,h2,e1,e2=>by rw[gU h1,gU h2]
 |b::bs,xs,ys,h1,h2,e1,e2=>by
  obtain⟨x,xs,rfl,hx,h1⟩:=fW h1;obtain⟨y,ys,rfl,hy,h2⟩:=fW h2;by_cases xy:x=y
  ·rw[rC hx hy xy]at e1;rw[rC hy hx xy.symm]at e2;rw[xy,Mc bs xs ys h1 h2 e1 e2]
  ·rw[kM hx hy xy]at e1;rw[kM hy hx (λq=>xy q.symm)]at e2;exact(xy ((qZ b).iC x y hx hy e1 e2)).elim
theorem oP (h:zah bs x=true):∃xs,x=.tuple xs/\cN bs xs=true:=by cases x<;>first|(cases h;done)|exact⟨_,rfl,h⟩
theorem Md (a b:List D):cK (.tuple a) (.tuple b)=aH a b:=rfl
theorem GH (bs:List Bool):OrdOn (λx=>zah bs x=true) where
 gR:=λx h=>by obtain⟨i,rfl,h⟩:=oP h;rw[Md];exact L9 bs i h
 tr:=λx y z hx hy hz h1 h2=>by obtain⟨i,rfl,hx⟩:=oP hx;obtain⟨j,rfl,hy⟩:=oP hy;obtain⟨k,rfl,hz⟩:=oP hz;exact Ma bs _ _ _ hx hy hz h1 h2
 iT:=λx y z hx hy hz h=>by obtain⟨i,rfl,hx⟩:=oP hx;obtain⟨j,rfl,hy⟩:=oP hy;obtain⟨k,rfl,hz⟩:=oP hz;exact Mb bs _ _ _ hx hy hz h
 iC:=λx y hx hy h1 h2=>by obtain⟨i,rfl,hx⟩:=oP hx;obtain⟨j,rfl,hy⟩:=oP hy;rw[Mc bs _ _ hx hy h1 h2]
def lU (l:List D):Prop:=l.Pairwise λa b=>cK b a=false
theorem GI (x:D):∀l:List D,(iQ x l).Perm (x::l)
 | []=>.refl _
 |y::l=>by
  unfold iQ;split
  ·exact((GI x l).cons y).trans (.swap x y l)
  ·exact .refl _
theorem GJ:∀l:List D,(jR l).Perm l
 | []=>.refl _
 |x::l=>(GI x (jR l)).trans ((GJ l).cons x)
section
variable {p:D->Prop}(O:OrdOn p)
include O
theorem OrdOn.GK (hx:p x)(hy:p y)(h:cK x y=true):cK y x=false:=by
 cases e:cK y x with
 |false=>rfl
 |true=>have:=O.tr x y x hx hy hx h e;rw[O.gR x hx]at this;cases this
theorem Me (x:D)(hx:p x):∀l:List D,(∀y∈l,p y)->lU l->lU (iQ x l)
 | [],_,_=>gj _ _
 |y::l,hp,hs=>by
  have hy:=hp y (by simp);have hl:∀z∈l,p z:=λz hz=>hp z (by simp[hz]);obtain⟨h1,h2⟩:=c9.mp hs;unfold iQ;split
  ·rename_i hc;refine c9.mpr ⟨λz hz=>?_,Me x hx l hl h2⟩;rcases ak.mp ((GI x l).mem_iff.mp hz)with rfl|hz
   ·exact O.GK hy hx hc
   ·exact h1 z hz
  ·rename_i hc;refine c9.mpr ⟨λz hz=>?_,hs⟩;rcases(ak.mp hz)with rfl|hz
   ·exact by simpa using hc
   ·cases e:cK z x with
    |false=>rfl
    |true=>
     rcases O.iT z y x (hl z hz) hy hx e with q|q
     ·rw[h1 z hz]at q;cases q
     ·exact(hc q).elim
theorem Mf:∀l:List D,(∀y∈l,p y)->lU (jR l)
 | [],_=>List.Pairwise.nil
 |x::l,hp=>Me O x (hp x (by simp)) _ (λz hz=>hp z (by simp[(GJ l).mem_iff.mp hz])) (Mf l λz hz=>hp z (by simp[hz]))
theorem Mg:∀{a b:List D},(∀y∈a,p y)->a.Perm b->lU a->lU b->a=b
 | [],b,_,hp,_,_=>(hp.symm.eq_nil).symm
 |x::a,[],_,hp,_,_=>by have:=hp.length_eq;simp at this
 |x::a,y::b,hq,hp,ha,hb=>by
  obtain⟨a1,a2⟩:=c9.mp ha;obtain⟨b1,b2⟩:=c9.mp hb;have hx:=hq x (by simp);have hy:=hq y (hp.mem_iff.mpr (by simp))
  have e:x=y:=by
   refine O.iC x y hx hy ?_ ?_
   ·rcases ak.mp (hp.mem_iff.mp (show x∈x::a by simp))with q|q
    ·rw[<-q];exact O.gR x hx
    ·exact b1 x q
   ·rcases ak.mp (hp.mem_iff.mpr (show y∈y::b by simp))with q|q
    ·rw[<-q];exact O.gR y hy
    ·exact a1 y q
  subst e;rw[Mg (λz hz=>hq z (by simp[hz])) (List.perm_cons x |>.mp hp) a2 b2]
def rank (ds:List D)(i:Nat):Nat:=ds.countP λd=>cK d (ds.getD i .none)
omit O in
theorem Mh {q r:D->Bool}:∀(l:List D),(∀x∈l,q x=true->r x=true)->(∃x∈l,r x=true/\q x=false)->l.countP q<l.countP r
 | [],_,⟨_,h,_⟩=>by simp at h
 |x::l,h,⟨y,hy,h1,h2⟩=>by
  have hl:l.countP q<=l.countP r:=pp λz hz=>h z (by simp[hz]);rcases(ak.mp hy)with rfl|hy
  ·rw[List.countP_cons_of_neg (by rw[h2];simp),List.countP_cons_of_pos h1];omega
  ·have :=Mh l (λz hz=>h z (by simp[hz])) ⟨y,hy,h1,h2⟩;rw[List.countP_cons,List.countP_cons];have hx:=h x (by simp);cases e:q x with
   |true=>rw[hx e];simp;exact this
   |false=>simp;split<;>omega
theorem Mj (hp:∀d∈ds,p d)(hi:i<ds.length)(hj:j<ds.length):decide (rank ds i<rank ds j)=cK (ds.getD i .none) (ds.getD j .none):=by
 have ei:ds.getD i .none=ds[i]:=by simp[hi]
 have ej:ds.getD j .none=ds[j]:=by simp[hj]
 have mi:=dh hi;have mj:=dh hj;unfold rank;rw[ei,ej];cases e:cK ds[i] ds[j]with
 |true=>rw[decide_eq_true_eq];exact Mh ds (λx hx h=>O.tr x _ _ (hp x hx) (hp _ mi) (hp _ mj) h e) ⟨ds[i],mi,e,O.gR _ (hp _ mi)⟩
 |false=>
  rw[decide_eq_false_iff_not]
  have:ds.countP (λd=>cK d ds[j])<=ds.countP λd=>cK d ds[i]:=pp λx hx h=>by
   rcases O.iT x _ _ (hp x hx) (hp _ mi) (hp _ mj) h with q|q
   ·exact q
   ·rw[e]at q;cases q
  omega
theorem UN (hp:∀d∈ds,p d)(hn:1<=ds.length):(runT (ltk (rank ds)) (kas_sort ds.length)).toList.map (λi=>ds.getD i .none)=jR ds:=by
 obtain⟨h1,h2⟩:=L3 ds.length hn;generalize runT (ltk (rank ds)) (kas_sort ds.length)=q at h1 h2 ⊢;have hq:q.toList.Perm (cn ds.length):=by simpa using h2.toList
 have cM:q.size=ds.length:=by rw[h2.size_eq];simp
 have gC:(q.toList.map λi=>ds.getD i .none).Perm ds:=by
  refine(hq.map _).trans ?_
  have:(cn ds.length).map (λi=>ds.getD i .none)=ds:=by
   apply List.ext_getElem
   ·simp
   ·intro i h1 h2;simp;rw[aw (by simpa using h2)];rfl
  rw[this]
 refine Mg O (λy hy=>hp y (gC.mem_iff.mp hy)) (gC.trans (GJ ds).symm) ?_ (Mf O ds hp);unfold lU;rw[nh,List.pairwise_iff_getElem];intro i j hi hj hij;have F6:i<ds.length:=by rw[<-cM];simpa using hi
 have hj':j<ds.length:=by rw[<-cM];simpa using hj
 have le:=h1.le (j-i) i (by omega);have e:i+(j-i)=j:=by omega
 rw[e]at le;have ki:Kp' (rank ds) q i=rank ds q.toList[i]:=by unfold Kp';rw[e8];simp[cM,F6]
 have kj:Kp' (rank ds) q j=rank ds q.toList[j]:=by unfold Kp';rw[e8];simp[cM,hj']
 have m1:q.toList[i]<ds.length:=by simpa using hq.mem_iff.mp (dh hi)
 have m2:q.toList[j]<ds.length:=by simpa using hq.mem_iff.mp (dh hj)
 rw[<-Mj O hp m2 m1,decide_eq_false_iff_not];omega
end
def tJ (b:Bool)(x:D)(u:Value):Prop:=if b then ∃i t,x=.int i/\u=.int i t else ∃z t,x=.str z/\u=.str z t
theorem Ml {K:W.Frag}(hx:ofK b x=true)(r:Rep K H B v x)(ru:RelV v u):tJ b x u:=by
 cases b with
 |true=>obtain⟨i,rfl⟩:=mT hx;have e:=r;subst e;obtain⟨t,rfl⟩:=ru;exact⟨i,t,rfl,rfl⟩
 |false=>obtain⟨z,rfl⟩:=mU hx;have e:=r.1;subst e;obtain⟨t,rfl⟩:=ru;exact⟨z,t,rfl,rfl⟩
section
variable {prog:bx}{w:World}{A:d7}{E:Value->af->Prop}{s:af}{b:Bool}{x y:D}{u v:Value}{Q:Bool->af->Prop}
theorem UO (h1:tJ b x u)(h2:tJ b y v)(q:Q (cQ x y) s):wpAny (model prog w) A (eqBool u v) Q E s:=by
 cases b with
 |true=>obtain⟨i,t,rfl,rfl⟩:=h1;obtain⟨j,t',rfl,rfl⟩:=h2;exact wpAny_eqBool_int q
 |false=>
  obtain⟨i,t,rfl,rfl⟩:=h1;obtain⟨j,t',rfl,rfl⟩:=h2;refine wpAny_eqBool_str ?_;have e:cQ (.str i) (.str j)=decide (i=j):=by show(i==j)=decide (i=j);apply j4.mpr;rw[beq_iff_eq,decide_eq_true_eq]
  rw[<-e];exact q
theorem Mm (c:Bool)(h1:tJ b x u)(h2:tJ b y v)(q:Q (cK x y) s):wpAny (model prog w) A (oneLt' c u v) Q E s:=by
 cases b with
 |true=>
  obtain⟨i,t,rfl,rfl⟩:=h1;obtain⟨j,t',rfl,rfl⟩:=h2;cases c with
  |true=>exact oneLt_int q
  |false=>exact kat_one _ _ (PyProof.Rows.lt_int q)
 |false=>
  obtain⟨i,t,rfl,rfl⟩:=h1;obtain⟨j,t',rfl,rfl⟩:=h2;cases c with
  |true=>exact oneLt_str q
  |false=>exact kat_one _ _ (PyProof.Rows.lt_str q)
end
def lV:List Bool->List D->List Value->Prop
 | [],xs,us=>xs=[]/\us=[]
 |b::bs,xs,us=>∃x r u t,xs=x::r/\us=u::t/\ofK b x=true/\tJ b x u/\lV bs r t
theorem GL {K:W.Frag}:∀{bs:List Bool} {xs:List D} {vs:List V} {us:List Value},cN bs xs=true->Reps K H B vs xs->Vals vs us->lV bs xs us
 | [],xs,vs,us,h,r,rv=>by have e:=gU h;subst e;have e2:=r;subst e2;cases rv;exact⟨rfl,rfl⟩
 |b::bs,xs,vs,us,h,r,rv=>by
  obtain⟨x,tF,rfl,h1,h2⟩:=fW h;obtain⟨v,t,rfl,r1,r2⟩:=r;cases rv with
  |cons a c=>exact⟨x,tF,_,_,rfl,rfl,h1,Ml h1 r1 a,GL h2 r2 c⟩
theorem Mn:∀{bs:List Bool} {xs ys:List D} {us vs:List Value} (i:Nat),lV bs xs us->lV bs ys vs->Q (aH xs ys) s->KatLex prog w A b false Q (us.zip vs) i s
 | [],xs,ys,us,vs,i,h1,h2,q=>by obtain⟨rfl,rfl⟩:=h1;obtain⟨rfl,rfl⟩:=h2;exact q
 |c::bs,xs,ys,us,vs,i,h1,h2,q=>by
  obtain⟨x,xs,u,us,rfl,rfl,hx,sx,h1⟩:=h1;obtain⟨y,ys,v,vs,rfl,rfl,hy,sy,h2⟩:=h2;refine kat_cons (UO sx sy ?_);rw[Aq]at q;cases e:cQ x y with
  |true=>rw[e,vg rfl]at q;exact kat_yes (Mn (i+1) h1 h2 q)
  |false=>rw[e,vh ce]at q;exact kat_no (Mm _ sx sy q)
theorem GN:∀{bs:List Bool} {xs:List D} {us:List Value},lV bs xs us->us.length=bs.length
 | [],_,_,h=>by rw[h.2];rfl
 |b::bs,_,_,h=>by obtain⟨x,r,u,t,rfl,rfl,_,_,h⟩:=h;rw[bv,bv,GN h]
theorem z12.some (x:z12 P w H h a o):∃q,h.get? a=some q:=by
 cases o with
 |lst xs=>obtain⟨_,_,_,_,e⟩:=x;exact⟨_,e⟩
 |tup xs=>obtain⟨_,_,_,_,e⟩:=x;exact⟨_,e⟩
 |dK kvs=>obtain⟨_,_,_,_,o,_,_,e,_⟩:=x;exact⟨_,e⟩
 |dT kvs=>obtain⟨_,_,_,_,o,_,_,e,_⟩:=x;exact⟨_,e⟩
 |set S n=>obtain⟨ob,es,ep,t,e,c⟩:=x;exact⟨_,e⟩
 |ins C dx fs=>obtain⟨d,z,ne,e,_⟩:=x;exact⟨_,e⟩
 |own y=>exact x
 |xd fs=>obtain⟨mA,⟨od,es,ep,e,c⟩,r⟩:=x;exact⟨_,e⟩
 |fL ob u=>exact⟨_,x.1⟩
 |nI ps=>exact⟨_,x⟩
 |ext φ=>obtain⟨p,⟨o,e⟩,st⟩:=x;exact⟨_,e⟩
theorem Mo (r:Vals vs us):∀(is:List Nat),(∀i∈is,i<vs.length)->Vals (is.map λi=>vs.getD i .bA) (is.map λi=>us.getD i Value.none)
 | [],_=>.nil
 |i::is,h=>by
  have hi:=h i (by simp);obtain⟨u,hu,ru⟩:=r.get (i:=i) (x:=vs[i]) (by simp[hi]);have e1:vs.getD i .bA=vs[i]:=by simp[hi]
  have e2:us.getD i Value.none=u:=by rw[bd,hu];rfl
  rw[bh,bh,e1,e2];exact .cons ru (Mo r is λj hj=>h j (by simp[hj]))
theorem Mp {K:W.Frag}(r:Reps K H B vs ds):∀(is:List Nat),(∀i∈is,i<ds.length)->Reps K H B (is.map λi=>vs.getD i .bA) (is.map λi=>ds.getD i .none)
 | [],_=>rfl
 |i::is,h=>by
  have hi:=h i (by simp);obtain⟨v,hv,rv⟩:=r.get (i:=i) (d:=ds[i]) (by simp[hi]);have e1:ds.getD i .none=ds[i]:=by simp[hi]
  have e2:vs.getD i .bA=v:=by rw[bd,hv];rfl
  rw[bh,bh,e1,e2];exact Reps.cons rv (Mp r is λj hj=>h j (by simp[hj]))
section
variable {X:Cx}
theorem Mq {K:W.Frag}(rs:Reps K H B vs ys)(rv:Vals vs its)(hi:i<ys.length):∃v,Rep K H B v (ys.getD i .none)/\RelV v (its.getD i Value.none)/\its[i]?=some (its.getD i Value.none):=by
 obtain⟨v,h1,h2⟩:=rs.get (i:=i) (d:=ys[i]) (by simp[hi]);obtain⟨u,h3,h4⟩:=rv.get h1;have e1:ys.getD i .none=ys[i]:=by simp[hi]
 have e2:its.getD i Value.none=u:=by rw[bd,h3];rfl
 rw[e1,e2];exact⟨v,h2,h4,h3⟩
theorem UP {its:List Value}(h:u∈its):∃i,i<its.length/\its.getD i Value.none=u:=by obtain⟨i,hi,e⟩:=qj h;exact⟨i,hi,by rw[<-e];simp[hi]⟩
theorem zix {s:af}(b:Bool)(hy:∀d∈ys,ofK b d=true)(rs:Reps X.K H B vs ys)(rv:Vals vs its)(h2:2<=ys.length)(h':Heap):
  wpAny (model X.prog X.w) A (keyKind' its.toArray) (λκ s'=>s'={s with heap:=h'}/\∀i j (C:Bool->af->Prop),i<ys.length->j<ys.length->C (cK (ys.getD i .none) (ys.getD j .none)) {s with heap:=h'}->kas_ask X.prog X.w A κ its i j C {s with heap:=h'}) (λ_ _=>False) {s with heap:=h'}:=by
 have hl:its.length=ys.length:=by rw[<-rv.length,rs.length]
 have sc:∀i,i<ys.length->tJ b (ys.getD i .none) (its.getD i Value.none):=λi hi=>by obtain⟨v,h1,h2,_⟩:=Mq rs rv hi;exact Ml (hy _ (by rw[bd,aw hi];exact dh hi)) h1 h2
 have ty:∀u∈its,Looks (model X.prog X.w) h' (ud u) (.type (if b then "int"else "str")):=λu hu=>by
  obtain⟨i,hi,rfl⟩:=UP hu;have:=sc i (by omega);cases b with
  |true=>obtain⟨k,t,_,e⟩:=this;rw[e];exact Looks.of_pure rfl
  |false=>obtain⟨k,t,_,e⟩:=this;rw[e];exact Looks.of_pure rfl
 refine kas_kind (by omega) ty (by cases b<;>decide) (by cases b<;>decide) ⟨rfl,λi j C hi hj hC=>?_⟩;exact Mm true (sc i hi) (sc j hj) hC
theorem zpw (I:Inv X pins Y H s)(kp:∀b o,s.heap.get? b=some o->o.cls=.type "tuple"->b≠X.env.locals->h'.get? b=some o)(b:Bool)(bs:List Bool):
  ∀{ys:List D} {vs:List V} {its:List Value},(∀d∈ys,zah (b::bs) d=true)->Reps X.K H B vs ys->Vals vs its->∃fs,KatTups h' its fs/\fs.length=its.length/\∀f∈fs,∃x,tJ b x f
 | [],vs,its,_,r,rv=>by have e:=r;subst e;cases rv;exact⟨[],trivial,rfl,λ_ z=>nomatch z⟩
 |y::ys,vs,its,hy,r,rv=>by
  obtain⟨v,t,rfl,r1,r2⟩:=r;cases rv with
  |cons a c=>
   obtain⟨fs,k1,k2,k3⟩:=zpw I kp b bs (λd hd=>hy d (by simp[hd])) r2 c;obtain⟨xs,rfl,hs⟩:=oP (hy y (by simp));obtain⟨ad,ws,rfl,sq,bI⟩:=r1;cases a;obtain⟨Ar,rj,pt,_⟩:=I.tuple sq;obtain⟨o,ho,hc,n,hd⟩:=pt;have gB:ad≠X.env.locals:=by intro z;subst z;obtain⟨_,⟨o',es,ep,ho',iY,_⟩,_⟩:=id I.loc;rw[ho]at ho';cases ho';rw[hd]at iY;cases iY
   have sc:=GL hs bI rj;obtain⟨x,r,u,t',rfl,rfl,_,sx,_⟩:=sc;exact⟨u::fs,KatTups.cons (kp _ _ ho hc gB) hc hd (by simp) k1,by simp[k2],λf hf=>(ak.mp hf).elim (λz=>⟨x,by rw[z];exact sx⟩) (k3 f)⟩
theorem zpu (I:Inv X pins Y H s)(b:Bool)(bs:List Bool)(hy:∀d∈ys,zah (b::bs) d=true)(rs:Reps X.K H B vs ys)(rv:Vals vs its)(h2:2<=ys.length)(kp:∀b o,s.heap.get? b=some o->o.cls=.type "tuple"->b≠X.env.locals->h'.get? b=some o):
  wpAny (model X.prog X.w) A (keyKind' its.toArray) (λκ s'=>s'={s with heap:=h'}/\∀i j (C:Bool->af->Prop),i<ys.length->j<ys.length->C (cK (ys.getD i .none) (ys.getD j .none)) {s with heap:=h'}->kas_ask X.prog X.w A κ its i j C {s with heap:=h'}) (λ_ _=>False) {s with heap:=h'}:=by
 have hl:its.length=ys.length:=by rw[<-rv.length,rs.length]
 obtain⟨fs,k1,k2,k3⟩:=zpw I kp b bs hy rs rv
 have ty:∀u∈fs,Looks (model X.prog X.w) h' (ud u) (.type (if b then "int"else "str")):=λu hu=>by
  obtain⟨x,this⟩:=k3 u hu;cases b with
  |true=>obtain⟨k,t,_,e⟩:=this;rw[e];exact Looks.of_pure rfl
  |false=>obtain⟨k,t,_,e⟩:=this;rw[e];exact Looks.of_pure rfl
 have part:∀i,i<ys.length->∃ad xs o Ar n,its.getD i Value.none=.ref ad/\ys.getD i .none=.tuple xs/\h'.get? ad=some o/\o.data=.seq (jo Ar) n/\lV (b::bs) xs Ar:=λi hi=>by
  obtain⟨v,r1,r2,_⟩:=Mq rs rv hi;obtain⟨xs,ex,hs⟩:=oP (hy (ys.getD i .none) (by rw[bd,aw hi];exact dh hi));rw[ex]at r1;obtain⟨ad,ws,rfl,sq,bI⟩:=r1;obtain⟨Ar,rj,⟨o,ho,hc,n,hd⟩,_⟩:=I.tuple sq;have gB:ad≠X.env.locals:=by intro z;subst z;obtain⟨_,⟨o',es,ep,ho',iY,_⟩,_⟩:=id I.loc;rw[ho]at ho';cases ho';rw[hd]at iY;cases iY
  exact⟨ad,xs,o,Ar,n,r2,ex,kp _ _ ho hc gB,hd,GL hs bI rj⟩
 refine kat_kind k1 (by omega) ty (by cases b<;>decide) ⟨rfl,λi j C hi hj hC=>?_⟩;obtain⟨ai,xi,oi,ji,ni,e1,e2,e3,e4,e5⟩:=part i hi;obtain⟨aj,xj,oj,jj,nj,f1,f2,f3,f4,f5⟩:=part j hj;show wpAny _ _ (keyLt' _ (its.getD i Value.none) (its.getD j Value.none)) C _ _;rw[e1,f1];refine kat_lt e3 e4 f3 f4 ?_;have ef:decide ((jo ji).size<(jo jj).size)=false:=by rw[ax,ax,GN e5,GN f5];simp
 rw[ef];rw[e2,f2,Md]at hC;exact Mn 0 e5 f5 hC
end
structure iU (p:D->Prop):Prop extends OrdOn p where
 eq:∀x y,p x->p y->(cQ x y=true↔x=y)
structure cO (q:List D->Prop):Prop where
 gR:∀x,q x->aH x x=false
 tr:∀x y z,q x->q y->q z->aH x y=true->aH y z=true->aH x z=true
 iT:∀x y z,q x->q y->q z->aH x z=true->aH x y=true\/aH y z=true
 iC:∀x y,q x->q y->aH x y=false->aH y x=false->x=y
 eq:∀x y,q x->q y->(PyData.eqvAll x y=true↔x=y)
section
variable {p:D->Prop}(O:iU p){x y z:D}{xs ys zs:List D}
include O
theorem fX (hx:p x)(hy:p y)(h:x=y):aH (x::xs) (y::ys)=aH xs ys:=by rw[Aq,vg ((O.eq x y hx hy).mpr h)]
theorem dX (hx:p x)(hy:p y)(h:x≠y):aH (x::xs) (y::ys)=cK x y:=by rw[Aq,vh λz=>h ((O.eq x y hx hy).mp z)]
theorem As (hx:p x)(hy:p y)(hz:p z)(ih:aH xs ys=true->aH ys zs=true->aH xs zs=true)(e1:aH (x::xs) (y::ys)=true)(e2:aH (y::ys) (z::zs)=true):aH (x::xs) (z::zs)=true:=by
 by_cases xy:x=y
 ·rw[fX O hx hy xy]at e1;by_cases yz:y=z
  ·rw[fX O hy hz yz]at e2;rw[fX O hx hz (xy.trans yz)];exact ih e1 e2
  ·rw[dX O hy hz yz]at e2;rw[dX O hx hz (xy▸yz),xy];exact e2
 ·rw[dX O hx hy xy]at e1;by_cases yz:y=z
  ·rw[dX O hx hz (yz▸xy),<-yz];exact e1
  ·rw[dX O hy hz yz]at e2;have e3:=O.tr x y z hx hy hz e1 e2;rw[dX O hx hz (λq=>by subst q;rw[O.gR x hx]at e3;cases e3)];exact e3
theorem Mr (hx:p x)(hy:p y)(hz:p z)(ih:aH xs zs=true->aH xs ys=true\/aH ys zs=true)(e:aH (x::xs) (z::zs)=true):aH (x::xs) (y::ys)=true\/aH (y::ys) (z::zs)=true:=by
 by_cases xz:x=z
 ·rw[fX O hx hz xz]at e;by_cases xy:x=y
  ·rw[fX O hx hy xy,fX O hy hz (xy.symm.trans xz)];exact ih e
  ·rw[dX O hx hy xy,dX O hy hz (λq=>xy (xz.trans q.symm)),<-xz];cases e1:cK x y with
   |true=>exact .inl rfl
   |false=>
    cases e2:cK y x with
    |true=>exact .inr rfl
    |false=>exact(xy (O.iC x y hx hy e1 e2)).elim
 ·rw[dX O hx hz xz]at e;by_cases xy:x=y
  ·rw[dX O hy hz (λq=>xz (xy.trans q)),<-xy];exact .inr e
  ·rw[dX O hx hy xy];by_cases yz:y=z
   ·rw[yz];exact .inl e
   ·rw[dX O hy hz yz];exact O.iT x y z hx hy hz e
theorem Ms (hx:p x)(hy:p y)(ih:aH xs ys=false->aH ys xs=false->xs=ys)(e1:aH (x::xs) (y::ys)=false)(e2:aH (y::ys) (x::xs)=false):x::xs=y::ys:=by
 by_cases xy:x=y
 ·rw[fX O hx hy xy]at e1;rw[fX O hy hx xy.symm]at e2;rw[xy,ih e1 e2]
 ·rw[dX O hx hy xy]at e1;rw[dX O hy hx (λq=>xy q.symm)]at e2;exact(xy (O.iC x y hx hy e1 e2)).elim
theorem Mt (hx:p x)(hy:p y)(ih:PyData.eqvAll xs ys=true↔xs=ys):PyData.eqvAll (x::xs) (y::ys)=true↔x::xs=y::ys:=by rw[PyData.eqvAll,br,ih,List.cons.injEq];exact and_congr (O.eq x y hx hy) Iff.rfl
end
theorem cO.nil:cO (λl=>l=[]) where
 gR:=λx h=>by rw[h];exact yg
 tr:=λx y z h1 h2 h3 e1 e2=>by rw[h1,h2]at e1;cases e1
 iT:=λx y z h1 h2 h3 e=>by rw[h1,h3]at e;cases e
 iC:=λx y h1 h2 _ _=>h1.trans h2.symm
 eq:=λx y h1 h2=>by rw[h1,h2];exact⟨λ_=>rfl,λ_=>rfl⟩
theorem cO.cons {p:D->Prop}{q:List D->Prop}(O:iU p)(L:cO q):cO (λl=>∃x r,l=x::r/\p x/\q r) where
 gR:=λl h=>by obtain⟨x,r,rfl,hx,hr⟩:=h;rw[fX O hx hx rfl];exact L.gR r hr
 tr:=λl1 l2 l3 h1 h2 h3=>by obtain⟨x,r,rfl,hx,hr⟩:=h1;obtain⟨y,t,rfl,hy,ht⟩:=h2;obtain⟨z,u,rfl,hz,hu⟩:=h3;exact As O hx hy hz (L.tr _ _ _ hr ht hu)
 iT:=λl1 l2 l3 h1 h2 h3=>by obtain⟨x,r,rfl,hx,hr⟩:=h1;obtain⟨y,t,rfl,hy,ht⟩:=h2;obtain⟨z,u,rfl,hz,hu⟩:=h3;exact Mr O hx hy hz (L.iT _ _ _ hr ht hu)
 iC:=λl1 l2 h1 h2=>by obtain⟨x,r,rfl,hx,hr⟩:=h1;obtain⟨y,t,rfl,hy,ht⟩:=h2;exact Ms O hx hy (L.iC _ _ hr ht)
 eq:=λl1 l2 h1 h2=>by obtain⟨x,r,rfl,hx,hr⟩:=h1;obtain⟨y,t,rfl,hy,ht⟩:=h2;exact Mt O hx hy (L.eq _ _ hr ht)
theorem UQ (h:aH [] ys=true):∃y r,ys=y::r:=by
 cases ys with
 |nil=>rw[yg]at h;cases h
 |cons y r=>exact⟨y,r,rfl⟩
theorem Au (y:D)(r:List D):aH [] (y::r)=true:=by simp[aH]
theorem CP (y:D)(r:List D):aH (y::r) []=false:=by simp[aH]
section
variable {p:D->Prop}(O:iU p)
include O
theorem Mu:∀xs:List D,(∀x∈xs,p x)->aH xs xs=false
 | [],_=>yg
 |x::xs,h=>by rw[fX O (h x (by simp)) (h x (by simp)) rfl];exact Mu xs λz hz=>h z (by simp[hz])
theorem Aw:∀xs ys zs:List D,(∀x∈xs,p x)->(∀x∈ys,p x)->(∀x∈zs,p x)->aH xs ys=true->aH ys zs=true->aH xs zs=true
 | [],ys,zs,h1,h2,h3,e1,e2=>by
  obtain⟨y,r,rfl⟩:=UQ e1;cases zs with
  |nil=>rw[CP]at e2;cases e2
  |cons z t=>exact Au z t
 |x::xs,[],zs,h1,h2,h3,e1,e2=>by rw[CP]at e1;cases e1
 |x::xs,y::ys,[],h1,h2,h3,e1,e2=>by rw[CP]at e2;cases e2
 |x::xs,y::ys,z::zs,h1,h2,h3,e1,e2=>As O (h1 x (by simp)) (h2 y (by simp)) (h3 z (by simp)) (Aw xs ys zs (λw hw=>h1 w (by simp[hw])) (λw hw=>h2 w (by simp[hw])) λw hw=>h3 w (by simp[hw])) e1 e2
theorem Mv:∀xs ys zs:List D,(∀x∈xs,p x)->(∀x∈ys,p x)->(∀x∈zs,p x)->aH xs zs=true->aH xs ys=true\/aH ys zs=true
 | [],[],zs,h1,h2,h3,e=>.inr e
 | [],y::ys,zs,h1,h2,h3,e=>.inl (Au y ys)
 |x::xs,ys,[],h1,h2,h3,e=>by rw[CP]at e;cases e
 |x::xs,[],z::zs,h1,h2,h3,e=>.inr (Au z zs)
 |x::xs,y::ys,z::zs,h1,h2,h3,e=>Mr O (h1 x (by simp)) (h2 y (by simp)) (h3 z (by simp)) (Mv xs ys zs (λw hw=>h1 w (by simp[hw])) (λw hw=>h2 w (by simp[hw])) λw hw=>h3 w (by simp[hw])) e
theorem Mw:∀xs ys:List D,(∀x∈xs,p x)->(∀x∈ys,p x)->aH xs ys=false->aH ys xs=false->xs=ys
 | [],[],h1,h2,e1,e2=>rfl
 | [],y::ys,h1,h2,e1,e2=>by rw[Au]at e1;cases e1
 |x::xs,[],h1,h2,e1,e2=>by rw[Au]at e2;cases e2
 |x::xs,y::ys,h1,h2,e1,e2=>Ms O (h1 x (by simp)) (h2 y (by simp)) (Mw xs ys (λw hw=>h1 w (by simp[hw])) λw hw=>h2 w (by simp[hw])) e1 e2
theorem Ax:∀xs ys:List D,(∀x∈xs,p x)->(∀x∈ys,p x)->(PyData.eqvAll xs ys=true↔xs=ys)
 | [],[],h1,h2=>⟨λ_=>rfl,λ_=>rfl⟩
 | [],y::ys,h1,h2=>⟨λh=>by simp[PyData.eqvAll]at h,λh=>nomatch h⟩
 |x::xs,[],h1,h2=>⟨λh=>by simp[PyData.eqvAll]at h,λh=>nomatch h⟩
 |x::xs,y::ys,h1,h2=>Mt O (h1 x (by simp)) (h2 y (by simp)) (Ax xs ys (λw hw=>h1 w (by simp[hw])) λw hw=>h2 w (by simp[hw]))
theorem cO.all:cO (λl=>∀x∈l,p x):=⟨Mu O,Aw O,Mv O,Mw O,Ax O⟩
end
theorem cO.tup {q:List D->Prop}(L:cO q):iU (λd=>∃l,d=.tuple l/\q l) where
 gR:=λd h=>by obtain⟨l,rfl,h⟩:=h;exact L.gR l h
 tr:=λx y z h1 h2 h3=>by obtain⟨l,rfl,h1⟩:=h1;obtain⟨m,rfl,h2⟩:=h2;obtain⟨n,rfl,h3⟩:=h3;exact L.tr l m n h1 h2 h3
 iT:=λx y z h1 h2 h3=>by obtain⟨l,rfl,h1⟩:=h1;obtain⟨m,rfl,h2⟩:=h2;obtain⟨n,rfl,h3⟩:=h3;exact L.iT l m n h1 h2 h3
 iC:=λx y h1 h2 e1 e2=>by obtain⟨l,rfl,h1⟩:=h1;obtain⟨m,rfl,h2⟩:=h2;rw[L.iC l m h1 h2 e1 e2]
 eq:=λx y h1 h2=>by obtain⟨l,rfl,h1⟩:=h1;obtain⟨m,rfl,h2⟩:=h2;show PyData.eqvAll l m=true↔_;rw[L.eq l m h1 h2];exact⟨λh=>by rw[h],λh=>by cases h;rfl⟩
theorem iU.of (O:iU q)(h:∀d,p d->q d):iU p where
 gR:=λx hx=>O.gR x (h x hx)
 tr:=λx y z hx hy hz=>O.tr x y z (h x hx) (h y hy) (h z hz)
 iT:=λx y z hx hy hz=>O.iT x y z (h x hx) (h y hy) (h z hz)
 iC:=λx y hx hy=>O.iC x y (h x hx) (h y hy)
 eq:=λx y hx hy=>O.eq x y (h x hx) (h y hy)
theorem UR (b:Bool):iU (λx=>ofK b x=true):=⟨qZ b,λ_ _=>GG⟩
theorem cO.sh:∀bs,cO (λl=>cN bs l=true)
 | []=>⟨λx h=>cO.nil.gR x (gU h),λx y z h1 h2 h3=>cO.nil.tr x y z (gU h1) (gU h2) (gU h3),λx y z h1 h2 h3=>cO.nil.iT x y z (gU h1) (gU h2) (gU h3),λx y h1 h2=>cO.nil.iC x y (gU h1) (gU h2),λx y h1 h2=>cO.nil.eq x y (gU h1) (gU h2)⟩
 |b::bs=>by have L:=cO.cons (UR b) (cO.sh bs);exact⟨λx h=>L.gR x (fW h),λx y z h1 h2 h3=>L.tr x y z (fW h1) (fW h2) (fW h3),λx y z h1 h2 h3=>L.iT x y z (fW h1) (fW h2) (fW h3),λx y h1 h2=>L.iC x y (fW h1) (fW h2),λx y h1 h2=>L.eq x y (fW h1) (fW h2)⟩
theorem US (r:KV kvs vs){i:Nat}(h:kvs[i]?=some (k,v)):∃u,vs[i]?=some (k,u)/\RelV v u:=by
 induction r generalizing i with
 |nil=>simp at h
 |cons a b ih=>
  cases i with
  |zero=>cases h;rename_i bb _ _;obtain⟨b1,b2⟩:=bb;obtain⟨rfl,a2⟩:=a;exact⟨b2,rfl,a2⟩
  |succ i=>exact ih h
theorem UT (h:(z0k P w).is k u=true):RelV (kV k) u:=by
 rcases pC h with⟨i,t,rfl,rfl⟩|⟨x,t,rfl,rfl⟩
 ·exact⟨t,rfl⟩
 ·exact⟨t,rfl⟩
theorem bC.at {K:W.Frag}:∀{kvs:List (Key×V)} {es:bY} {i:Nat} {k:Key} {v:V},bC K H B kvs es->kvs[i]?=some (k,v)->∃d,es[i]?=some (kD k,d)/\keyOk k/\Rep K H B v d
 |kvs,[],i,k,v,r,e=>by have:kvs=[]:=r;subst this;simp at e
 |kvs,(kd,d)::es,i,k,v,r,e=>by
  obtain⟨k',v',t,rfl,rfl,ok,h1,h2⟩:=r;cases i with
  |zero=>cases e;exact⟨d,rfl,ok,h1⟩
  |succ i=>rw[km]at e ⊢;exact bC.at h2 e
theorem Mx {K:W.Frag}(ok:keyOk k):Rep K H B (kV k) (kD k):=by
 cases k with
 |inl i=>exact rfl
 |inr x=>exact⟨rfl,ok⟩
section
variable {X:Cx}
theorem UU {K:W.Frag}{F:Fm}{H:Hp}{Y:L2.St}{ρ:Rho}{i:Nat}{g:G}{es:bY}(so:StOk K F H Y ρ)(e:ρ[i]?=some (some (g,.dict es))):∃d kvs B,Y[i]?=some (some (.ref d))/\H d=some (.dK kvs)/\F.V d/\bC K H B kvs es:=by
 obtain⟨v,h1,h2⟩:=so.sl i g _ e;cases g with
 |fr=>
  obtain⟨p,rfl,ho,h⟩:=h2;rcases h with⟨_,_,z,_⟩|⟨kvs,es',z,h3,r⟩
  ·cases z
  ·cases z;exact⟨p,kvs,_,h1,h3,(so.own p i ho).2.1,r⟩
 |od=>obtain⟨p,kvs,rfl,h3,b,r⟩:=h2;exact⟨p,kvs,_,h1,h3,b.2,r⟩
 |al=>obtain⟨p,kvs,rfl,h3,b,r⟩:=h2;exact⟨p,kvs,_,h1,h3,b,r⟩
 |nu=>obtain⟨p,kvs,rfl,h3,b,r⟩:=h2;exact⟨p,kvs,_,h1,h3,b.2.2,r⟩
end
section
variable {X:Cx}{pins:List (Addr×Obj)}{Y:L2.St}{H:Hp}{s:af}
theorem _root_.L2.Inv.Ay (I:Inv X pins Y H s)(f:FpOk X pins H a)(new:z12 X.prog X.w (upd H a u) s.heap a u):Inv X pins Y (upd H a u) s:=by
 obtain⟨f0,f1,f2,f3,f4,f5⟩:=f
 exact I.step (ch:=[a]) (fun b hb=>by
   have e:b=a:=by simpa using hb
   subst e;exact⟨f3,f1,f4,f5⟩) (λb q _ _ _ e _=>e) (λb q _ _ _ e _=>⟨q.slots,e⟩) (λb q hc _ n=>by rw[aL (λz=>hc (by simp[z]))];exact n) (λb q _ e=>⟨q,e⟩)
  (λb xs q=>by rw[aL (eB q f0)];exact q) (λb v xs q=>by rw[aL (eB q f0)];exact q) (λb ps q=>⟨#[],by rw[aL (eB q f0),q];simp⟩) (λm h=>h) (λb v e=>by
   by_cases hb:b=a
   ·subst hb;rw[bE]at e;cases e;exact new
   ·rw[aL hb]at e;exact(I.hok b v e).stay (λc w _ q=>q) (λc q=>by rw[aL (eB q f0)];exact q) λc xs q=>by rw[aL (eB q f0)];exact q) I.bare
theorem z7p:∀(l:List (Addr×List V)) {H:Hp},Inv X pins Y H s->(l.map (·.1)).Nodup->(∀q∈l,FpOk X pins H q.1)->(∀q∈l,q.2.length<=bc/\∃its,Vals q.2 its/\TupN s.heap q.1 its.toArray)->
  ∃H1,Inv X pins Y H1 s/\Same H H1/\(∀q∈l,H1 q.1=some (.tup q.2))/\∀a,a∉l.map (·.1)->H1 a=H a
 | [],H,I,_,_,_=>⟨H,I,Same.refl H,(λq hq=>absurd hq (by simp)),λ_ _=>rfl⟩
 |(a,xs)::l,H,I,nd,hf,ht=>by
  rw[bh,bg]at nd;have fa:=hf (a,xs) (by simp);obtain⟨H1,J1,sm,h1,h2⟩:=z7p l (I.Ay (u:=.tup xs) fa (ht (a,xs) (by simp))) nd.2 (λq hq=>by obtain⟨f0,r⟩:=hf q (by simp[hq]);exact⟨by rw[aL ((λq hq z=>nd.1 (bf.mpr ⟨q,hq,z⟩)) q hq)];exact f0,r⟩) λq hq=>ht q (by simp[hq]);refine⟨H1,J1,(Same.upd fa.1).trans sm,λq hq=>?_,λb hb=>?_⟩
  ·rcases ak.mp hq with e0|hq;subst e0
   ·rw[h2 a nd.1];exact bE
   ·exact h1 q hq
  ·rw[bh,ak,not_or]at hb;rw[h2 b hb.2,aL hb.1]
theorem _root_.L2.Inv.writeF {D:Addr}(I:Inv X pins Y H s)(hH:H D=some (.lst xs))(hm:s.heap.Ns X.env.locals m)(hn':h'.Ns X.env.locals m)
  (kp:∀b u,b≠X.env.locals->b≠D->s.heap.get? b=some u->h'.get? b=some u) (new:z12 X.prog X.w (upd H D (.lst ys)) h' D (.lst ys)):Inv X pins Y (upd H D (.lst ys)) {s with heap:=h',toks:=t'}:=by
 have nd:∀b v,H b=some v->v≠.lst xs->upd H D (.lst ys) b=some v:=λb v q hv=>by rw[aL (λz=>by subst z;rw[hH]at q;cases q;exact hv rfl)];exact q
 have ne:∀b,H b=none->b≠D:=λb n z=>by subst z;rw[hH]at n;cases n
 have nL:∀c v,H c=some v->c≠X.env.locals:=λc v ec z=>by subst z;rw[I.free]at ec;cases ec
 refine I.step (ch:=[]) (λ_ z=>nomatch z) (λb q hL _ _ e n=>kp b q hL (ne b n) e) (λb q hL _ _ e n=>⟨q.slots,kp b q hL (ne b n) e⟩) (λb q _ e n=>by rw[aL (ne b n)];exact n) (λb q _ e=>?_) (λb xs q=>nd b _ q (λz=>nomatch z)) (λb u xs q=>nd b _ q (λz=>nomatch z)) (λb ps q=>⟨#[],by rw[nd b _ q (λz=>nomatch z)];simp⟩) (λm' UW=>?_) (λb u e=>?_) I.bare
 ·by_cases hb:b=X.env.locals
  ·subst hb;obtain⟨o',_,_,ho',_⟩:=hn';exact⟨o',ho'⟩
  ·by_cases hd:b=D
   ·subst hd;obtain⟨_,_,_,_,e'⟩:=new;exact⟨_,e'⟩
   ·exact⟨q,kp b q hb hd e⟩
 ·rw[UW.eq_nsMap,<-hm.eq_nsMap];exact hn'
 ·by_cases hb:b=D
  ·subst hb;rw[bE]at e;cases e;exact new
  ·rw[aL hb]at e;refine(I.hok b u e).stay (λc v hc q=>?_) (λc q=>nd c _ q (λz=>nomatch z)) λc xs q=>nd c _ q (λz=>nomatch z);rcases hc with rfl|hc
   ·exact kp _ v (nL _ _ e) hb q
   ·exact kp c v (nL _ _ hc) (λz=>by subst z;rw[hH]at hc;cases hc) q
def UX (i:Nat):TE:=λY H Q=>∃d kvs,Y[i]?=some (some (.ref d))/\H d=some (.dK kvs)/\∀p,H p=none->Q (.ref p) (upd H p (.ext λh=>h.IsItemsView p d))
theorem zfm {i:Nat}{x:Str}{p ap cp:Pos}(hN:X.N[i]?=some x)(hv:Vis X.env.scope x)(hdb:aab x)(hcd:(x==("__classdict__":Str))=false)(hline:(ap.endLine==cp.line)=true):
  PE X (.Call (.Attribute (.Name x p) "items" ap) [] [] cp) (UX i):=by
 intro pins s Y H Q I h;obtain⟨d,kvs,hσ,hd,q⟩:=h;refine wpAny_Call_method (T:="dict") (id:="dict.items") rfl rfl hline PySem.F.plainAttrs_dict PySem.F.slot_dict_items PySem.F.type_dict_items (aO (sS hN hv hdb hcd pins s Y H (λv H1=>v=.ref d/\H1=H) I ⟨_,hσ,rfl,rfl⟩) λov s1 zz=>?_);obtain⟨y,H1,I1,r1,ey,eH⟩:=zz;subst ey eH;cases r1;obtain⟨_,hsys,vs,rel,CQ⟩:=z8j I1.hok hd;refine⟨CQ.typeIs,CQ.mapOf.noDict,?_⟩;show wpAny _ _ (callWith cp (.builtin "dict.items") [.ref d] [] []) _ _ s1;refine method_meetsIn PySem.F.slot_dict_items PySem.F.entry_dict_items rfl (PySem.evalArgs_none ⟨rfl,CQ.typeIs,PySem.F.args_dict_items_1 _,_,meets_dict_items (z0k X.prog X.w) d hsys,⟨vs,CQ⟩,?_⟩);have hp:H1 s1.heap.objs.size=none:=I1.hok.fresh (ag _);refine⟨.ref s1.heap.objs.size,_,I1.laid (a:=s1.heap.objs.size) (o:=.ext λh=>h.IsItemsView s1.heap.objs.size d) (t':=s1.toks) (λ_ _ q=>ah _ q) (ag _) ⟨⟨_,bw _ rfl,rfl,rfl⟩,⟨_,bw _ rfl⟩,λh1 h2 ⟨o,ho,r⟩ k=>⟨o,k o ho,r⟩⟩,rfl,q _ hp⟩
end
section
variable {X:Cx}{pins:List (Addr×Obj)}{Y:L2.St}{H:Hp}{s:af}
theorem z3d (O:OrdOn p)(I:Inv X pins Y H s)
  (hH:H l=some (.lst vs)) (ho:s.heap.get? l=some (listOf its.toArray n)) (rv:Vals vs its) (rs:Reps X.K H B vs ys) (h2:2<=ys.length) (h64:ys.length<64) (hp:∀d∈ys,p d)
  (ask:∀h':Heap,(∀b o,b≠X.env.locals->b≠l->s.heap.get? b=some o->h'.get? b=some o)->wpAny (model X.prog X.w) A.in1 (keyKind' its.toArray) (λκ s'=>s'={s with heap:=h'}/\∀i j (C:Bool->af->Prop),i<ys.length->j<ys.length->C (cK (ys.getD i .none) (ys.getD j .none)) {s with heap:=h'}->kas_ask X.prog X.w A.in1 κ its i j C {s with heap:=h'}) (λ_ _=>False) {s with heap:=h'})
  (q:∀s' eW,Inv X pins Y (upd H l (.lst eW)) s'->Reps X.K H B eW (jR ys)->Q .none s'):wpAny (model X.prog X.w) A (call (.builtin "list.sort") [.ref l]) Q E s:=by
 have l1:=rs.length;have l2:=rv.length;obtain⟨m,Az,_⟩:=id I.loc;have F:Fr X.base X.env.locals s.heap m:=⟨Az,I.bk,cg I.ok.kW I.ok.above⟩;have hL:l≠X.env.locals:=λz=>by subst z;rw[I.free]at hH;cases hH
 have hb:X.base.get? l=none:=by
  cases e:X.base.get? l with
  |none=>rfl
  |some u=>have:=(I.bs l u e).2;rw[hH]at this;cases this
 refine kat_lsort (vs:=its) F (pW hL hb ho) (.head Ka) (by simp) (by omega) (by omega) λe1 h' F' N'=>?_;have AA:∀{jD:Heap} {o:Obj},Fr X.base X.env.locals jD m->News X.base X.env.locals jD ((l,o)::rest X.base s.heap X.env.locals l)->∀b o,b≠X.env.locals->b≠l->s.heap.get? b=some o->jD.get? b=some o:=λmS CS b o h1 h2 e=>z6i I.bk mS (λq hq=>CS q (bn _ hq)) b o h1 h2 e;refine aO (ask h' (AA F' N')) λκ s' zz=>?_;obtain⟨es,GO⟩:=zz;subst es;have el:its.length=ys.length:=by omega
 rw[el];refine L8 (lt:=ltk (rank ys)) (λi j C s' hi hj e hC=>?_) (kas_sort ys.length) _ (UK (by omega)) rfl λs' e=>?_
 ·subst e;refine GO i j C hi hj ?_;rw[<-Mj O hp hi hj];exact hC _ rfl
 ·subst e;refine⟨_,_,F',N',.head Ka,λjD c mS CS=>?_⟩;have CT:=(CS _ az).1;have out:=UN O hp (by omega);obtain⟨_,gC⟩:=L3 ys.length (by omega);generalize runT (ltk (rank ys)) (kas_sort ys.length)=pm at out gC CT ⊢;have wt:∀i∈pm.toList,i<ys.length:=λi hi=>by have:=(gC.toList.mem_iff).mp hi;simpa using this
  have UY:(pm.toList.map λi=>vs.getD i .bA).length=ys.length:=by have:=gC.toList.length_eq;simpa using this
  refine q _ (pm.toList.map λi=>vs.getD i .bA) (I.writeF hH Az mS.ns (AA mS CS) ⟨by rw[UY,df];omega,_,c,Mo rv pm.toList (λi hi=>by rw[l1];exact wt i hi),CT⟩) ?_;rw[<-out];exact Mp rs pm.toList wt
end
theorem z7r {vs:List Value}(hoL:s.heap.get? l=some (jw "list" vs.toArray n))(h2:vs.length<2)
  (h:∀h' n',(∀b o,b≠l->s.heap.get? b=some o->h'.get? b=some o)->h'.get? l=some (jw "list" vs.toArray n')->Q .none {s with heap:=h'}):
  wpAny (model prog w) A (call (.builtin "list.sort") [.ref l]) Q E s:=by
 refine li slot_list_sort ⟨_,hoL,rfl⟩ entry_list_sort ?body (args_list_sort _);rw[list_sort_plain];refine ae (listItems_at hoL rfl ?_);refine ae (listUpdate_at hoL rfl ?_);obtain⟨e1,GP⟩:∃e1,(s.heap.update l (Obj.mapSeq λ_=>(#[]:Array Value))).get? l=some (jw "list" #[] e1):=⟨_,get?_update_seq hoL λ_=>#[]⟩;have k3:∀b o,b≠l->s.heap.get? b=some o->(s.heap.update l (Obj.mapSeq λ_=>(#[]:Array Value))).get? b=some o:=λb o hb e=>L4 hb e;generalize (s.heap.update l (Obj.mapSeq λ_=>(#[]:Array Value)))=h3 at GP k3 ⊢;refine ae (seqEpoch_at GP rfl ?_);refine ae (wpAny_newTuple ?_ (by rw[df];simp;omega));apply ae;refine wpAny_newList ?_;refine gn ?_;have CU:((h3.push (jw "tuple" vs.toArray 0)).push (jw "list" #[] 0)).get? l=some (jw "list" #[] e1):=ah _ (ah _ GP);have k6:∀b o,b≠l->s.heap.get? b=some o->((h3.push (jw "tuple" vs.toArray 0)).push (jw "list" #[] 0)).get? b=some o:=λb o hb e=>ah _ (ah _ (k3 b o hb e));generalize ((h3.push (jw "tuple" vs.toArray 0)).push (jw "list" #[] 0))=h6 at CU k6 ⊢;have hz:vs.toArray.size<2:=by simpa using h2
 rw[vg hz,vg hz];refine ae (bq ?_);refine ae (bq ?_);refine ae (seqEpoch_at CU rfl ?_);have em:(arrOf (SortSt.mk' general' (vs.toArray.zip vs.toArray) #[] 7 none)).map (·.2)=vs.toArray:=by show(vs.toArray.zip vs.toArray).map (·.2)=vs.toArray;simp;exact List.map_snd_zip (ag _)
 rw[em];refine ae (listUpdate_at CU rfl ?_);simp only[if_false,Bool.false_eq_true,bne_self_eq_false];exact bq ⟨_,rfl,h _ _ (λb o hb e=>L4 hb (k6 b o hb e)) (get?_update_seq CU λ_=>vs.toArray)⟩
theorem My {K:W.Frag}:∀{vs:List V} {ds:List D},vs.length=ds.length->(∀(i:Nat) v d,vs[i]?=some v->ds[i]?=some d->Rep K H B v d)->Reps K H B vs ds
 | [],[],_,_=>rfl
 |v::vs,d::ds,hl,h=>Reps.cons (h 0 v d rfl rfl) (My (by simpa using hl) λi v d h1 h2=>h (i+1) v d (by simpa using h1) (by simpa using h2))
 | [],_::_,hl,_=>by cases hl
 |_::_,[],hl,_=>by cases hl
theorem rD:∀as:List Addr,Vals (as.map V.ref) (as.map Value.ref)
 | []=>.nil
 |a::as=>.cons rfl (rD as)
section
variable {X:Cx}
def UZ (K:W.Frag):List V->Hp->VK->Prop:=λxs H Q=>∃p d kvs es B,xs=[.ref p]/\H p=some (.ext λh=>h.IsItemsView p d)/\H d=some (.dK kvs)/\bC K H B kvs es/\bZ es=true/\vP (es.map ent)=true/\es.length<64/\∀w H',Same H H'->Rep K H' (nw H) w (.list (jR (es.map ent)))->Q w H'
theorem U0 (hc:X.calm=true):CallR X (.builtin "sorted") (UZ X.K):=by
 intro pins s Y H xs us Q I r h;obtain⟨p,d,kvs,es,B,rfl,hp,hd,rs,him,hok,h64,q⟩:=h;obtain⟨u,rfl,ru⟩:=vals1 r;cases ru;obtain⟨hview,_,_⟩:=I.hok p _ hp;obtain⟨hz,hsys,vs,rel,o,es',ep,ho,hcx,hdat,r3⟩:=z8j I.hok hd;have hat:s.heap.DictAt (z0k X.prog X.w) d vs ep:=⟨o,es',ho,hcx,hdat,r3⟩;have lk:kvs.length=vs.length:=rel.length;have le:kvs.length=es.length:=rs.length;apply Calls.call_function_entry kind_sorted plain_sorted entry_sorted (args_sorted1 _);unfold Builtin.«sorted»;apply ae (m:=checkCount "sorted" 1 1 _);apply bq;refine ae (kdx_collect (A:=X.A.in1) (knd:=z0k X.prog X.w) (kvs:=vs) (ep:=ep) (I.ok.hd hc) hview hat (by omega) λh' tk as hk hl hG=>?_);have I1:Inv X pins Y H {s with heap:=h',toks:=tk}:=I.kept (t':=tk) hk;have lz:as.length=kvs.length:=by omega
 have e1:((as.zip (kvs.map λkv=>[kV kv.1,kv.2])).map (·.1))=as:=List.map_fst_zip (by rw[ac];omega)
 have AB:∀z∈as.zip (kvs.map λkv=>[kV kv.1,kv.2]),∃j k v,as[j]?=some z.1/\kvs[j]?=some (k,v)/\z.2=[kV k,v]:=λz U1=>by
  obtain⟨j,hj,ej⟩:=qj U1;have hj':j<as.length/\j<kvs.length:=by rw[l9,ac]at hj;omega
  refine⟨j,(kvs[j]'hj'.2).1,(kvs[j]'hj'.2).2,?_,aw hj'.2,?_⟩
  ·rw[<-ej,jp];exact aw hj'.1
  ·rw[<-ej,jp];simp
 obtain⟨H1,I2,sm,ht,_⟩:=z7p (as.zip (kvs.map λkv=>[kV kv.1,kv.2])) I1 (by rw[e1];exact hG.rise.imp λh=>cw h)
  (λz hz=>by obtain⟨j,k,v,h1,_,_⟩:=AB z hz;have ha:=hG.above z.1 (cj h1);exact I.iN (jc ha) (I.hok.fresh (jc ha)))
  (λz hz=>by obtain⟨j,k,v,h1,h2,h3⟩:=AB z hz;obtain⟨key,k',x,g1,g2,g3⟩:=hG.pairs j z.1 h1;obtain⟨u,g4,ru⟩:=US rel h2;rw[g4]at g1;cases g1;rw[h3];exact⟨by rw[df];simp,[key,_],.cons (UT g2) (.cons ru .nil),0,g3⟩)
 refine ae (wpAny_newList ?_ (by rw[ac];omega));have hD:H1 h'.objs.size=none:=I2.hok.fresh (ag _);have I3:Inv X pins Y (upd H1 h'.objs.size (.lst (as.map V.ref))) {s with heap:=h'.push (jw "list" (as.map Value.ref).toArray 0),toks:=tk}:=I2.laid (a:=h'.objs.size) (o:=.lst (as.map V.ref)) (t':=tk) (λ_ _ q=>ah _ q) (ag _) ⟨by rw[ac];omega,_,0,rD as,bw _ rfl⟩
 have rp:Reps X.K (upd H1 h'.objs.size (.lst (as.map V.ref))) (λ_=>False) (as.map V.ref) (es.map ent):=by
  refine My (by rw[ac,ac];omega) λi v dd h1 h2=>?_;rw[bj]at h1 h2;obtain⟨a,ha,rfl⟩:=b9.mp h1;obtain⟨ev,Mz,rfl⟩:=b9.mp h2;have hi:i<kvs.length:=by rw[<-lz];exact(aq.mp ha).1
  have MA:kvs[i]?=some (kvs[i].1,kvs[i].2):=by simp[hi]
  obtain⟨dv,h4,ok,rv⟩:=bC.at rs MA;rw[h4]at Mz;cases Mz;have MB:H1 a=some (.tup [kV kvs[i].1,kvs[i].2]):=ht (a,[kV kvs[i].1,kvs[i].2]) (by refine List.mem_iff_getElem?.mpr ⟨i,?_⟩;rw[List.getElem?_zip_eq_some];exact⟨ha,by rw[bj,MA];rfl⟩);have U2:aU dv=true:=b8.mp him _ (cj h4);refine⟨a,_,rfl,bS.of (by rw[aL (eB MB hD)];exact MB),Reps.cons (Mx ok) (Reps.cons ?_ rfl)⟩;exact Rep.jT (λb u e f=>by have:=sm b u e;rw[aL (eB this hD)];exact this) dv U2 rv
 have MC:H h'.objs.size=none:=by
  cases e:H h'.objs.size with
  |none=>rfl
  |some u=>have:=sm _ _ e;rw[hD]at this;cases this
 have fin:∀s' eW,Inv X pins Y (upd (upd H1 h'.objs.size (.lst (as.map V.ref))) h'.objs.size (.lst eW)) s'->Reps X.K (upd H1 h'.objs.size (.lst (as.map V.ref))) (λ_=>False) eW (jR (es.map ent))->EP X pins Y Q (.ref h'.objs.size) s':=λs' eW I4 r4=>by
  refine⟨.ref h'.objs.size,_,I4,rfl,q _ _ (λb u e=>?_) ⟨_,eW,rfl,.inl ⟨bE,MC⟩,?_⟩⟩
  ·have hb:=eB e MC;rw[aL hb,aL hb];exact sm b u e
  ·exact Reps.keep (fun b u e f=>by
    rcases f with f|f
    ·exact f.elim
    ·have hb:b≠h'.objs.size:=λz=>by subst z;rw[bE]at e;cases e;exact f
     rw[aL hb];exact e) (λ_ z=>z.elim) _ r4
 show wpAny _ _ (vf [Value.ref h'.objs.size] (call (.builtin "list.sort") [.ref h'.objs.size])>>=_) _ _ {s with heap:=h'.push (jw "list" (as.map Value.ref).toArray 0),toks:=tk};have mV:(h'.push (jw "list" (as.map Value.ref).toArray 0)).get? h'.objs.size=some (jw "list" (as.map Value.ref).toArray 0):=bw _ rfl;obtain⟨m,Az,_⟩:=id I3.loc;have U3:X.env.locals≠h'.objs.size:=λz=>by have:=I2.lt;rw[z]at this;exact cy _ this
 by_cases h2:es.length<2
 ·refine ae (gn (z7r (s:={s with heap:=h'.push (jw "list" (as.map Value.ref).toArray 0),toks:=tk}) mV (by rw[ac];omega) λjD n' kp CT=>bq ⟨_,rfl,fin _ _ (I3.writeF (t':=tk) bE Az (Az.at λo e=>kp _ o U3 e) (λb u _ hb e=>kp b u hb e) ⟨by rw[ac];omega,_,n',rD as,CT⟩) ?_⟩))
  have U4:jR (es.map ent)=es.map ent:=by
   match es,h2 with
   | [],_=>rfl
   | [y],_=>rfl
   |_::_::_,h2=>simp at h2;omega
  rw[U4];exact rp
 ·have yh:2<=(es.map ent).length:=by rw[ac];omega
  have wz:(es.map ent).length<64:=by rw[ac];exact h64
  have post:∀s' eW,Inv X pins Y (upd (upd H1 h'.objs.size (.lst (as.map V.ref))) h'.objs.size (.lst eW)) s'->Reps X.K (upd H1 h'.objs.size (.lst (as.map V.ref))) (λ_=>False) eW (jR (es.map ent))->EP X pins Y Q (.ref h'.objs.size) s':=fin;unfold vP at hok;simp only[j0,b8]at hok;have U5:∀jD:Heap,(∀b o,b≠X.env.locals->b≠h'.objs.size->(h'.push (jw "list" (as.map Value.ref).toArray 0)).get? b=some o->jD.get? b=some o)->∀b o,(h'.push (jw "list" (as.map Value.ref).toArray 0)).get? b=some o->o.cls=.type "tuple"->b≠X.env.locals->jD.get? b=some o:=λjD kp b o e iP hL=>kp b o hL (λz=>by subst z;rw[mV]at e;cases e;exact absurd iP (by simp)) e;rcases hok with(hs|hs)|hs
  ·exact ae (gn (z3d (A:=X.A.in1) Ao I3 bE mV (rD as) rp yh wz hs (λjD kp=>zix true hs rp (rD as) yh jD) λs' eW I4 r4=>bq ⟨_,rfl,fin s' eW I4 r4⟩))
  ·exact ae (gn (z3d (A:=X.A.in1) Ap I3 bE mV (rD as) rp yh wz hs (λjD kp=>zix false hs rp (rD as) yh jD) λs' eW I4 r4=>bq ⟨_,rfl,fin s' eW I4 r4⟩))
  ·split at hs
   case h_2=>cases hs
   rename_i y0 _ _;simp only[br,b8,nc]at hs;obtain⟨gB,hs⟩:=hs;cases y0 with
   |nil=>cases gB
   |cons y1 yr=>exact ae (gn (z3d (A:=X.A.in1) (GH _) I3 bE mV (rD as) rp yh wz hs (λjD kp=>zpu I3 _ _ hs rp (rD as) yh (U5 jD kp)) λs' eW I4 r4=>bq ⟨_,rfl,fin s' eW I4 r4⟩))
end
section
variable {X:Cx}
theorem zm8 {i:Nat}{f x:Str}{p p2 ap cp pos:Pos}(hc:X.calm=true)(hm:X.mg f=none)(hb:dg f=some (.builtin "sorted"))(hg:Gl X f)(hn:f≠"__name__")(hfd:aab f)
  (hN:X.N[i]?=some x) (hv:Vis X.env.scope x) (hdb:aab x) (hcd:(x==("__classdict__":Str))=false) (hline:(ap.endLine==cp.line)=true):
  PE X (.Call (.Name f p) [.Call (.Attribute (.Name x p2) "items" ap) [] [] cp] [] pos) (tD X.K λρ=>match ρ[i]? with
   |some (some (_,.dict es))=>if bZ es&&vP (es.map ent)&&decide (es.length<64)then .ok (.fr,.list (jR (es.map ent)))else .no
   |_=>.no):=
 PE.imp (Fh (U0 hc) hm hb (fQ (zfm hN hv hdb hcd hline) pF rfl) rfl hg hn hfd) λY H Q zz=>by
  obtain⟨ρ,F,z,so,e,q⟩:=zz
  dsimp only at e
  split at e
  case h_2=>cases e
  rename_i g es hr;split at e
  case isFalse=>cases e
  rename_i tK;cases e;simp only[br,decide_eq_true_eq]at tK;obtain⟨⟨h1,h2⟩,h3⟩:=tK;obtain⟨d,kvs,B,hσ,hH,hV,rs⟩:=UU so hr;refine⟨d,kvs,hσ,hH,λv hp=>⟨v,d,kvs,es,B,rfl,bE,by rw[aL (eB hH hp)];exact hH,rs.same (Same.upd hp) λ_ z=>z,h1,h2,h3,λw H' sm bI=>q w H' ((Same.upd hp).trans sm) (bI.weak λa ha=>?_)⟩⟩;cases a with
  |none=>exact ha
  |some a=>
   have AD:upd H v (.ext λh=>h.IsItemsView v d) a=none:=ha;show H a=none;by_cases MD:a=v
   ·subst MD;exact hp
   ·rw[aL MD]at AD;exact AD
end
theorem bC.keys {K:W.Frag}:∀{kvs:List (Key×V)} {es:bY},bC K H B kvs es->Reps K H B' (kvs.map λkv=>kV kv.1) (es.map (·.1))
 |kvs,[],r=>by have e:kvs=[]:=r;subst e;exact rfl
 |kvs,(kd,d)::es,r=>by obtain⟨k,v,t,e,e2,ok,h,q⟩:=r;subst e e2;exact Reps.cons (Mx ok) q.keys
section
variable {X:Cx}{tg a b c e:Expr}{es:List Expr}{fa fb:Rho->Res GD}{pos:Pos}
theorem ztv (hc:CallR X (.type T) (zbr X.K m))(hm:X.mg x=none)(hv:dg x=some (.type T))(ha:PA X (e::es) (tDA X.K fs))(hst:((e::es).all fun e=>!isStar e)=true)(hg:Gl X x)(hn:x≠"__name__")(hdb:aab x):
  PE X (.Call (.Name x p) (e::es) [] pos) (tD X.K λρ=>fs ρ>>=λys=>m (ys.map (·.2))>>=λd=>.ok (gJ d .al,d)):=by
 refine PE.imp (Fi hc hm hv ha hst hg hn hdb) λY H Q hq=>?_;obtain⟨ρ,F,z,so,e0,q⟩:=hq;obtain⟨ys,e1,e0⟩:=Res.aA e0;obtain⟨d,e2,e0⟩:=Res.aA e0;cases e0;exact⟨ρ,F,ys,so,e1,λvs H1 s1 rs=>⟨_,_,d,rs.kL so.aM,e2,λw H2 s2 bI=>q w H2 (s1.trans s2) (tH bI λa h=>h.elim (λz=>(nw.back s1 z).aM so.aM) λz=>z)⟩⟩
theorem U6:CallR X (.type "int") (zbr X.K (lI "int")):=by
 refine CallR.imp (CallR.or Q9 T') λxs H Q h=>?_;obtain⟨B,ds,d,r,e0,q⟩:=h;simp only[lI,show("int":String)≠"len" by decide,show("int":String)≠"max" by decide,if_true,if_false]at e0;split at e0
 ·rename_i i;cases e0;obtain⟨v,rfl,h1⟩:=Ab r;obtain rfl:v=.int i:=h1;exact .inl (.inl ⟨i,rfl,q _ H (Same.refl H) rfl⟩)
 ·rename_i k;cases e0;obtain⟨v,rfl,h1⟩:=Ab r;obtain rfl:v=.bl k:=h1;exact .inl (.inr ⟨k,rfl,q _ H (Same.refl H) rfl⟩)
 ·rename_i x;unfold zR at e0;split at e0
  ·rename_i hc;cases e0;rw[av]at hc;obtain⟨v,rfl,h1⟩:=Ab r;obtain rfl:v=.str x:=h1.1;exact .inr ⟨x,rfl,hc.1,vm hc.2,q _ H (Same.refl H) rfl⟩
  ·cases e0
 ·cases e0
end
section
variable {prog:bx}{w:World}{A:d7}{E:Value->af->Prop}{s:af}
theorem zad (hit:s.heap.IsTupleIter it t i)(ht:s.heap.IsTuple t items)(hx:items[i]?=some x)
  (hQ:∀h',h'.IsTupleIter it t (i+1)->g9 it s.heap h'->Q x {s with heap:=h'}):wpAny (model prog w) A (mz (.ref it)) Q E s:=by
 have ty:=hit.typeIs;obtain⟨⟨GQ,AE,AF,wB⟩,ho,hc,hd⟩:=hit;obtain⟨⟨GR,AG,AH,wC⟩,to,tc,n,td⟩:=ht;cases hc;cases hd;cases tc;cases td;apply ae;refine kg ty F.slot_tuple_iterator_next (li F.slot_tuple_iterator_next ty F.entry_tuple_iterator_next ?_ (F.args_tuple_iterator_next_1 _));show wpAny _ _ (field (.ref it) 0>>=_) _ _ _;apply ae;refine gm ho rfl rfl ?_;apply ae;refine gm ho rfl rfl ?_;apply ae;refine p9 to rfl ?_
 dsimp only
 rw[fi i,hx];apply ae;refine k9 ho rfl (by simp) (bq ⟨x,rfl,bq (hQ _ ⟨_,gw _ ho rfl,rfl,?_⟩ (Heap.SameBut.update _ _ _))⟩);rfl
theorem z65 (hh:A.handled=none)(hit:s.heap.IsTupleIter it t i)(ht:s.heap.IsTuple t items)(hx:items[i]?=none)
  (hE:∀h' e,Heap.ExtBut it s.heap h'->(∃o,h'.get? e=some o/\o.cls=.type "StopIteration")->E (.ref e) {s with heap:=h'}):wpAny (model prog w) A (mz (.ref it)) Q E s:=by
 have ty:=hit.typeIs;obtain⟨⟨GQ,AE,AF,wB⟩,ho,hc,hd⟩:=hit;obtain⟨⟨GR,AG,AH,wC⟩,to,tc,n,td⟩:=ht;cases hc;cases hd;cases tc;cases td;apply ae;refine kg ty F.slot_tuple_iterator_next (li F.slot_tuple_iterator_next ty F.entry_tuple_iterator_next ?_ (F.args_tuple_iterator_next_1 _));show wpAny _ _ (field (.ref it) 0>>=_) _ _ _;apply ae;refine gm ho rfl rfl ?_;apply ae;refine gm ho rfl rfl ?_;apply ae;refine p9 to rfl ?_
 dsimp only
 rw[fi i,hx];apply ae;refine ox ?_;apply ae;refine k9 ho rfl (by simp) ?_
 delta Builtin.SmallTypes.stopIteration
 repeat (any_goals (first|assumption|wp_step))
 refine wpAny_raiseNew_none hh (hE _ _ (λb o hb e=>?_) ⟨_,bw _ rfl,rfl⟩);refine ah _ (ah _ ?_);rw[jv _ _ _ _ hb];exact e
theorem U7 (hh:A.handled=none)(it t:Addr)(gB:t≠it)(items:Array Value):Draws prog w A it [it,t] items.size (λi v=>items[i]?=some v) (λi h=>h.IsTupleIter it t i/\h.IsTuple t items) where
 live:=λi h st=>let⟨⟨o,ho,_⟩,_⟩:=st;⟨o,ho⟩
 frame:=λi h h' st k=>by obtain⟨⟨o,ho,r⟩,o2,ho2,r2⟩:=st;exact⟨⟨o,k it (by simp) o ho,r⟩,o2,k t (by simp) o2 ho2,r2⟩
 item:=λi s1 Q1 E1 hi st hQ=>by refine zad st.1 st.2 (m5 hi) λh' h1 sb=>?_;obtain⟨o2,ho2,r2⟩:=st.2;exact hQ _ h' s1.toks (m5 hi) ⟨h1,o2,sb.extBut t o2 gB ho2,r2⟩ sb
 done:=λs Q E st hE=>z65 hh st.1 st.2 (Array.getElem?_eq_none (ag _)) hE
end
def IsB (h:Heap)(l:Bool)(a:Addr)(xs:Array Value):Prop:=match l with
 |true=>h.IsList a xs
 |false=>h.IsTuple a xs
def pM (h:Heap)(l:Bool)(it a:Addr)(i:Nat):Prop:=match l with
 |true=>h.IsListIter it a i
 |false=>h.IsTupleIter it a i
def tL (K:W.Frag)(H:Hp)(l:Bool)(a:Addr)(vs:List V):Prop:=match l with
 |true=>SqL K H a vs
 |false=>bS K H a vs
def yi (K:W.Frag)(H:Hp)(B:Ad->Prop)(l:Bool)(a:Addr)(vs:List V):Prop:=match l with
 |true=>(H a=some (.lst vs)/\B (some a))\/(FL K H a vs/\B none)
 |false=>bS K H a vs
abbrev eN (l:Bool)(a:Addr):Obj:={cls:=.type (if l then "list_iterator"else "tuple_iterator"),data:=.fields #[.ref a,.int 0 0]}
theorem yi.keep {K:W.Frag}(h:yi K H B l a vs)(k:Kp B H H2):tL K H2 l a vs:=by
 cases l with
 |true=>
  rcases h with⟨h,b⟩|⟨⟨o,h⟩|h,_⟩
  ·exact .inl (.inl (k a _ h (.inl b)))
  ·exact .inl (.inr ⟨o,k a _ h (.inr True.intro)⟩)
  ·exact .inr h
 |false=>exact bS.keep k h
theorem yi.of {K:W.Frag}(r:Rep K H B v d)(e:seqR d=.ok xs):∃l a vs,v=.ref a/\yi K H B l a vs/\Reps K H B vs xs/\xs.length<=bB:=by
 cases d<;>try (exact(fV e).elim)
 case list ds=>
  have e:(if decide (ds.length<=bB)=true then Res.ok ds else Res.no)=Res.ok xs:=e;split at e
  ·rename_i hc;cases e;obtain⟨a,vs,rfl,h,rs⟩:=r;exact⟨true,a,vs,rfl,h,rs,vm hc⟩
  ·cases e
 case tuple ds=>
  have e:(if decide (ds.length<=bB)=true then Res.ok ds else Res.no)=Res.ok xs:=e;split at e
  ·rename_i hc;cases e;obtain⟨a,vs,rfl,h,rs⟩:=r;exact⟨false,a,vs,rfl,h,rs,vm hc⟩
  ·cases e
section
variable {X:Cx}{pins:List (Addr×Obj)}{Y:L2.St}{H:Hp}{s:af}
theorem tL.items (I:Inv X pins Y H s)(h:tL X.K H l a vs):∃its,Vals vs its/\IsB s.heap l a its.toArray/\vs.length=its.length:=by
 cases l with
 |true=>obtain⟨its,rv,p,_⟩:=I.list h;exact⟨its,rv,p.isList,rv.length⟩
 |false=>obtain⟨its,rv,p,_⟩:=I.tuple h;exact⟨its,rv,p,rv.length⟩
end
theorem ME (hh:A.handled=none)(l:Bool)(it a:Addr)(gB:a≠it)(items:Array Value):Draws prog w A it [it,a] items.size (λi v=>items[i]?=some v) (λi h=>pM h l it a i/\IsB h l a items):=by
 cases l with
 |true=>exact Draws.list hh it a gB items
 |false=>exact U7 hh it a gB items
theorem pM.live (x:pM h l it a i):∃o,h.get? it=some o/\∀v,o.data≠.cell v:=by cases l<;>(obtain⟨o,ho,_,hd⟩:=x;exact⟨o,ho,λv z=>by rw[hd]at z;cases z⟩)
theorem pM.keep (x:pM h l it a i)(k:∀o,h.get? it=some o->h'.get? it=some o):pM h' l it a i:=by cases l<;>(obtain⟨o,ho,r⟩:=x;exact⟨o,k o ho,r⟩)
theorem pM.new (x:h.get? it=some (eN l a)):pM h l it a 0:=by cases l<;>exact⟨_,x,rfl,rfl⟩
theorem IsB.lt (x:IsB h l a xs):a<h.objs.size:=by cases l<;>(obtain⟨o,ho,_⟩:=x;exact bt ho)
theorem IsB.push (x:IsB h l a xs)(o:Obj):IsB (h.push o) l a xs:=by cases l<;>(obtain⟨q,hq,r⟩:=x;exact⟨q,ah _ hq,r⟩)
theorem MF (h:IsB s.heap l a xs)(hQ:Q (.ref s.heap.objs.size) {s with heap:=s.heap.push (eN l a)}):wpAny (model prog w) A (uc (.ref a)) Q E s:=by
 cases l with
 |true=>exact m7 h hQ
 |false=>exact se h hQ
section
variable {X:Cx}{pins:List (Addr×Obj)}{Y:L2.St}{H:Hp}{s:af}
theorem _root_.L2.Inv.turnedTL {fp:List Addr}(I:Inv X pins Y H s)(f:∀b∈fp,FpOk X pins H b)(keep:∀b q,b∉fp->s.heap.get? b=some q->h'.get? b=some q)(hp:s.heap.objs.size<=p)
  (new:z12 X.prog X.w (upd H p (.tup xs)) h' p (.tup xs)):Inv X pins Y (upd H p (.tup xs)) {s with heap:=h',toks:=t'}:=by
 have hn:=I.hok.fresh hp;have away:∀b u,H b=some u->b∉fp:=λb u e1 z=>by rw[(f b z).1]at e1;cases e1
 refine I.step (λb hb=>?_) (λb q _ _ hc e _=>keep b q hc e) (λb q _ _ hc e _=>⟨q.slots,keep b q hc e⟩) (λb q _ e n=>by rw[aL (cw (cb (bt e) hp))];exact n) (λb q hc e=>⟨q,keep b q hc e⟩) (λb xs q=>by rw[aL (eB q hn)];exact q) (λb u xs q=>by rw[aL (eB q hn)];exact q) (λb ps q=>⟨#[],by rw[aL (eB q hn),q];simp⟩) (λm hm=>?_) (λb u e=>?_) I.bare
 ·obtain⟨f0,f1,f2,f3,f4,f5⟩:=f b hb;exact⟨f3,f1,f4,f5⟩
 ·exact hm.at λq e=>keep _ q (λz=>(f _ z).2.1 rfl) e
 ·by_cases hb:b=p
  ·subst hb;rw[bE]at e;cases e;exact new
  ·rw[aL hb]at e;refine(I.hok b u e).stay (λc v hc q=>keep c v ?_ q) (λc q=>by rw[aL (eB q hn)];exact q) λc xs q=>by rw[aL (eB q hn)];exact q
   rcases hc with rfl|hc
   ·exact away _ _ e
   ·exact away _ _ hc
theorem _root_.L2.Inv.rE {fp:List Addr}(I:Inv X pins Y H s)(f:∀b∈fp,FpOk X pins H b)(keep:∀b q,b∉fp->s.heap.get? b=some q->h'.get? b=some q):Inv X pins Y H {s with heap:=h',toks:=t'}:=by
 have away:∀b u,H b=some u->b∉fp:=λb u e1 z=>by rw[(f b z).1]at e1;cases e1
 refine I.step (λb hb=>?_) (λb q _ _ hc e _=>keep b q hc e) (λb q _ _ hc e _=>⟨q.slots,keep b q hc e⟩) (λb q _ e n=>n) (λb q hc e=>⟨q,keep b q hc e⟩) (λb xs q=>q) (λb u xs q=>q) (λb ps q=>⟨#[],by rw[q];simp⟩) (λm hm=>?_) (λb u e=>?_) I.bare
 ·obtain⟨f0,f1,f2,f3,f4,f5⟩:=f b hb;exact⟨f3,f1,f4,f5⟩
 ·exact hm.at λq e=>keep _ q (λz=>(f _ z).2.1 rfl) e
 ·refine(I.hok b u e).stay (λc v hc q=>keep c v ?_ q) (λc q=>q) λc xs q=>q;rcases hc with rfl|hc
  ·exact away _ _ e
  ·exact away _ _ hc
end
theorem U8 (rv:Vals vs its)(hi:i<vs.length)(hx:its.toArray[i]?=some x):∃v,vs[i]?=some v/\RelV v x:=by
 refine⟨vs[i],aw hi,?_⟩;obtain⟨u,e1,e2⟩:=rv.get (aw hi);have GS:its[i]?=some x:=by simpa using hx
 rw[GS]at e1;cases e1;exact e2
def GU (K:W.Frag)(l:Bool)(t:Addr)(vs:List V):It:=⟨λi H=>tL K H l t vs/\i<vs.length,λi H x H'=>∃p v,vs[i]?=some v/\H p=none/\x=.ref p/\H'=upd H p (.tup [.int i,v]),λi H=>tL K H l t vs/\i=vs.length⟩
theorem zbd {K:W.Frag}(h1:t≠it)(h2:t≠e)(h3:e≠it):
  Turn P w K (.Tuple elts x1 pos) (GU K l t vs) [e,it] e (λi h=>(∃old,IsEnum h e it i old)/\pM h l it t i) where
 mem:=by simp
 obj:=λi h st b hb=>by
  obtain⟨⟨old,he⟩,hit⟩:=st;rcases(ak.mp hb)with rfl|hb
  ·exact⟨_,he,λv z=>by cases z⟩
  ·obtain rfl:b=it:=by simpa using hb
   exact hit.live
 keep:=λi h h' st k=>by obtain⟨⟨old,he⟩,hit⟩:=st;exact⟨⟨old,k e (by simp) _ he⟩,hit.keep λo=>k it (by simp) o⟩
 item:=by
  intro X hP hw hK hc i pins s Y H E I hf st hg;subst hP hw hK;obtain⟨hq,hi⟩:=hg;obtain⟨⟨old,he⟩,hit⟩:=st;obtain⟨its,rv,p,hl⟩:=tL.items I hq;have hA:X.A.in1.handled=none:=I.ok.hd hc;have D:=ME (prog:=X.prog) (w:=X.w) hA l it t h1 its.toArray;obtain⟨oi,U9,_⟩:=hit.live;refine wpAny_pyNext_enum_itemD D he ⟨hit,p⟩ (by grind) h3 (by simp[h3,Ne.symm h2]) λx h' tk hx GV hst GW cM kp=>⟨_,rfl,?_⟩;have hT:s.heap.objs.size≠e/\s.heap.objs.size≠it:=⟨λz=>cy _ (z▸bt he),λz=>cy _ (z▸bt U9)⟩;refine(WalksT.enumerateD D e h3 (by simp[h3,Ne.symm h2]) (by simp)).go elts x1 pos i s.heap.objs.size {s with heap:=h',toks:=tk+1} _ _ ⟨⟨x,GV⟩,hst,hT.1,hT.2⟩ λjD AI MG=>?_;have MH:s.heap.objs.size∉ [e,it]:=by simp[hT.1,hT.2]
  obtain⟨v,hv,rx⟩:=U8 rv hi hx;have I1:=I.turnedTL (t':=tk+1) (xs:=[.int i,v]) hf (λb q hb z=>MG b q hb (kp b q (λz=>hb (by simp[z])) (λz=>hb (by simp[z])) z)) (ag _) ⟨by rw[df];simp,[.int i tk,x],.cons ⟨tk,rfl⟩ (.cons rx .nil),0,(MG s.heap.objs.size _ MH GW)⟩;refine⟨.ref s.heap.objs.size,_,I1,rfl,⟨_,v,hv,I.hok.fresh (ag _),rfl,rfl⟩,⟨AI.1,AI.2.1⟩,λb hb=>?_⟩;rw[aL λz:b=s.heap.objs.size=>MH (z▸hb)];exact(hf b hb).1
 done:=by intro X hP hw hK hc i pins s Y H E I hf st hg;subst hP hw hK;obtain⟨hq,hi⟩:=hg;obtain⟨⟨old,he⟩,hit⟩:=st;obtain⟨its,rv,p,hl⟩:=tL.items I hq;have hA:X.A.in1.handled=none:=I.ok.hd hc;exact wpAny_pyNext_enum_endD (ME (prog:=X.prog) (w:=X.w) hA l it t h1 its.toArray) he ⟨by rw[ax,<-hl,<-hi];exact hit,p⟩ λh' eb=>⟨rfl,I.rE hf λb o hb z=>eb b o (λq=>hb (by simp[q])) z⟩
 self:=λ_ _ _ _ _ st h=>by obtain⟨⟨old,he⟩,_⟩:=st;exact t0 he h
theorem MI:∀xs (k i:Nat),(z1z k xs)[i]?=(xs[i]?).map λx=>.tuple [.int ((k+i:Nat):Int),x]
 | [],k,i=>by simp[z1z]
 |x::xs,k,0=>by simp[z1z]
 |x::xs,k,i+1=>by
  rw[z1z,km,km,MI xs (k+1) i];have:k+1+i=k+(i+1):=by omega
  rw[this]
theorem CV:∀xs k,(z1z k xs).length=xs.length
 | [],_=>rfl
 |x::xs,k=>by rw[z1z,bv,bv,CV xs]
theorem U' {K:W.Frag}(hq:yi K H B l t vs)(rs:Reps K H B vs xs)(hz:xs.length<=bc):Walk K (GU K l t vs) B H (z1z 0 xs):=by
 have hl:=rs.length;constructor
 ·rw[CV];exact hz
 ·intro H2 kp i h;rw[CV]at h;exact⟨hq.keep kp,by omega⟩
 ·intro H2 kp;exact⟨hq.keep kp,by rw[CV];exact hl.symm⟩
 ·rintro H2 kp i x H3 h ⟨p,v,hv,hp,rfl,rfl⟩
  obtain⟨d,hd,rv⟩:=Reps.oH rs hv;refine⟨Same.upd hp,.tuple [.int i,d],by rw[MI,hd];simp,p,[.int i,v],rfl,bS.of bE,?_⟩;refine Reps.cons rfl (Reps.cons ?_ rfl);exact Rep.keep (λa q e f=>by have h2:=kp a q e f;rw[aL (eB h2 hp)];exact h2) (λ_ z=>z) d rv
theorem zai (l:Bool)(t:Addr)(items:Array Value):Meets (Builtin.«enumerate.__new__» {pos:=[.type "enumerate",.ref t]}) fun _ R s=>
  IsB s.heap l t items/\R (.ok (.ret (.ref (s.heap.push (eN l t)).objs.size))) {s with heap:=(s.heap.push (eN l t)).push {cls:=.type "enumerate",data:=.fields #[.none,.bool false,.ref s.heap.objs.size,l7 0,.none,.none]}}:=by
 rintro prog w A R s ⟨ht,hR⟩
 have sub:=sub_enumerate
 delta Builtin.«enumerate.__new__»
 repeat (any_goals (first|assumption|(apply MF ht)|wp_step))
 refine wpAny_stack λst _ _ _=>?_;refine jl (Q:=λ_ s'=>s'=s) (bq rfl) (λb s' hs=>?_) λ_ _ x=>x;subst hs;cases b
 all_goals repeat (any_goals (first|assumption|(apply MF ht)|wp_step))
 all_goals exact hR
theorem zgu (ht:IsB s.heap l t items)
  (hQ:Q (.ref (s.heap.push (eN l t)).objs.size) {s with heap:=(s.heap.push (eN l t)).push {cls:=.type "enumerate",data:=.fields #[.none,.bool false,.ref s.heap.objs.size,l7 0,.none,.none]}}):wpAny (model prog w) A (call (.type "enumerate") [.ref t]) Q E s:=by
 refine callType_new F.called_enumerate dc (F.typeCall_enumerate_1 _) (F.newCall_enumerate_1 _) (λobj=>?_) F.entry_enumerate_new (zai l t items) ⟨ht,⟨_,bw _ rfl,rfl⟩,hQ⟩;exact F.args_object_init_2 _ _
section
variable {X:Cx}{pins:List (Addr×Obj)}{Y:L2.St}
theorem z4t (I1:Inv X pins Y H1 s1)(r1:RelV y v)(rv:Rep X.K H1 B y d)(e:seqR d=.ok xs)(q:∀J,Walk X.K J B H1 (z1z 0 xs)->R J H1):
  wpAny (model X.prog X.w) X.A (call (.type "enumerate") [v]) (λv' s2=>wpAny (model X.prog X.w) X.A (uc v') (xT X pins Y (.Tuple elts x1 tp) R) X.xe s2) X.xe s1:=by
 obtain⟨l,t,ts,rfl,hq,Va,hz⟩:=yi.of rv e;cases r1;obtain⟨its,oO,pt,_⟩:=tL.items I1 (hq.keep (Kp.of (Same.refl H1)));refine zgu pt ?_;generalize hR:s1.heap.push (eN l t)=hp;have MJ:hp.objs.size=s1.heap.objs.size+1:=hR▸size_push' _ _;have I2:Inv X pins Y H1 {s1 with heap:=hp}:=I1.kept λb o e=>hR▸ah _ e;generalize GX:hp.push {cls:=.type "enumerate",data:=.fields #[.none,.bool false,.ref s1.heap.objs.size,l7 0,.none,.none]}=pG;have I3:Inv X pins Y H1 {s1 with heap:=pG}:=I2.kept λb o e=>GX▸ah _ e;have g1:pG.get? hp.objs.size=some {cls:=.type "enumerate",data:=.fields #[.none,.bool false,.ref s1.heap.objs.size,l7 0,.none,.none]}:=GX▸bw _ rfl;have g2:pG.get? s1.heap.objs.size=some (eN l t):=by rw[<-GX];refine ah _ ?_;rw[<-hR];exact bw _ rfl
 have ht:=pt.lt;refine t0 g1 (⟨hp.objs.size,[hp.objs.size,s1.heap.objs.size],_,GU X.K l t ts,H1,rfl,I3,zbd (cw ht) (cw (mn ht (MJ▸Nat.lt_succ_self _))) (MJ▸Nat.succ_ne_self _),⟨⟨.none,g1⟩,pM.new g2⟩,λb hb=>?_,q _ (U' hq Va (lR hz))⟩);rcases(ak.mp hb)with rfl|hb
 ·exact I2.iN (ag _) (I2.hok.fresh (ag _))
 ·obtain rfl:b=s1.heap.objs.size:=by simpa using hb
  exact I1.iN (ag _) (I1.hok.fresh (ag _))
end
section
variable {X:Cx}{a b:Expr}{fa fb:Rho->Res GD}{p pos:Pos}
theorem GY:dg "enumerate"=some (.type "enumerate"):=by decide+kernel
theorem MK (hs:isStar a=false)(ha:PE X a (tD X.K fa)):PA X [a] (tDA X.K λρ=>fa ρ>>=λx=>.ok [x]):=by refine PA.imp (LA hs ha Lz) λY H Q ⟨ρ,F,z,so,e,q⟩=>⟨ρ,F,z,so,?_,q⟩;obtain⟨x,e1,e⟩:=Res.aA e;show(fa ρ>>=λx=>Res.ok []>>=λxs=>Res.ok (x::xs))=_;rw[e1];exact e
theorem Vb {fs:Rho->Res GD}(h:(fs ρ>>=λx=>Res.ok [x])=.ok ys):∃x,fs ρ=.ok x/\ys=[x]:=by obtain⟨x,e,h⟩:=Res.aA h;cases h;exact⟨x,e,rfl⟩
theorem Vc {K:W.Frag}(so:StOk K F H Y ρ)(hc:Cp x=true)(e:seqR x.2=.ok xs)(rv:Rep K H1 (BG F H x.1) v x.2):∃B,Rep K H1 B v x.2/\(∀a,B (some a)->F.O a=none)/\∀a,B a->BI F .al a:=by
 obtain⟨g,d⟩:=x;cases d<;>try (exact(fV e).elim)
 case list ds=>
  have hg:g≠.al:=λz=>by subst z;cases hc
  exact⟨_,rv,λa h=>Gq so hg h,λa h=>BI.of so.aM (BG.aM so.aM h)⟩
 case tuple ds=>
  rcases fj.mp hc with hg|hi
  ·have hg:g≠ .al:=λz=>by subst z;cases hg
   exact⟨_,rv,λa h=>Gq so hg h,λa h=>BI.of so.aM (BG.aM so.aM h)⟩
  ·exact⟨λ_=>False,Rep.bG _ hi rv,λ_ h=>h.elim,λ_ h=>h.elim⟩
theorem CW (hm:X.mg "enumerate"=none)(hg:Gl X "enumerate")(hs:isStar a=false)(ha:PE X a (tD X.K fa)):PI X (.Tuple elts x1 tp) (.Call (.Name "enumerate" p) [a] [] pos) (tDW X.K λρ=>fa ρ>>=λx=>seqR x.2>>=λxs=>.ok (.al,z1z 0 xs)):=by
 rintro pins s Y H R I ⟨ρ,F,w,so,e,q⟩
 obtain⟨x,e1,e⟩:=Res.aA e;obtain⟨xs,e2,e⟩:=Res.aA e;cases e;refine Call_ (z38 I hg hm GY (PyProof.Rows.callWith_type1 (aO (MK hs ha pos pins s Y H (λvs H1=>Same H H1/\eF X.K F H H1 vs [x]) I ⟨ρ,F,[x],so,by show(fa ρ>>=λx=>Res.ok [x])=_;rw[e1];rfl,λvs H1 s1 rs=>⟨s1,rs⟩⟩) λus s1 ⟨vs,H1,I1,r1,sm,rs⟩=>?_) (jQ hs) rfl));obtain⟨v,rfl,rv⟩:=rs.one;obtain⟨u,rfl,ru⟩:=vals1 r1;exact z4t I1 ru (Rep.there _ rv) e2 λJ wk=>q J _ H1 sm (λc z=>⟨BG.aM so.aM z.1,z.2⟩) wk
theorem Vd (hm:X.mg "enumerate"=none)(hg:Gl X "enumerate")(hs:isStar a=false)(ha:PE X a (tD X.K fa)):PI X (.Tuple elts x1 tp) (.Call (.Name "enumerate" p) [a] [] pos) (tDF X.K λρ=>(fa ρ>>=λx=>.ok [x])>>=λys=>qN ys ρ):=by
 rintro pins s Y H R I ⟨ρ,F,w,so,e,q⟩
 obtain⟨ys,e0,e⟩:=Res.aA e;obtain⟨x,e1,rfl⟩:=Vb e0;have e:(if Cp x=true then(seqR x.2>>=λxs=>Res.ok (G.al,z1z 0 xs,ρ))else Res.no)=Res.ok w:=e;split at e
 case isFalse=>cases e
 rename_i hc;obtain⟨xs,e2,e⟩:=Res.aA e;cases e;refine Call_ (z38 I hg hm GY (PyProof.Rows.callWith_type1 (aO (MK hs ha pos pins s Y H (λvs H1=>Same H H1/\eF X.K F H H1 vs [x]) I ⟨ρ,F,[x],so,by show(fa ρ>>=λx=>Res.ok [x])=_;rw[e1];rfl,λvs H1 s1 rs=>⟨s1,rs⟩⟩) λus s1 ⟨vs,H1,I1,r1,sm,rs⟩=>?_) (jQ hs) rfl));obtain⟨v,rfl,rv⟩:=rs.one;obtain⟨u,rfl,ru⟩:=vals1 r1;obtain⟨B,rB,hB,hV⟩:=Vc so hc e2 rv;exact z4t I1 ru rB e2 λJ wk=>q J B H1 F sm Run.refl (cX.same sm) (so.same sm) hB hV wk
theorem Ve {es:List Expr}{fs:Rho->Res (List GD)}{lp:Pos}(h:PA X es (tDA X.K fs))(hb:PE X b (tD X.K fb))(hl:∀ρ xs,fs ρ=.ok xs->xs.length<=bc):PE X (.BinOp (.List es lp) .Mult b pos) (tD X.K λρ=>fs ρ>>=λys=>fb ρ>>=λn=>qL ys n.2):=by
 refine PE.imp (EB RX (EG h) hb) λY H Q zz=>?_;obtain⟨ρ,F,z,so,e,q⟩:=zz;obtain⟨ys,e1,e⟩:=Res.aA e;obtain⟨n,e2,e⟩:=Res.aA e;refine⟨ρ,F,ys,so,e1,λvs H1 s1 rs=>?_⟩;have r:=rs.dW (B:=BG F H (bO ys)) λx hx a h=>ya so.aM hx h;refine⟨by rw[r.length,ac];exact hl ρ ys e1,λp hp=>?_⟩;have sm:=s1.trans (Same.upd (o:=.lst vs) hp);refine⟨ρ,F,n,so.same sm,e2,λv H2 s2 rv=>?_⟩;obtain⟨g,d⟩:=n;cases d<;>try (exact(fV e).elim)
 rename_i k;have e:(if imms (ys.map (·.2))=true/\0<=k/\k<=bB/\ys.length*k.toNat<=bB then Res.ok (G.fr,PyData.list (kK k.toNat (ys.map (·.2))))else Res.no)=Res.ok z:=e;split at e
 case isFalse=>cases e
 rename_i hc;obtain⟨hi,h0,h1,h2⟩:=hc;cases e;obtain rfl:v=.int k:=rv;have Vf:vs.length=ys.length:=by rw[r.length,ac]
 refine⟨p,k,vs,rfl,rfl,s2 _ _ bE,by unfold bB at h1;omega,by unfold bB at h1;omega,lR (by rw[Vf];exact h2),λp2 pG=>?_⟩;refine q _ _ ((sm.trans s2).trans (Same.upd pG)) ?_
 have r2:Reps X.K H2 (BG F H .fr) (kK k.toNat vs) (kK k.toNat (ys.map (·.2))):=by
  have r0:Reps X.K H2 (BG F H .fr) vs (ys.map (·.2)):=Reps.bG _ hi (r.same ((Same.upd hp).trans s2) λ_ z=>z);unfold kK;generalize k.toNat=m
  induction m with
  |zero=>exact rfl
  |succ m ih=>rw[dt,dt,gh,gh];exact Reps.append r0 ih
 have Gh:H p2=none:=by
  cases hh:H p2 with
  |none=>rfl
  |some o=>have:=(sm.trans s2) _ _ hh;rw[pG]at this;cases this
 exact wg pG r2 (λ_ z=>z) Gh
end
abbrev rG:List Value:=[.type "ValueError",.type "Exception",.type "BaseException",.type "object"]
abbrev CY (K:W.Frag)(C:Addr):Bool:=W.excIn K C rG "ValueError.__new__"
def gD (K:W.Frag)(C:Addr):Bool:=match K.lookup C with
 |some ⟨.type "type",_,.cls cd,sl⟩=>(match cd.mro,sl.toList with
  |.ref D::bm,[_,_,_,_,some (.builtin n),_]=>(D==C)&&(n=="ValueError.__new__")&& !cd.hasDel&&W.tailIn K rG bm&&W.nsOkIn K cd.ns
  |_,_=>false)
 |_=>false
def XC (C:Addr)(h:Heap)(bm:List Value):Prop:=∃N nm q bs gW sn sub ab col dd k0 k1 k2 k3 k5 mN,h.get? C=some (uh nm q C N bs bm gW sn sub ab col dd k0 k1 k2 k3 k5 "ValueError.__new__")/\h.Ns N mN/\uq h rG bm
def ML (C:Addr)(h:Heap)(bm:List Value):Prop:=∃N nm q bs gW sn sub ab col dd k0 k1 k2 k3 k5 mN,h.get? C=some (uh nm q C N bs bm gW sn sub ab col dd k0 k1 k2 k3 k5 "ValueError.__new__")/\h.Ns N mN/\mN "__init__"=none/\uq h rG bm
theorem AJ:(a&&b)=true->a=true/\b=true:=av.mp
theorem CZ {K:W.Frag}{C:Addr}(q:CY K C=true):gD K C=true/\∀dd cd sl,K.lookup C=some ⟨.type "type",dd,.cls cd,sl⟩->W.nsIn K cd.ns "__init__"=some none:=by
 unfold CY W.excIn at q;unfold gD;split at q
 ·rename_i dd cd sl ho;split at q
  ·rename_i A bm y0 y1 y2 y3 n y5 hm hs;obtain⟨q,q6⟩:=AJ q;refine⟨?_,λhW GZ y7 e=>by rw[ho]at e;cases e;exact vp q6⟩;simp only[ho,hm,hs];exact q
  ·cases q
 ·cases q
theorem yj {K:W.Frag}{C:Addr}(q:gD K C=true):∃dd cd bm k0 k1 k2 k3 k5,K.lookup C=some ⟨.type "type",dd,.cls cd,#[k0,k1,k2,k3,some (.builtin "ValueError.__new__"),k5]⟩/\cd.mro=.ref C::bm/\cd.hasDel=false/\W.tailIn K rG bm=true/\W.nsOkIn K cd.ns=true:=by
 unfold gD at q;split at q
 ·rename_i dd cd sl ho;split at q
  ·rename_i A bm y0 y1 y2 y3 n y5 hm hs;obtain⟨q,q5⟩:=AJ q;obtain⟨q,q4⟩:=AJ q;obtain⟨q,q3⟩:=AJ q;obtain⟨q1,q2⟩:=AJ q;have e3:sl=#[y0,y1,y2,y3,some (.builtin n),y5]:=Array.toList_inj.mp (by rw[hs]);refine⟨dd,cd,bm,y0,y1,y2,y3,y5,?_,?_,?_,q4,q5⟩
   ·rw[ho,e3,vp q2]
   ·rw[hm,vp q1]
   ·cases hd:cd.hasDel with
    |false=>rfl
    |true=>rw[hd]at q3;cases q3
  ·cases q
 ·cases q
theorem MM {K:W.Frag}{C:Addr}(ho:K.lookup C=some ⟨.type "type",dd,.cls cd,sl⟩)(hm:cd.mro=.ref C::bm)(e:W.subIn K (.ref C) v=some b):(Value.ref C::bm).contains v=b:=by
 have e:W.mroIn K C v=some b:=e;unfold W.mroIn W.clsIn at e;rw[ho]at e
 dsimp at e
 rw[hm]at e;exact vi e
theorem XC.mk {K:W.Frag}{C:Addr}(X:K.In h)(q:gD K C=true):∃bm,XC C h bm/\∀v b,W.subIn K (.ref C) v=some b->(Value.ref C::bm).contains v=b:=by
 obtain⟨dd,cd,bm,k0,k1,k2,k3,k5,ho,hm,hd,ht,hk⟩:=yj q;refine⟨bm,⟨cd.ns,cd.name,cd.qualname,cd.bases,cd.hasDict,cd.slotNames,cd.subclasses,cd.abstract,cd.collection,dd,k0,k1,k2,k3,k5,h.nsMap cd.ns,?_,.of_isNs (W.isNs_of_in X hk),W.tail_of_in X ht⟩,λv b e=>MM ho hm e⟩;have h2:=X _ _ ho;cases cd
 dsimp only at hm hd
 rw[hm,hd]at h2;exact h2
theorem ML.mk {K:W.Frag}{C:Addr}(X:K.In h)(q:CY K C=true):∃bm,ML C h bm:=by
 obtain⟨qw,qi⟩:=CZ q;obtain⟨dd,cd,bm,k0,k1,k2,k3,k5,ho,hm,hd,ht,hk⟩:=yj qw;refine⟨bm,cd.ns,cd.name,cd.qualname,cd.bases,cd.hasDict,cd.slotNames,cd.subclasses,cd.abstract,cd.collection,dd,k0,k1,k2,k3,k5,h.nsMap cd.ns,?_,.of_isNs (W.isNs_of_in X hk),W.nsMap_none_of_in X hk (qi _ _ _ ho),W.tail_of_in X ht⟩;have h2:=X _ _ ho;cases cd
 dsimp only at hm hd
 rw[hm,hd]at h2;exact h2
section
variable {M:Model}{A:d7}{E:Value->af->Prop}{h:Heap}{g:Array pq}{d:Drawn}{t:Nat}{os:mo}{C B e:Addr}{bm C1:List Value}{oe:Obj}{Q:Bool->af->Prop}
theorem Vg (T:uq h rG l):l.contains (.type "BaseException")=true:=T.hasType rfl
theorem Vh (hC:XC C h bm)(hB:XC B h C1)(he:h.get? e=some oe)(hc:oe.cls=.ref C)(wt:(Value.ref C::bm).contains (.ref B)=true)(hq:Q true ⟨h,g,d,t,os⟩):wpAny M A (uz (.ref e) (.ref B)) Q E ⟨h,g,d,t,os⟩:=by
 obtain⟨_,_,_,_,_,_,_,_,_,_,_,_,_,_,_,_,oC,_,_⟩:=hC;obtain⟨_,_,_,_,_,_,_,_,_,_,_,_,_,_,_,_,oB,_,tB⟩:=hB;have Vi:(Value.ref B::C1).contains (.type "BaseException")=true:=by rw[si,Vg tB,Bool.or_true]
 have f:=tc_notTuple
 repeat (first|(with_reducible refine dj he ?_;rw[hc])|with_reducible refine dj oB ?_|(with_reducible refine qk oB ?_;rw[Vi])|(with_reducible refine qk oC ?_;rw[wt])|wp_step)
 exact hq
end
section
variable {prog:bx}{w:World}{A:d7}{E:Value->af->Prop}{K:W.Frag}{h:Heap}{g:Array pq}{d:Drawn}{t:Nat}{os:mo}{C e:Addr}{oe:Obj}
structure XA (K:W.Frag)(C:Addr):Prop where
 cl:W.findIn K (.ref C) "__class__"=some (some (.builtin "object.__class__"))
 ga:W.findIn K (.ref C) "__getattribute__"=some (some (.builtin "BaseException.__getattribute__"))
 gt:W.findIn K (.ref C) "__getattr__"=some none
 ob:W.subIn K (.ref C) (.type "object")=some true
 be:W.subIn K (.ref C) (.type "BaseException")=some true
 ty:W.typeIn K (.ref C)=some (.type "type")
 is:(W.clsIn K C).isSome=true
 ex:gD K C=true
theorem z72 (he:h.get? e=some oe)(hc:oe.cls=.ref C):W.Looks M h (ud (.ref e)) (.ref C):=by intro A Q E s k q;refine ae (wpAny_loadPart (k _ _ he) ?_);rw[hc];exact bq q
theorem zts (X:K.In h)(a:XA K C)(he:h.get? e=some oe)(hc:oe.cls=.ref C)(hq:R (.ok (.ret (.ref C))) ⟨h,g,d,t,os⟩):
  kz (model prog w) A (.call (.builtin "getset_descriptor.__get__") ⟨[.builtin "object.__class__",.ref e,tp],[]⟩) R ⟨h,g,d,t,os⟩:=by
 have l0:=z72 (M:=model prog w) he hc;have l1:=W.looks_subIn (M:=model prog w) X a.ob;refine jn W.KF.slot_gs.plain W.KF.entry_gs (W.KF.slot_gs.check _ _ _ _ _ _ _ _ W.KF.type_class (W.KF.args_gs _ _ _) (ae (bq ?_)));unfold Builtin.Getset_descriptor.descrGetter Builtin.Getset_descriptor.descrCheckInstance Builtin.Getset_descriptor.descrNameAndClass sj;simp only[W.KF.owner_class]
 repeat lk
 refine⟨Code.quiet_builtin _ (by decide+kernel),?_⟩;refine ph W.KF.entry_class ?_;unfold Builtin.«object.__class__»;unfold shownTypeOf;repeat lk
 exact hq
theorem zn6 {tk:Tok}{Q:Fin->af->Prop}(X:K.In h)(a:XA K C)(he:h.get? e=some oe)(hc:oe.cls=.ref C)(hq:Q (.done (.ret (.ref C))) ⟨h,g,d,t,os⟩):
  wpAny (model prog w) A (Builtin.«object.__getattribute__» ⟨[.ref e,.str "__class__" tk],[]⟩) Q E ⟨h,g,d,t,os⟩:=by
 have hT:(⟨h,g,d,t,os⟩:af).TypeIs (.builtin "object.__class__") "getset_descriptor":=F.typeOf_object_class;have⟨f5,f6,f7⟩:=And.intro F.typeOf_object_class (And.intro F.slot_gs_get.lookup F.slot_gs_set.lookup);have l0:=W.looks_findIn (M:=model prog w) X a.cl
 repeat (any_goals (first|assumption|(with_reducible refine dj he ?_;rw[hc])|with_reducible refine l0.at ?_|wp_step))
 refine zts X a he hc ?_
 repeat' first|assumption|wp_step
theorem x_call {tk:Tok}{R:Result->af->Prop}(X:K.In h)(a:XA K C)(he:h.get? e=some oe)(hc:oe.cls=.ref C)(hq:R (.ok (.ret (.ref C))) ⟨h,g,d,t,os⟩):
  kz (model prog w) A (.call (.builtin "BaseException.__getattribute__") ⟨[.ref e,.str "__class__" tk],[]⟩) R ⟨h,g,d,t,os⟩:=by
 refine jn F.excAttr_ValueError.ga.plain F.entry_bexc_ga ?_;have l1:=W.looks_subIn (M:=model prog w) X a.be;have ar:=F.args_bexc_ga (.ref e) (.str "__class__" tk);have z1:ui "BaseException.__getattribute__"=some .slot:=by decide+kernel
 have z2:splitId "BaseException.__getattribute__"=some ("BaseException","__getattribute__"):=by decide+kernel
 simp only[lj,z1,z2];refine ae ?_;unfold sj
 repeat (first|(with_reducible refine zn6 X a he hc ?_;exact hq)|(with_reducible refine dj he ?_;rw[hc])|with_reducible refine l1.at ?_|wp_step)
theorem x_by (X:K.In h)(a:XA K C)(he:h.get? e=some oe)(hc:oe.cls=.ref C)(hq:Q (.ref C) ⟨h,g,d,t,os⟩):
  wpAny (model prog w) A (getAttrBy (.ref e) (.str "__class__" tk) false) Q E ⟨h,g,d,t,os⟩:=by
 have f3:=F.excAttr_ValueError.ga.bind (.ref e)
 repeat (any_goals (first|assumption|(with_reducible refine dj he ?_;rw[hc])|with_reducible refine(W.looks_findIn (M:=model prog w) X a.ga).at ?_|with_reducible refine(W.looks_findIn (M:=model prog w) X a.gt).at ?_|wp_step))
 refine x_call X a he hc ?_
 repeat' first|assumption|wp_step
theorem Vj (X:K.In h)(a:XA K C)(he:h.get? e=some oe)(hc:oe.cls=.ref C)(hq:Q (some (.ref C)) ⟨h,g,d,t+1,os⟩):wpAny (model prog w) A (tz (.ref e) "__class__") Q E ⟨h,g,d,t,os⟩:=by repeat (any_goals (first|assumption|with_reducible apply x_by X a he hc|wp_step))
theorem Vk (q:gD K C=true)(e:W.subIn K (.ref C) (.ref C)=some b):b=true:=by obtain⟨dd,cd,bm,k0,k1,k2,k3,k5,ho,hm,_⟩:=yj q;rw[<-MM ho hm e,si,beq_self_eq_true,Bool.true_or]
structure XV (K:W.Frag)(v:Value):Prop where
 ty:∀(M:Model) (h:Heap),K.In h->W.Looks M h (ud v) (.type "type")
 is:∀(M:Model) (h:Heap),K.In h->W.Looks M h (isType v) true
theorem MN {D:Addr}(X:K.In h)(q:(W.clsIn K D).isSome=true):W.Looks M h (isType (.ref D)) true:=by
 unfold W.clsIn at q;split at q
 ·rename_i ho;intro A Q E s k z;refine ae (wpAny_load (k _ _ (X _ _ ho)) ?_);exact bq z
 ·cases q
theorem XV.own {D:Addr}(t:W.typeIn K (.ref D)=some (.type "type"))(q:(W.clsIn K D).isSome=true):XV K (.ref D):=⟨λM h X=>W.looks_typeIn X t,λM h X=>MN X q⟩
theorem XV.val:XV K (.type "ValueError"):=⟨λM h X=>W.Looks.of_pure (by kernel_rfl),λM h X=>W.Looks.of_pure rfl⟩
theorem zsi (X:K.In h)(a:XA K C)(he:h.get? e=some oe)(hc:oe.cls=.ref C)(hv:XV K v)(hs:W.subIn K (.ref C) v=some b)(h1:Q (.done (.ret (.bool b))) ⟨h,g,d,t,os⟩)(h2:Q (.done (.ret (.bool b))) ⟨h,g,d,t+1,os⟩):
  wpAny (model prog w) A (Builtin.«isinstance.nested» ⟨[.ref e,v,.int dep tk],[]⟩) Q E ⟨h,g,d,t,os⟩:=by
 have l0:=z72 (M:=model prog w) he hc;have l4:=W.looks_subIn (M:=model prog w) X hs;unfold Builtin.«isinstance.nested»;refine ae (l0.at ?_);by_cases q:(Value.ref C==v)=true
 ·rw[vg q];have hb:b=true:=by cases vp q;exact Vk a.ex hs
  subst hb;exact ae (ox (ae (bq (bq h1))))
 ·rw[vh q];refine ae ((hv.ty (model prog w) h X).at ?_)
  k_delta "plainIsInstance"
  refine ae (ae ((hv.is (model prog w) h X).at ?_));refine ae ((l0.andThen l4).at ?_);cases b with
  |true=>exact bq (bq h1)
  |false=>refine ae (Vj X a he hc ?_);refine ae ((MN (M:=model prog w) X a.is).at ?_);refine ae (ox ?_);exact l4.at (bq h2)
theorem zuj (X:K.In s.heap)(a:XA K C)(he:s.heap.get? e=some oe)(hc:oe.cls=.ref C)(hv:XV K v)(hs:W.subIn K (.ref C) v=some b)(hq:∀t',Q (.bool b) {s with toks:=t'}):
  wpAny (model prog w) A (call (.builtin "isinstance") [.ref e,v]) Q E s:=
 call_isinstance (S:=λ_ R s=>(K.In s.heap/\s.heap.get? e=some oe)/\∀t',R (.ok (.ret (.bool b))) {s with toks:=t'}) (λ_ _ _ _ s pN=>isinstance_outer (by obtain⟨h,g,d,t,os⟩:=s;exact zsi pN.1.1 a pN.1.2 hc hv hs (pN.2 t) (pN.2 (t+1))) nofun) ⟨⟨X,he⟩,hq⟩
end
theorem Vl (f:Array Value->Array Value)(o:Obj):(Obj.mapFields f o).dict=o.dict:=by unfold Obj.mapFields;split<;>rfl
def TrD (h base:Heap)(e:Addr)(cls:Value)(dd:Option Addr)(fl:Value):Prop:=∃ob vs T tr ts,h.get? e=some ob/\ob.cls=cls/\ob.dict=dd/\ob.data=.fields vs/\vs[1]?=some (.ref T)/\base.get? T=none/\T≠e/\h.get? T=some tr/\tr.data=.fields ts/\ts[3]?=some fl
def FlD (base:Heap)(l:List Env)(e:Addr)(cls:Value)(dd:Option Addr)(h:Heap):Prop:=base.StaysIn h/\base.get? e=none/\h.FunFrames base l/\TrD h base e cls dd .none
def MO (base:Heap)(l:List Env)(e:Addr)(cls:Value)(dd:Option Addr)(L:Addr)(h:Heap):Prop:=base.StaysIn h/\base.get? e=none/\h.FunFrames base l/\TrD h base e cls dd (l7 L)
theorem FlD.first (x:FlD base l e cls dd h):∃ob vs,h.get? e=some ob/\ob.cls=cls/\ob.dict=dd/\ob.data=.fields vs:=by obtain⟨_,_,_,ob,vs,_,_,_,h1,h2,h3,h4,_⟩:=x;exact⟨ob,vs,h1,h2,h3,h4⟩
section
variable {M:Model}{A:d7}{E:Value->af->Prop}{s:af}{base:Heap}{env:Env}{outer l:List Env}{L e:Addr}{Q:Unit->af->Prop}{cls:Value}{dd:Option Addr}
theorem z92 (fr:A.frames=some (env::outer))(ff:s.heap.FunFrames base (env::outer))(el:env.frame=some L)(ge:s.heap.get? e=some ob)(st:base.StaysIn s.heap)(be:base.get? e=none)(da:ob.data=.fields vs)(sz:1<vs.size)
  (go:∀h',base.StaysIn h'->h'.FunFrames base (env::outer)->TrD h' base e ob.cls ob.dict (l7 L)->s.heap.UpToSlots h'->Q () {s with heap:=h'}):
  wpAny M A (do
   let a <-frameOf env
   let pl <-entryPlaceOf L hn
   let b <-EntryCells.newEntry head a .none (l7 L) .none pl
   setField (.ref e) 1 b) Q E s:=by
 have Vm:e∉(env::outer).filterMap (·.frame):=λz=>by obtain⟨_,o,q,n⟩:=ff.mem z;rw[ge]at q;cases q;exact n vs da
 refine ae (wpAny_frameOf_fun fr ff el λh1 k1=>ae (wpAny_entryPlaceOf λpl hp=>?_));refine ae (ig ?_ (hp.sizeOk5 _ _ _ _ _));have ge1:h1.get? e=some ob:=k1.2.1 e Vm▸ge;have MP:base.StaysIn h1:=λb o q=>by rw[k1.2.1 b λz=>by rw[(ff.mem z).1]at q;cases q];exact st b o q
 generalize ht:({cls:=.type "traceback",dict:=none,data:=.fields ([head,.ref L,.none,l7 L,.none]++(if pl.isEmpty then ba 6 Value.none else pl)).toArray}:Obj)=tr;have MQ:=ah tr ge1;have Te:h1.objs.size≠e:=λz=>absurd (bt ge1) (z▸cy _);refine k9 MQ da sz (go _ ?_ ?_ ?_ ?_)
 all_goals generalize hg:(λv:Array Value=>v.setIfInBounds 1 (Value.ref h1.objs.size))=g
 all_goals
  have dm:=Obj.data_mapFields da g;have T3:((h1.push tr).update e (Obj.mapFields g)).get? h1.objs.size=some tr:=by rw[fg _ _ (Ne.symm Te)];exact bw h1 (by rw[<-ht];rfl)
  have keep:∀b o,b≠e->h1.get? b=some o->((h1.push tr).update e (Obj.mapFields g)).get? b=some o:=λb o n q=>by rw[fg _ _ (Ne.symm n)];exact ah _ q
  have eO:∀b o,s.heap.get? b=some o->(∀vs,o.data≠.fields vs)->b≠e:=λb o q n z=>by rw[z,ge]at q;cases q;exact n vs da
 ·exact λb o q=>keep b o (λz=>by rw[z,be]at q;cases q) (MP b o q)
 ·refine ff.of_keeps λb o q n=>?_;obtain⟨sl,z⟩:=k1.2.2 b o q;exact⟨_,keep b _ (eO b o q n) z,rfl⟩
 ·refine⟨_,_,h1.objs.size,tr,_,gw (Obj.mapFields g) MQ (Obj.isFreed_of_fields dm),Obj.cls_mapFields _ _,Vl _ _,dm,?_,MP.fresh,Te,T3,by rw[<-ht],?_⟩
  ·rw[<-hg];simp[sz]
  ·first|(simp;done)|(rcases hp with rfl|⟨_,_,_,_,_,_,_,rfl⟩<;>simp)
 ·exact λb o q n=>by obtain⟨sl,z⟩:=k1.2.2 b o q;exact⟨sl,keep b _ (eO b o q n) z⟩
theorem zfr (fr:A.frames=some (env::outer))(ff:s.heap.FunFrames base (env::outer))(el:env.frame=some L)(ge:s.heap.get? e=some ob)(st:base.StaysIn s.heap)(be:base.get? e=none)(da:ob.data=.fields vs)(v1:vs[1]?=some .none)
  (go:∀h',base.StaysIn h'->h'.FunFrames base (env::outer)->TrD h' base e ob.cls ob.dict (l7 L)->s.heap.UpToSlots h'->Q () {s with heap:=h'}):wpAny M A (jq (.ref e) env) Q E s:=by
 unfold jq;simp only[el];refine ae (gm ge da v1 ?_);exact z92 fr ff el ge st be da (gu.mp v1).1 go
theorem zjw (fr:A.frames=some (env::outer))(ff:s.heap.FunFrames base (env::outer))(el:env.frame=some L)(tr:TrD s.heap base e cls dd .none)(st:base.StaysIn s.heap)(be:base.get? e=none)
  (go:∀h',base.StaysIn h'->h'.FunFrames base (env::outer)->TrD h' base e cls dd (l7 L)->s.heap.UpToSlots h'->Q () {s with heap:=h'}):wpAny M A (jq (.ref e) env) Q E s:=by
 obtain⟨ob,vs,T,oT,ts,ge,rfl,rfl,da,v1,bT,Te,gT,dT,t3⟩:=tr;unfold jq;simp only[el];refine ae (gm ge da v1 ?_);refine ae (gm gT dT t3 ?_);refine ae (k9 gT dT (gu.mp t3).1 ?_);generalize hg:(λv:Array Value=>v.setIfInBounds 3 Value.none)=g;have rH:∀b,b≠T->(s.heap.update T (Obj.mapFields g)).get? b=s.heap.get? b:=λb n=>fg _ _ (Ne.symm n);have eO:∀b o,s.heap.get? b=some o->(∀vs,o.data≠.fields vs)->b≠T:=λb o q n z=>by rw[z,gT]at q;cases q;exact n ts dT
 refine z92 fr (ff.of_keeps λb o q n=>⟨o,by rw[<-q];exact rH b (eO b o q n),rfl⟩) el ((rH e (Ne.symm Te)).trans ge) (λb o q=>(rH b λz=>by rw[z,bT]at q;cases q).trans (st b o q)) be da (gu.mp v1).1 λh' k1 k2 k3 k4=>go h' k1 k2 k3 λb o q n=>k4 b o ((rH b (eO b o q n)).trans q) n
theorem zep (st:base.StaysIn s.heap)(ff:s.heap.FunFrames base l)(tr:TrD s.heap base e cls dd fl)
  (go:∀h',base.StaysIn h'->h'.FunFrames base l->TrD h' base e cls dd .none->s.heap.UpToSlots h'->Q () {s with heap:=h'}):wpAny M A (lm (.ref e) none) Q E s:=by
 obtain⟨ob,vs,T,oT,ts,ge,hc,hd,da,v1,bT,Te,gT,dT,t3⟩:=tr;have sz:=(gu.mp t3).1;refine ae (gm ge da v1 ?_);refine k9 gT dT sz ?_;generalize hg:(λv:Array Value=>v.setIfInBounds 3 ((none:Option Addr).elim Value.none λf=>l7 f))=g;have rH:∀b,b≠T->(s.heap.update T (Obj.mapFields g)).get? b=s.heap.get? b:=λb n=>fg _ _ (Ne.symm n);have eO:∀b o,s.heap.get? b=some o->(∀vs,o.data≠.fields vs)->b≠T:=λb o q n z=>by rw[z,gT]at q;cases q;exact n ts dT
 refine go _ (λb o q=>(rH b λz=>by rw[z,bT]at q;cases q).trans (st b o q)) (ff.of_keeps λb o q n=>⟨o,(rH b (eO b o q n)).trans q,rfl⟩) ⟨ob,vs,T,_,_,(rH e (Ne.symm Te)).trans ge,hc,hd,da,v1,bT,Te,gw _ gT (Obj.isFreed_of_fields (Obj.data_mapFields dT _)),Obj.data_mapFields dT _,by rw[<-hg];simp[sz]⟩ λb o q n=>⟨o.slots,(rH b (eO b o q n)).trans q⟩
theorem z8r (fr:A.frames=some (env::outer))(el:env.frame=some L)(fl:FlD base (env::outer) e cls dd s.heap)
  (go:∀h',MO base (env::outer) e cls dd L h'->s.heap.UpToSlots h'->Q () {s with heap:=h'}):wpAny M A (jq (.ref e) env) Q E s:=by
 obtain⟨f1,f2,f3,f4⟩:=fl;exact zjw fr f3 el f4 f1 f2 λh' k1 k2 k3 k4=>go h' ⟨k1,f2,k2,k3⟩ k4
theorem MR (x:MO base l e cls dd L s.heap)(go:∀h',FlD base l e cls dd h'->s.heap.UpToSlots h'->Q () {s with heap:=h'}):wpAny M A (lm (.ref e) none) Q E s:=by obtain⟨f1,f2,f3,f4⟩:=x;exact zep f1 f3 f4 λh' k1 k2 k3 k4=>go h' ⟨k1,f2,k2,k3⟩ k4
theorem Vn (x:FlD base l e cls dd s.heap)(go:∀h',FlD base l e cls dd h'->s.heap.UpToSlots h'->Q () {s with heap:=h'}):wpAny M A (lm (.ref e) none) Q E s:=by obtain⟨f1,f2,f3,f4⟩:=x;exact zep f1 f3 f4 λh' k1 k2 k3 k4=>go h' ⟨k1,f2,k2,k3⟩ k4
theorem zg1 (fr:A.frames=some (env::outer))(el:env.frame=some L)(fl:FlD base (env::outer) e cls dd s.heap)
  (go:∀h',FlD base outer e cls dd h'->s.heap.UpToSlots h'->Q () {s with heap:=h'}):wpAny M A (um env (.ref e)) Q E s:=by
 refine ae (z8r fr el fl λh1 k1 u1=>MR k1 λh2 k2 u2=>?_);obtain⟨f1,f2,⟨_,_,f3⟩,f4⟩:=k2;exact go h2 ⟨f1,f2,f3,f4⟩ (u1.trans u2)
theorem zbz (fr:A.frames=some (env::outer))(ff:s.heap.FunFrames base (env::outer))(el:env.frame=some L)(ge:s.heap.get? e=some ob)(st:base.StaysIn s.heap)(be:base.get? e=none)(da:ob.data=.fields vs)(v1:vs[1]?=some .none)
  (go:∀h',FlD base outer e ob.cls ob.dict h'->s.heap.UpToSlots h'->Q () {s with heap:=h'}):wpAny M A (um env (.ref e)) Q E s:=by
 refine ae (zfr fr ff el ge st be da v1 λh1 k1 k2 k3 u1=>zep k1 k2 k3 λh2 j1 j2 j3 u2=>?_);obtain⟨_,_,f3⟩:=j2;exact go h2 ⟨j1,be,f3,j3⟩ (u1.trans u2)
end
structure Fly (P:bx)(w:World)(base:Heap)(outer:List Env)(H:Hp)(s:af)(C a:Addr)(H':Hp)(s':af)(dd:Option Addr):Prop where
 os:s'.os=s.os
 bare:ml s'.gens
 cT:∀b xs,H b=some (.tup xs)->H' b=some (.tup xs)
 cL:∀b o u,H b=some (.fL o u)->H' b=some (.fL o u)
 cU:∀b ps,H b=some (.nI ps)->∃more,H' b=some (.nI (ps++more))
 free:∀b o,s.heap.get? b=some o->H b=none->H' b=none
 hh:∃B,base.StaysIn B/\HOk P w H' B/\(∀b o,s.heap.get? b=some o->b∉frs outer->∃o',B.get? b=some o'/\(H b=none->o'=o))/\FlD B outer a (.ref C) dd s'.heap
 slot:∀b o,s.heap.get? b=some o->H b=none->b∈frs outer->∃sl,s'.heap.get? b=some {o with slots:=sl}
def CXE (P:bx)(w:World)(base:Heap):CXT:=λouter H s E e s'=>∃a C dd H',e=.ref a/\Fly P w base outer H s C a H' s' dd/\E (.ref C) dd H'
theorem Kv {P:bx}{w:World}{H:Hp}{h:Heap}{a:Addr}{o:HO}(x:z12 P w H h a o):∃ob,h.get? a=some ob:=by
 cases o with
 |lst xs=>obtain⟨_,_,_,_,e⟩:=x;exact⟨_,e⟩
 |tup xs=>obtain⟨_,_,_,_,e⟩:=x;exact⟨_,e⟩
 |dK kvs=>obtain⟨_,_,_,_,o,_,_,e,_⟩:=x;exact⟨_,e⟩
 |dT kvs=>obtain⟨_,_,_,_,o,_,_,e,_⟩:=x;exact⟨_,e⟩
 |set S n=>obtain⟨o,_,_,_,e,_⟩:=x;exact⟨_,e⟩
 |ins C dx fs=>obtain⟨_,_,_,e,_⟩:=x;exact⟨_,e⟩
 |own y=>exact x
 |xd fs=>obtain⟨_,⟨_,_,_,e,_⟩,_⟩:=x;exact⟨_,e⟩
 |fL ob u=>exact⟨_,x.1⟩
 |nI ps=>exact⟨_,x⟩
 |ext φ=>exact x.2.1
section
variable {P:bx}{w:World}{base:Heap}{outer:List Env}{H H':Hp}{s s':af}{C a:Addr}{dd:Option Addr}
theorem Fly.hok (f:Fly P w base outer H s C a H' s' dd):HOk P w H' s'.heap:=by obtain⟨B,_,hB,_,fl⟩:=f.hh;exact hB.kept fl.1
theorem Fly.un (f:Fly P w base outer H s C a H' s' dd):Un (frs outer) [] H H' s.heap s'.heap:=by
 obtain⟨B,_,hB,pO,fl⟩:=f.hh;refine⟨λb o e n hb _=>?_,λb o e n hb _=>f.slot b o e n hb,λb o e n _=>f.free b o e n,λb o e _=>?_,f.cT,f.cL,f.cU⟩
 ·obtain⟨o',e1,e2⟩:=pO b o e hb;rw[e2 n]at e1;exact fl.1 b o e1
 ·by_cases hb:b∈frs outer
  ·obtain⟨_,o3,e3,_⟩:=fl.2.2.1.mem hb;exact⟨o3,e3⟩
  ·obtain⟨o',e1,_⟩:=pO b o e hb;exact⟨o',fl.1 b o' e1⟩
end
section
variable {X:Cx}{pins:List (Addr×Obj)}{Y:L2.St}{H H':Hp}{s s':af}{C a:Addr}{dd:Option Addr}
theorem Fly.inv (f:Fly X.prog X.w X.base X.stack H s C a H' s' dd)(I:Inv X pins Y H s):Inv X pins Y H' s':=by obtain⟨h',g,d,t,o⟩:=s';obtain rfl:o=s.os:=f.os;exact I.call f.un f.hok f.bare λb z=>nomatch z
theorem Fly.leave {M:Model}{outer:List Env}{Q:Unit->af->Prop}{E:Value->af->Prop}(f:Fly X.prog X.w X.base X.stack H s C a H' s' dd)(I:Inv X pins Y H s)(hs:X.stack=X.env::X.outer)(hf:X.env.frame=some X.env.locals)(hx:X.ex=[])
  (hQ:∀mP,Fly X.prog X.w X.base X.outer X.iH X.s₀ C a H' mP dd->Q () mP):wpAny M X.A (um X.env (.ref a)) Q E s':=by
 obtain⟨B,hb,hB,pO,fl⟩:=f.hh;rw[hs]at fl;have zI:X.A.frames=some (X.env::X.outer):=by rw[<-hs];exact I.ok.frames
 have u0:=I.base
 have rJ:∀b o,X.s₀.heap.get? b=some o->b∉frs X.outer->b∉frs X.stack:=λb o e hn z=>by
  rw[hs]at z;unfold frs at z hn;rw[cx,hf]at z;rcases ak.mp z with z|z
  ·exact absurd (bt e) (by rw[z];exact Nat.not_lt.mpr I.ok.above)
  ·exact hn z
 have slot:∀h',s'.heap.UpToSlots h'->∀b o,X.s₀.heap.get? b=some o->X.iH b=none->b∈frs X.outer->∃sl,h'.get? b=some {o with slots:=sl}:=λh' up b o e n hn=>by
  have nx:b∉X.ex:=by rw[hx];simp
  obtain⟨sl,e1⟩:=I.base.slot b o e n hn nx;have hst:b∈frs X.stack:=by rw[hs];unfold frs;rw[cx,hf];exact bn _ hn
  obtain⟨qC,e2⟩:=f.slot b _ e1 (I.base.free b o e n nx) hst;obtain⟨_,o3,e3,nd⟩:=I.ok.cV.mem hn;rw[e]at e3;cases e3;obtain⟨tM,e4⟩:=up b _ e2 nd;exact⟨tM,e4⟩
 refine zg1 zI hf fl λh' Vo up=>hQ _ ⟨f.os.trans I.os,f.bare,λb xs e=>f.cT b xs (u0.cT b xs e),λb o u e=>f.cL b o u (u0.cL b o u e),λb ps e=>?_,λb o e n=>?_,⟨B,hb,hB,λb o e hn=>?_,Vo⟩,slot h' up⟩
 ·obtain⟨m1,e1⟩:=u0.cU b ps e;obtain⟨m2,e2⟩:=f.cU b _ e1;exact⟨m1++m2,by rw[e2,qy]⟩
 ·have nx:b∉X.ex:=by rw[hx];simp
  obtain⟨o',e'⟩:=I.base.there b o e nx;exact f.free b o' e' (I.base.free b o e n nx)
 ·have nx:b∉X.ex:=by rw[hx];simp
  obtain⟨o1,e1⟩:=I.base.there b o e nx;obtain⟨o2,e2,e3⟩:=pO b o1 e1 (rJ b o e hn);refine⟨o2,e2,λn=>?_⟩;rw[e3 (I.base.free b o e n nx)];have:=I.base.keep b o e n hn nx;rw[this]at e1;cases e1;rfl
theorem Vp (x:HOk P w H h)(n:∀b∈l,H b=none):HOk P w H (W.hideAll h l):=λb o e=>by
 refine(x b o e).stay (λc u hc q=>W.hideAll_get _ q λz=>?_) (λ_ q=>q) λ_ _ q=>q;rcases hc with rfl|hc
 ·rw[n c z]at e;cases e
 ·rw[n c z]at hc;cases hc
theorem zdb (I:Inv X pins Y H s)(h0:X.s₀.heap.get? a=none)(hH:H a=none)(ge:s.heap.get? a=some ob)(hc:ob.cls=.ref C)(da:ob.data=.fields vs)(v1:vs[1]?=some .none)(hs:X.stack=X.env::X.outer)(hf:X.env.frame=some X.env.locals)(hx:X.ex=[])
  (hQ:∀mP,Fly X.prog X.w X.base X.outer X.iH X.s₀ C a H mP ob.dict->Q () mP):wpAny M X.A (um X.env (.ref a)) Q E s:=by
 have nx:∀b,b∉X.ex:=λb=>by rw[hx];simp
 have hst:=I.stack;rw[hs]at hst
 have eJ:∀b∈a::frs (X.env::X.outer),H b=none:=λb hb=>by
  rcases ak.mp hb with rfl|hb
  ·exact hH
  ·exact I.gI b (hs▸hb)
 have rJ:∀b o,X.s₀.heap.get? b=some o->b∉frs X.outer->b∉a::frs (X.env::X.outer):=λb o e hn z=>by
  rcases ak.mp z with rfl|z
  ·rw[h0]at e;cases e
  unfold frs at z hn;rw[cx,hf]at z;rcases ak.mp z with z|z
  ·exact absurd (bt e) (z▸Nat.not_lt.mpr I.ok.above)
  ·exact hn z
 refine zbz (base:=W.hideAll s.heap (a::frs (X.env::X.outer))) (hs▸I.ok.frames) (W.funFrames_hide hst (λenv he b hb=>bn _ (jb.mpr ⟨env,he,hb⟩))) hf ge (λb o q=>W.of_hideAll _ q) (W.hideAll_none _ az) da v1 λh' fl up=>hQ _ ⟨I.os,I.bare,I.base.cT,I.base.cL,I.base.cU,λb o e n=>I.base.free b o e n (nx b),⟨_,λb o e=>W.hideAll_get _ (I.bk b o e) (rJ b o (I.ok.bs b o e).1 (I.ok.yZ e)),Vp I.hok eJ,λb o e hn=>?_,by rw[hc]at fl;exact fl⟩,λb o e n hn=>?_⟩
 ·obtain⟨o1,e1⟩:=I.base.there b o e (nx b);refine⟨o1,W.hideAll_get _ e1 (rJ b o e hn),λn=>?_⟩;rw[I.base.keep b o e n hn (nx b)]at e1;cases e1;rfl
 obtain⟨sl,e1⟩:=I.base.slot b o e n hn (nx b);obtain⟨_,o3,e3,nd⟩:=I.ok.cV.mem hn;rw[e]at e3;cases e3;obtain⟨tM,e4⟩:=up b _ e1 nd;exact⟨tM,e4⟩
end
structure Lv (X:Cx)(H0:Hp)(c:Str):Prop where
 made:∀pins Y H s a C args h',Inv X pins Y H s->X.mg c=some (.ref C)->Same H0 H->Heap.MadeExcOf s.heap h' a (.ref C) args->X.xe (.ref a) {s with heap:=h'}
 Vq:∀pins Y H s a C H' s',Inv X pins Y H s->X.mg c=some (.ref C)->Same H0 H'->Fly X.prog X.w X.base X.stack H s C a H' s' none->X.xe (.ref a) s'
theorem Lv.mono (l:Lv X H0 c)(h:Same H0 H1):Lv X H1 c:=⟨λpins Y H s a C args h' I m z=>l.made pins Y H s a C args h' I m (h.trans z),λpins Y H s a C H' s' I m z=>l.Vq pins Y H s a C H' s' I m (h.trans z)⟩
def Rz (X:Cx)(f:Rho->Option Str)(Y:L2.St)(H:Hp):Prop:=∃ρ F c,StOk X.K F H Y ρ/\f ρ=some c/\Lv X F.H0 c
def MS (K:W.Frag)(mg:Str->Option Value)(n:Nat)(m:Fn):Sp:=λvs H _ E=>∃A ds c,vs.length=n/\Reps K H A vs ds/\excOf (m ds)=some c/\∀C H',mg c=some (.ref C)->Same H H'->E (.ref C) none H'
def oQ (P:bx)(w:World)(K:W.Frag)(mg:Str->Option Value)(base:Heap)(k:Nat)(x:Str)(ps:List Str)(n:Nat)(m:Fn):Prop:=∃f fd,FnOk P w K mg base (CXE P w base) k f fd ps (MS K mg n m)/\mg x=some (.ref f)/\W.keepIn K (.ref f)=true/\Binds K fd ps []
def jY (X:Cx)(i:Nat)(n:Str)(a:Addr)(oe:Obj):Cx:={X with A:=X.A.mark (some (.ref a)),N:=X.N.set i "",calm:=false,pn:=(a,oe)::X.pn,xe:=λ_ _=>False,fx:=[(n,.ref a)]}
section
variable {X:Cx}{pins:List (Addr×Obj)}{Y:L2.St}{H:Hp}{s:af}{i:Nat}{n:Str}{a:Addr}{oe:Obj}
theorem Vr (ok:X.Ok)(nd:X.N.Nodup)(hi:X.N[i]?=some n)(hv:X.env.scope.names.lookup ("":Str)=none)(hl:X.env.scope.names.lookup n=some .local):(jY X i n a oe).Ok:=by refine⟨ok.mod,ok.kind,ok.glob,ok.blt,ok.above,ok.inj,ok.has,ok.sQ,λz=>(by cases z),ok.frames,ok.uV,ok.uW,ok.bs,ok.kW,ok.iI,ok.iJ,ok.cV,ok.pX,λx u z=>?_⟩;cases am.mp z;exact hl
theorem zp2 (I:Inv X pins Y H s)(nd:X.N.Nodup)(hi:X.N[i]?=some n)(hv:X.env.scope.names.lookup ("":Str)=none)(hl:X.env.scope.names.lookup n=some .local)(hσ:Y[i]?=some (some (.ref a)))
  (ho:s.heap.get? a=some oe) (hH:H a=none) (h1:a≠X.env.locals) (h2:a∉X.fs) (h3:∀v,oe.data≠.cell v):Inv (jY X i n a oe) pins (Y.set i none) H s:=by
 obtain⟨m,hn,wD⟩:=I.loc;refine⟨Vr I.ok nd hi hv hl,I.os,I.bare,I.base,⟨m,hn,λj x v e1 e2 e3=>?_⟩,I.cell,I.free,I.bF,λp hp=>?_,I.hok,?_,λx u z=>?_⟩
 ·have e1:(X.N.set i "")[j]?=some x:=e1;by_cases e:i=j
  ·subst e;rw[cq (I.len▸(aq.mp hi).1)]at e2;cases e2
  ·rw[ci e]at e1 e2;exact wD j x v e1 e2 e3
 ·rcases ak.mp hp with rfl|hp
  ·exact⟨ho,hH,h1,h2,h3⟩
  ·exact I.pin p hp
 ·show(Y.set i none).length=(X.N.set i "").length;rw[cu,cu];exact I.len
 ·have z:(x,u)∈ [(n,Value.ref a)]:=z;cases am.mp z;obtain⟨u,rfl,q⟩:=wD i n (.ref a) hi hσ (.inl hl);rcases q with⟨_,q⟩|⟨k,_⟩
  ·exact⟨m,hn,q⟩
  ·have k:X.env.scope.names.lookup n=some .cell\/X.env.scope.names.lookup n=some .free:=k;rcases k with k|k<;>(rw[hl]at k;cases k)
theorem Vs (ok:X.Ok)(hx:X.fx=[])(hi:X.N[i]?=some n)(I:Inv (jY X i n a oe) pins Y H s):Inv X pins (Y.set i none) H s:=by
 obtain⟨m,hn,wD⟩:=I.loc;have hlen:Y.length=(X.N.set i "").length:=I.len;rw[cu]at hlen;refine⟨ok,I.os,I.bare,I.base,⟨m,hn,λj x v e1 e2 e3=>?_⟩,I.cell,I.free,I.bF,λp hp=>I.pin p (bn _ hp),I.hok,by rw[cu];exact hlen,λx u z=>by rw[hx]at z;cases z⟩;by_cases e:i=j
 ·subst e;rw[cq (hlen▸(aq.mp hi).1)]at e2;cases e2
 ·rw[ci e]at e2;exact wD j x v (show(X.N.set i "")[j]?=some x by rw[ci e];exact e1) e2 e3
theorem zow (I:Inv X pins Y H s)(hx:X.fx=[])(nd:X.N.Nodup)(hi:X.N[i]?=some n)(hl:X.env.scope.names.lookup n=some .local)(hσ:Y[i]?=some (some v))
  (h:∀s',Inv X pins (Y.set i none) H s'->Q () s'):wpAny M A (lx X.env n pos) Q E s:=by
 obtain⟨m,hn,wD⟩:=id I.loc;have mO:=I.mO;obtain⟨u,r,q⟩:=wD i n v hi hσ (.inl hl)
 have hv:m n=some u:=by
  rcases q with⟨_,q⟩|⟨k,_⟩
  ·exact q
  ·have k:X.env.scope.names.lookup n=some .cell\/X.env.scope.names.lookup n=some .free:=k;rcases k with k|k<;>(rw[hl]at k;cases k)
 refine wpAny_onRaise (wpAny_unbindName_local hl hn hv (by rw[I.ok.kind];rfl) λh' u' hn' hs=>h _ ?_);have old:∀b o,X.s₀.heap.get? b=some o->b≠X.env.locals:=λb o e=>cw (cb (bt e) I.ok.above);refine⟨I.ok,I.os,I.bare,⟨λb o e z hb hx=>(hs.2 b (old b o e)).trans (I.base.keep b o e z hb hx),λb o e z hb hx=>?_,I.base.free,λb o e hx=>?_,I.base.cT,I.base.cL,I.base.cU⟩,⟨_,hn',λj y w e1 e2 e3=>?_⟩,λy c e=>?_,I.free,I.bF,λp hp=>?_,λb ob e=>?_,by rw[cu];exact I.len,λx u z=>by rw[hx]at z;cases z⟩
 ·obtain⟨sl,e1⟩:=I.base.slot b o e z hb hx;exact⟨sl,(hs.2 b (old b o e)).trans e1⟩
 ·obtain⟨o',e1⟩:=I.base.there b o e hx;exact⟨o',(hs.2 b (old b o e)).trans e1⟩
 ·by_cases hj:i=j
  ·subst hj;rw[cq (I.len▸(aq.mp hi).1)]at e2;cases e2
  ·rw[ci hj]at e2;obtain⟨u2,r2,q2⟩:=wD j y w e1 e2 e3;refine⟨u2,r2,?_⟩;have hy:y≠n:=λz=>hj (Ej nd hi (z▸e1));rcases q2 with⟨k,q2⟩|⟨k,c,e,z⟩
   ·exact .inl ⟨k,by simp only[vh hy];exact q2⟩
   ·exact .inr ⟨k,c,e,z.sameBut hs (mO y c e)⟩
 ·obtain⟨w,z⟩:=I.cell y c e;exact⟨w,z.sameBut hs (mO y c e)⟩
 ·obtain⟨e,nn,ne,nf,dd⟩:=I.pin p hp;exact⟨(hs.2 p.1 ne).trans e,nn,ne,nf,dd⟩
 ·have nl:∀c w,H c=some w->c≠X.env.locals:=λc w q z=>by rw[z,I.free]at q;cases q
  exact(I.hok b ob e).stay (λc w hc q=>(hs.2 c (hc.elim (λz=>by rw[z];exact nl b _ e) λz=>nl c _ z)).trans q) (λ_ q=>q) λ_ _ q=>q
theorem zcx (ok:X.Ok)(hx:X.fx=[])(nd:X.N.Nodup)(hi:X.N[i]?=some n)(hl:X.env.scope.names.lookup n=some .local)(hnx:∀σ' H',D2.nx σ' H'->Dn.nx (σ'.set i none) H')(hrt:∀v H',D2.rt v H'->Dn.rt v H')(hbk:∀σ' H',¬D2.bk σ' H')(hct:∀σ' H',¬D2.ct σ' H')
  (h:SP (jY X i n a oe) pins D2 f s):wpAny M X.A (do bindName X.env n .none;lx X.env n pos) (λ_ s5=>SP X pins Dn f s5) E s:=by
 have key:∀{σ':L2.St} {H':Hp} {Q:Unit->af->Prop},Inv (jY X i n a oe) pins σ' H' s->(∀s5,Inv X pins (σ'.set i none) H' s5->Q () s5)->wpAny M X.A (do bindName X.env n .none;lx X.env n pos) Q E s:=λ{σ' H' Q} I k=>by have I1:=Vs ok hx hi I;refine ae (wpAny_bindName (z4c I1 nd hi (.inl hl) (v:=.bA) rfl (λs4 I4 _=>?_) ⟨.inr hl,λ_ z=>by rw[hx]at z;cases z⟩));refine zow I4 hx nd hi hl (cq (I1.len▸(aq.mp hi).1)) λs5 I5=>k s5 ?_;rw[t8,t8]at I5;exact I5
 cases f with
 |next=>obtain⟨σ',H',I,q⟩:=h;exact key I λs5 I5=>⟨_,H',I5,hnx σ' H' q⟩
 |ret u=>obtain⟨v,σ',H',I,r,q⟩:=h;exact key I λs5 I5=>⟨v,_,H',I5,r,hrt v H' q⟩
 |brk=>obtain⟨σ',H',_,q⟩:=h;simp_all
 |cont=>obtain⟨σ',H',_,q⟩:=h;simp_all
theorem MT {C:Addr}(f:Fly P w base outer H s C a H' s' dd):H' a=none:=by
 obtain⟨B,_,hB,_,fl⟩:=f.hh;cases e:H' a with
 |none=>rfl
 |some u=>obtain⟨o,q⟩:=Kv (hB a u e);rw[fl.2.1]at q;cases q
theorem zey {C D:Addr}(inv:∀h6,FlD B0 (X.env::X.outer) a (.ref C) dd h6->s'.heap.UpToSlots h6->Inv X pins Y H' {s' with heap:=h6})(w0:FlD B0 (X.env::X.outer) a (.ref C) dd s'.heap)(hHa:H' a=none)(hs:X.stack=X.env::X.outer)(hf:X.env.frame=some X.env.locals)(hx:X.fx=[])(nd:X.N.Nodup)(hi:X.N[i]?=some n)(hv:X.env.scope.names.lookup ("":Str)=none)(hl:X.env.scope.names.lookup n=some .local)
  (hB:X.mg B=some (.ref D)) (hm:∀A E Q s6 oe,X.K.In s6.heap->s6.heap.get? a=some oe->oe.cls=.ref C->Q true s6->wpAny (model X.prog X.w) A (uz (.ref a) (.ref D)) Q E s6) (rK:Gl X B) (hdB:aab B)
  (hQ:∀f s,SP X pins Dn f s->Q f s) (AK:∀oe ws,oe.cls=.ref C->oe.dict=dd->oe.data=.fields ws->PSs (jY X i n a oe) (b0::suite) T) (q:T ⟨λσ' fC=>Dn.nx (σ'.set i none) fC,Dn.rt,λ_ _=>False,λ_ _=>False⟩ (Y.set i none) H'):
  wpAny (model X.prog X.w) X.A (jq (.ref a) X.env) (λ_ s2=>wpAny (model X.prog X.w) X.A (lm (.ref a) none) (λ_ s3=>wpAny (model X.prog X.w) X.A (t9 (.ref a) X.env [.ExceptHandler (some (.Name B np)) (some n) (b0::suite) hp]) Q X.xe s3) X.xe s2) X.xe s':=by
 have ok:=(inv _ w0 (Heap.UpToSlots.refl _)).ok;refine z8r (hs▸ok.frames) hf w0 λh4 held MU=>MR held λh5 w5 MV=>?_;have I5:=inv h5 w5 (MU.trans MV);refine wpAny_handleBy_cons (codeAny_handlers_test ?_) (by intro z;cases z);refine jm I5.ok.kind rK (n9 (I5.ok.glob▸I5.mod.glob.keeps I5.bk) hB ?_) hdB;obtain⟨ob,_,E6,G0,_⟩:=w5.first;refine hm _ _ _ _ ob I5.fF E6 G0 (codeAny_handlers_suite_as (Vn w5 λh6 w6 Vt=>?_));have I6:=inv h6 w6 ((MU.trans MV).trans Vt);obtain⟨oe,ws,C3,G1,G2,oR⟩:=w6.first;refine z4c I6 nd hi (.inl hl) (v:=.ref a) rfl (λs7 I7 ch=>?_) ⟨.inr hl,λ_ z=>by rw[hx]at z;cases z⟩;obtain⟨ad,Vu,Vw⟩:=ch;have nL:a≠X.env.locals:=λz=>by obtain⟨_,o3,e3,AL⟩:=I6.stack.mem (by rw[hs,cx,hf];exact az);rw[<-z]at e3;rw[C3]at e3;cases e3;exact AL ws oR
 have nF:a∉X.fs:=λz=>by obtain⟨_,o3,e3,AL⟩:=I6.cV.mem z;rw[C3]at e3;cases e3;exact AL ws oR
 have nA:a≠ad:=λz=>by
  rcases Vw with h|h
  ·exact nL (z.trans h)
  ·obtain⟨v,oc,xS,pY⟩:=I6.cell n ad h;rw[<-z]at xS;rw[C3]at xS;cases xS;rw[oR]at pY;cases pY
 have I8:=zp2 I7 nd hi hv hl (cq (I6.len▸(aq.mp hi).1)) ((Vu.2 a nA).trans C3) hHa nL nF (λv z=>by rw[oR]at z;cases z);rw[t8]at I8;refine jl (AK oe ws G1 G2 oR pins s7 _ H' ⟨λσ' fC=>Dn.nx (σ'.set i none) fC,Dn.rt,λ_ _=>False,λ_ _=>False⟩ I8 q) (λfl2 s9 h9=>?_) λ_ _ z=>z.elim;refine jl (zcx (D2:=⟨λσ' fC=>Dn.nx (σ'.set i none) fC,Dn.rt,λ_ _=>False,λ_ _=>False⟩) ok hx nd hi hl (λ_ _ z=>z) (λ_ _ z=>z) (λ_ _ z=>z) (λ_ _ z=>z) h9) (λ_ s5 h5=>hQ _ s5 h5) λ_ _ z=>z
theorem Fly.land {C:Addr}(I:Inv X pins Y H1 s1)(fl:Fly X.prog X.w X.base X.stack H1 s1 C a H' s' dd)(AM:X.base.StaysIn B0)(yk:HOk X.prog X.w H' B0)(pO:∀b o,s1.heap.get? b=some o->b∉frs X.stack->∃o',B0.get? b=some o'/\(H1 b=none->o'=o))(w6:FlD B0 X.stack a (.ref C) dd h6)(up:s'.heap.UpToSlots h6):Inv X pins Y H' {s' with heap:=h6}:=by refine Fly.inv ⟨fl.os,fl.bare,fl.cT,fl.cL,fl.cU,fl.free,⟨B0,AM,yk,pO,w6⟩,λb o e z hb=>?_⟩ I;obtain⟨sl,e1⟩:=fl.slot b o e z hb;obtain⟨_,o3,e3,AL⟩:=I.stack.mem hb;rw[e]at e3;cases e3;obtain⟨tM,e4⟩:=up b _ e1 AL;exact⟨tM,e4⟩
theorem AN {C D:Addr}(xC:gD X.K C=true)(xD:gD X.K D=true)(sb:W.subIn X.K (.ref C) (.ref D)=some true)(A:d7)(E:Value->af->Prop)(Q:Bool->af->Prop)(s6:af)(oe:Obj)(k:X.K.In s6.heap)(e:s6.heap.get? a=some oe)(c:oe.cls=.ref C)(q:Q true s6):wpAny (model X.prog X.w) A (uz (.ref a) (.ref D)) Q E s6:=by obtain⟨bmC,oC,cC⟩:=XC.mk k xC;obtain⟨bmD,oD,_⟩:=XC.mk k xD;exact Vh oC oD e c (cC _ _ sb) q
end
section
variable {X:Cx}{n x:Str}{p p1 p2 pos:Pos}{a C:Addr}{oe:Obj}{v:V}{u:Value}{b:Bool}
theorem MW (hx:X.fx=[(n,.ref a)])(hl:X.env.scope.names.lookup n=some .local)(hd:aab n):PE X (.Name n p) (λ_ H Q=>Q (.ref a) H):=by intro pins s Y H Q I h;obtain⟨m,hn,hm⟩:=I.fx n _ (hx▸am.mpr rfl);exact qz (pv I.ok.kind hl hn hm ⟨.ref a,H,I,rfl,h⟩) hd
theorem Vx (hg:Gl X x)(hm:X.mg x=some u\/(X.mg x=none/\dg x=some u/\x≠"__name__"))(r:RelV v u)(hd:aab x):PE X (.Name x p) (λ_ H Q=>Q v H):=by
 intro pins s Y H Q I h;rcases hm with hm|⟨h1,h2,h3⟩
 ·exact z82 I hg hm ⟨v,H,I,r,h⟩ hd
 ·exact z38 I hg h1 h2 ⟨v,H,I,r,h⟩ h3 hd
def Xh (X:Cx)(a:Addr)(oe:Obj):Prop:=∀pins Y H s,Inv X pins Y H s->s.heap.get? a=some oe
theorem zsu (hm:X.mg "isinstance"=none)(hg:Gl X "isinstance")(hx:X.fx=[(n,.ref a)])(hl:X.env.scope.names.lookup n=some .local)(hd:aab n)(hp:Xh X a oe)(hc:oe.cls=.ref C)
  (C4:Gl X x) (Vy:X.mg x=some u\/(X.mg x=none/\dg x=some u/\x≠"__name__")) (r:RelV v u) (ru:∀w,RelV v w->w=u) (Vz:aab x) (xa:XA X.K C) (xv:XV X.K u) (hs:W.subIn X.K (.ref C) u=some b):
  PE X (.Call (.Name "isinstance" p) [.Name n p1,.Name x p2] [] pos) (tD X.K λ_=>.ok (.fr,.bool b)):=by
 rintro pins s Y H Q I ⟨ρ,F,z,so,e,q⟩
 cases e;refine j7 (z38 (u:=.builtin "isinstance") I hg hm (by decide+kernel) ?_ dc dc);refine PyProof.Rows.callWith_builtin1 (aO ((EF (MW (p:=p1) hx hl hd) (EF (Vx (p:=p2) C4 Vy r Vz) pF)) pos pins s Y H (λvs H1=>vs=[.ref a,v]/\H1=H) I ⟨rfl,rfl⟩) λus s1 zz=>?_) rfl rfl;obtain⟨vs,H1,I1,r1,rfl,rfl⟩:=zz;cases r1 with
 |cons ra rt=>
  cases rt with
  |cons rb rn=>cases rn;rename_i w1 w2;obtain rfl:w1=Value.ref a:=ra;have e2:=ru w2 rb;subst e2;exact zuj I1.fF xa (hp _ _ _ _ I1) hc xv hs λt'=>⟨.bl b,H1,I1.tok _,rfl,q _ H1 (Same.refl H1) rfl⟩
end
section
theorem aE (h:(a&&b)=true):a=true/\b=true:=av.mp h
theorem aY (h:(a&&b&&c)=true):a=true/\b=true/\c=true:=⟨(aE (aE h).1).1,(aE (aE h).1).2,(aE h).2⟩
theorem bK (h:(a&&b&&c&&d)=true):a=true/\b=true/\c=true/\d=true:=⟨(aY (aE h).1).1,(aY (aE h).1).2.1,(aY (aE h).1).2.2,(aE h).2⟩
theorem fY (h:(a&&b&&c&&d&&e)=true):a=true/\b=true/\c=true/\d=true/\e=true:=⟨(bK (aE h).1).1,(bK (aE h).1).2.1,(bK (aE h).1).2.2.1,(bK (aE h).1).2.2.2,(aE h).2⟩
theorem eQ (h:(!b)=true):b=false:=by cases b<;>first|rfl|cases h
theorem ff {p:Prop}(h:b=false)(z:b=true):p:=by rw[h]at z;cases z
theorem fO (h:l.isEmpty=true):l=[]:=by cases l<;>first|rfl|cases h
theorem AO (h:(!l.isEmpty)=true):∃x r,l=x::r:=by cases l<;>first|exact⟨_,_,rfl⟩|cases h
theorem aK (h:o.any f=true):∃v,o=some v/\f v=true:=by
 cases o with
 |none=>cases h
 |some v=>exact⟨v,rfl,h⟩
theorem cA {α:Type}{o:Option α}{v:α}{q:α->Prop}(h:o=some v)(d:o=none\/∃u,o=some u/\q u):q v:=by grind
theorem AQ (h:FC e=some v):∃p,e=.Name v p:=cA (q:=λv=>∃p,e=.Name v p) h (by cases e<;>first|exact .inl rfl|exact .inr ⟨_,rfl,_,rfl⟩)
theorem yl (h:fU e=some v):∃k p,e=.Constant v k p:=cA (q:=λv=>∃k p,e=.Constant v k p) h (by cases e<;>first|exact .inl rfl|exact .inr ⟨_,rfl,_,_,rfl⟩)
theorem G3 (h:qO e=some v):∃p,e=.BinOp v.1 v.2.1 v.2.2 p:=cA (q:=λv=>∃p,e=.BinOp v.1 v.2.1 v.2.2 p) h (by cases e<;>first|exact .inl rfl|exact .inr ⟨_,rfl,_,rfl⟩)
theorem wF (h:Cu e=some v):∃p,e=.UnaryOp v.1 v.2 p:=cA (q:=λv=>∃p,e=.UnaryOp v.1 v.2 p) h (by cases e<;>first|exact .inl rfl|exact .inr ⟨_,rfl,_,rfl⟩)
theorem rL (h:oI e=some v):∃p,e=.Compare v.1 v.2.1 v.2.2 p:=cA (q:=λv=>∃p,e=.Compare v.1 v.2.1 v.2.2 p) h (by cases e<;>first|exact .inl rfl|exact .inr ⟨_,rfl,_,rfl⟩)
theorem lW (h:vW e=some v):e=.BoolOp v.1 v.2.1 v.2.2:=cA (q:=λv=>e=.BoolOp v.1 v.2.1 v.2.2) h (by cases e<;>first|exact .inl rfl|exact .inr ⟨_,rfl,rfl⟩)
theorem VA (h:zV e=some v):∃p,e=.IfExp v.1 v.2.1 v.2.2 p:=cA (q:=λv=>∃p,e=.IfExp v.1 v.2.1 v.2.2 p) h (by cases e<;>first|exact .inl rfl|exact .inr ⟨_,rfl,_,rfl⟩)
theorem C5 (h:qP e=some v):∃k p,e=.Tuple v k p:=cA (q:=λv=>∃k p,e=.Tuple v k p) h (by cases e<;>first|exact .inl rfl|exact .inr ⟨_,rfl,_,_,rfl⟩)
theorem G4 (h:qQ e=some v):∃p,e=.List v p:=cA (q:=λv=>∃p,e=.List v p) h (by cases e<;>first|exact .inl rfl|exact .inr ⟨_,rfl,_,rfl⟩)
theorem wG (h:Cv e=some v):∃p,e=.Dict v.1 v.2 p:=cA (q:=λv=>∃p,e=.Dict v.1 v.2 p) h (by cases e<;>first|exact .inl rfl|exact .inr ⟨_,rfl,_,rfl⟩)
theorem AR (h:lO e=some v):∃p,e=.Subscript v.1 v.2 p:=cA (q:=λv=>∃p,e=.Subscript v.1 v.2 p) h (by cases e<;>first|exact .inl rfl|exact .inr ⟨_,rfl,_,rfl⟩)
theorem VB (h:zW e=some v):∃p,e=.Slice v.1 v.2.1 v.2.2 p:=cA (q:=λv=>∃p,e=.Slice v.1 v.2.1 v.2.2 p) h (by cases e<;>first|exact .inl rfl|exact .inr ⟨_,rfl,_,rfl⟩)
theorem AS (h:FD e=some v):e=.Call v.1 v.2.1 v.2.2.1 v.2.2.2:=cA (q:=λv=>e=.Call v.1 v.2.1 v.2.2.1 v.2.2.2) h (by cases e<;>first|exact .inl rfl|exact .inr ⟨_,rfl,rfl⟩)
theorem AU (h:FE e=some v):e=.Attribute v.1 v.2.1 v.2.2:=cA (q:=λv=>e=.Attribute v.1 v.2.1 v.2.2) h (by cases e<;>first|exact .inl rfl|exact .inr ⟨_,rfl,rfl⟩)
theorem AV (h:FF e=some v):∃p,e=.ListComp v.1 v.2.1 v.2.2 p:=cA (q:=λv=>∃p,e=.ListComp v.1 v.2.1 v.2.2 p) h (by cases e<;>first|exact .inl rfl|exact .inr ⟨_,rfl,_,rfl⟩)
theorem fZ (h:bH l=some v):l=[v]:=by rcases l with _|⟨x,_|⟨y,l⟩⟩<;>cases h;rfl
theorem MX (h:vX l=some v):l=[v.1,v.2]:=by rcases l with _|⟨x,_|⟨y,_|⟨z,l⟩⟩⟩<;>cases h;rfl
theorem mW (h:mR e=some v):∃q p,e=.Call (.Name v.1 q) v.2 [] p:=by
 obtain⟨u,hu,h⟩:=ko.mp h;cases hk:u.2.2.1.isEmpty with
 |false=>rw[hk]at h;simp_all
 |true=>rw[hk]at h;obtain⟨x,hx,rfl⟩:=b9.mp h;obtain⟨q,hq⟩:=AQ hx;exact⟨q,_,by rw[AS hu,hq,fO hk]⟩
theorem jZ (h:qR e=some v):∃ap cp,e=.Call (.Attribute v.1 v.2.1 ap) v.2.2.1 [] cp/\v.2.2.2=(ap.endLine==cp.line):=by
 obtain⟨u,hu,h⟩:=ko.mp h;cases hk:u.2.2.1.isEmpty with
 |false=>rw[hk]at h;simp_all
 |true=>rw[hk]at h;obtain⟨x,hx,rfl⟩:=b9.mp h;exact⟨_,_,by rw[AS hu,AU hx,fO hk],rfl⟩
theorem iD (h:jC f e=true):∃x p,e=.Name x p/\f x=true:=by obtain⟨x,hx,h⟩:=aK h;obtain⟨p,hp⟩:=AQ hx;exact⟨x,p,hp,h⟩
def VC (K:W.Frag)(mg:Str->Option Value)(c C:Str)(b:Bool):Prop:=∃A v u,mg c=some (.ref A)/\XA K A/\XV K u/\W.subIn K (.ref A) u=some b/\RelV v u/\(∀w,RelV v w->w=u)/\(mg C=some u\/(mg C=none/\dg C=some u/\C≠"__name__"))
def G5 (K:W.Frag)(mg:Str->Option Value)(c:Str):Prop:=∃C,mg c=some (.ref C)/\CY K C=true
def VD (K:W.Frag)(mg:Str->Option Value)(c B:Str):Prop:=∃C D,mg c=some (.ref C)/\mg B=some (.ref D)/\gD K C=true/\gD K D=true/\W.subIn K (.ref C) (.ref D)=some true
structure wH (Γ:Gm)(K:W.Frag)(mg:Str->Option Value):Prop where
 sub:∀c C b,Γ.sub.contains (c,C,b)=true->VC K mg c C b
 rs:∀c,Γ.rs.contains c=true->G5 K mg c
 iA:∀c B,Γ.iA.contains (c,B)=true->VD K mg c B
structure Cok (Γ:Gm)(Κ:List D)(Φ:List Fn)(X:Cx)(r:Nat):Prop where
 hN:X.N=Γ.N
 hs:X.env.scope=Γ.sc
 nd:Γ.N.Nodup
 fn:Γ.blk=false->∀x,X.fn x=true
 kind:Γ.sc.kind=.function
 free:∀x,Γ.free.contains x=true->X.mg x=none
 fns:∀(j:Nat) f n,Γ.fns[j]?=some (f,n)->∃m k ps,Φ[j]?=some m/\k<=r/\Cal X.prog X.w X.K X.mg X.base k f ps (spD X.K n m)
 cst:∀(j:Nat) x,Γ.cst[j]?=some x->∃d a,Κ[j]?=some d/\X.mg x=some (.ref a)/\∀H B,B none->Rep X.K H B (.ref a) d
 pP:∀(j:Nat) f n,Γ.fns[j]?=some (f,n)->∃m k ps,Φ[j]?=some m/\k<=r/\oQ X.prog X.w X.K X.mg X.base k f ps n m
 room:Γ.cm=true->Room r X.A
 calm:Γ.cm=true->X.calm=true
 hu:X.A.units+64<cLine
 oS:Γ.blk=false->X.stack=X.env::X.outer/\X.env.frame=some X.env.locals
 ym:Γ.xc=none->∀x u,(x,u)∈X.fx->Γ.kp.contains x=true
 xc:∀n c,Γ.xc=some (n,c)->∃a oe C,X.fx=[(n,.ref a)]/\Xh X a oe/\oe.cls=.ref C/\X.mg c=some (.ref C)
 xk:wH Γ X.K X.mg
section
variable {Γ:Gm}{Κ:List D}{Φ:List Fn}{X:Cx}{r:Nat}
theorem Cok.gl (k:Cok Γ Κ Φ X r)(h:vV Γ x=true):Gl X x/\aab x:=by unfold vV at h;rw[br]at h;refine⟨?_,by simpa using h.2⟩;show X.env.scope.names.lookup x=_;rw[k.hs];simpa using h.1
theorem Cok.aM (k:Cok Γ Κ Φ X r)(h:fT Γ i x=true):X.N[i]?=some x/\Vis X.env.scope x/\aab x/\(x==("__classdict__":Str))=false:=by
 unfold fT at h;simp at h;have⟨⟨⟨h1,h2⟩,h3⟩,h4⟩:=h;refine⟨by rw[k.hN];exact h1,?_,by simpa using h3,by simpa using h4⟩;rw[k.hs];rcases h2 with(h2|h2)|h2
 ·exact .inl h2
 ·exact .inr (.inl h2)
 ·exact .inr (.inr h2)
theorem Cok.loc (k:Cok Γ Κ Φ X r)(h:jV Γ i x=true):X.N[i]?=some x/\Loc X.env.scope x/\Sto X x:=by
 unfold jV at h;simp only[br,j0,beq_iff_eq,nc]at h;obtain⟨⟨h1,h2⟩,h3,h4⟩:=h;refine⟨by rw[k.hN];exact h1,?_,?_,λu z=>?_⟩
 ·unfold L2.Loc;rw[k.hs];rcases h2 with h2|⟨_,h2⟩
  ·exact .inl h2
  ·exact .inr h2
 ·rcases h2 with h2|⟨h2,_⟩
  ·exact .inr (k.hs▸h2)
  ·exact .inl (k.fn h2 x)
 ·cases e:Γ.xc with
  |none=>rw[k.ym e x u z]at h3;cases h3
  |some p=>obtain⟨a,oe,C,e1,_⟩:=k.xc p.1 p.2 e;rw[e1]at z;have e2:x=p.1:=congrArg vc (am.mp z);rw[e]at h4;have h4:(!(p.1==x))=true:=h4;rw[e2,beq_self_eq_true]at h4;cases h4
theorem Cok.VE (k:Cok Γ Κ Φ X r)(h:xc0 Γ=true):X.fx=[]:=by have h:=av.mp h;refine List.eq_nil_iff_forall_not_mem.mpr λp hp=>?_;have:=k.ym (gz.mp h.1) p.1 p.2 hp;rw[ln.mp h.2]at this;cases this
theorem VF (h:xc0 Γ=true):Γ.xc=none:=gz.mp (av.mp h).1
theorem Cok.blt (k:Cok Γ Κ Φ X r)(h:dS Γ x=true):Gl X x/\X.mg x=none/\aab x/\x≠"__name__":=by unfold dS at h;simp only[av]at h;obtain⟨⟨h1,h2⟩,h3⟩:=h;obtain⟨g1,g2⟩:=k.gl h1;exact⟨g1,k.free x h2,g2,by simpa using h3⟩
theorem VG {C:Addr}:(blk X scope N' C fp s H).env.scope=Cr scope X.env.scope:=rfl
theorem Cok.blk (k:Cok Γ Κ Φ X r)(hk:scope.kind=.function)(nd:N'.Nodup)(C:Addr)(fp:List Addr)(s:af)(H:Hp):Cok {Γ with N:=N',sc:=Cr scope Γ.sc,blk:=true,xc:=none,kp:=[]} Κ Φ (blk X scope N' C fp s H) r where
 hN:=rfl
 hs:=by rw[VG,k.hs]
 nd:=nd
 fn:=λz=>by cases z
 kind:=hk
 free:=k.free
 fns:=k.fns
 cst:=k.cst
 pP:=k.pP
 room:=k.room
 calm:=k.calm
 hu:=k.hu
 oS:=λz=>by cases z
 ym:=λ_ _ _ z=>by cases z
 xc:=λ_ _ z=>by cases z
 xk:=⟨k.xk.sub,k.xk.rs,k.xk.iA⟩
theorem VH (k:Cok Γ Κ Φ X r)(all:List Nat):∀{es:List Expr},FG Γ is es=true->PGs X es (oK X.K all is)/\(eu es X.env).length=is.length/\(eu es X.env).findIdx? (·.1)=none:=by
 induction is with
 |nil=>intro es h;cases fO h;exact⟨TY,rfl,rfl⟩
 |cons i is ih=>
  intro es h;cases es with
  |nil=>cases h
  |cons e es=>
   obtain⟨h0,h9⟩:=aE h;obtain⟨x,p,rfl,h0⟩:=iD h0;obtain⟨h1,h2,h3⟩:=k.loc h0;obtain⟨a1,a2,a3⟩:=ih h9;refine⟨TZ (k.hN▸k.nd) h1 h2 h3 a1,?_,?_⟩
   ·show(eu es X.env).length+1=_;rw[a2];rfl
   ·show((false,q8 (.Name x p) X.env)::eu es X.env).findIdx? (·.1)=none;rw[List.findIdx?_cons,a3];rfl
theorem yn (k:Cok Γ Κ Φ X r)(h:qS Γ t e=true):PG X e (tDG X.K t):=by
 cases t with
 |nm i=>obtain⟨x,p,rfl,h9⟩:=iD h;obtain⟨h1,h2,h3⟩:=k.loc h9;exact TX (k.hN▸k.nd) h1 h2 h3
 |tp is=>obtain⟨h0,h⟩:=aE h;obtain⟨v,hv,h9⟩:=aK h;obtain⟨_,_,rfl⟩:=C5 hv;obtain⟨a1,a2,a3⟩:=VH k is h9;exact T1 (k.calm h0) a1 rfl a3 a2.symm
theorem VI (h:plainT e=true)(env:Env):∀whole,ub e env whole=(do let v <-whole;standAt e.pos;vf [v] (truthy v)):=by
 intro whole;cases e<;>first|(cases h;done)|rfl|skip
 rename_i op x p;cases op<;>first|(cases h;done)|rfl
theorem wI (h:tG e=true)(env:Env):∀x,gg e env x=pure x:=by intro x;cases e<;>first|(cases h;done)|rfl
end
variable (Κ:List D)(Φ:List Fn)
theorem VJ (c:C):∀Γ es ρ ys,dU Γ c es=true->dP Κ Φ c ρ=.ok ys->ys.length=es.length/\(es.all λe=>!isStar e)=true:=by
 induction c with
 |nil=>intro Γ es ρ ys h e;cases fO h;cases e;exact⟨rfl,rfl⟩
 |cons a r _ ih=>
  intro Γ es ρ ys h e;cases es with
  |nil=>cases h
  |cons x es=>obtain⟨h1,_,h3⟩:=aY h;obtain⟨y,_,e⟩:=Res.aA e;obtain⟨LJ,e2,e⟩:=Res.aA e;cases e;obtain⟨i1,i2⟩:=ih Γ es ρ LJ h3 e2;exact⟨by rw[bv,bv,i1],by rw[cv,i2,h1];rfl⟩
 |_=>exact λ_ _ _ _ h=>ff rfl h
end
section
theorem VL (h:tyB Γ T t=true):∃x p,t=.Name x p/\x=Str.ofString T/\dS Γ x=true/\T∈tysB:=by obtain⟨x,p,e,h⟩:=iD h;obtain⟨h1,h2,h3⟩:=aY h;exact⟨x,p,e,vp h1,h2,c8.mp h3⟩
theorem G6 (h:(a||b)=true)(n:b=false):a=true:=by rw[n,Bool.or_false]at h;exact h
theorem VM (h:T∈tysB):dg (Str.ofString T)=some (.type T):=by simp only[tysB,ak,i7,or_false]at h;rcases h with rfl|rfl|rfl|rfl|rfl<;>decide+kernel
variable (Κ:List D)(Φ:List Fn)
theorem wJ:∀{c:C} {es:List Expr},dU Γ c es=true->(es.all λe=>!isStar e)=true:=by
 intro c
 induction c with
 |nil=>intro es h;cases fO h;rfl
 |cons a r _ ih=>
  intro es h;cases es with
  |nil=>rfl
  |cons e es=>obtain⟨h1,_,h3⟩:=aY h;rw[cv,ih h3,h1];rfl
 |_=>exact λh=>ff rfl h
theorem AW (h:dU Γ c es=true):∀ρ ys,dP Κ Φ c ρ=.ok ys->ys.length=es.length:=λρ ys e=>(VJ Κ Φ c Γ es ρ ys h e).1
structure Sd (c:C):Prop where
 E:∀(Γ:Gm) (X:Cx) (r:Nat) (e:Expr),Cok Γ Κ Φ X r->chkE Γ c e=true->PE X e (tD X.K (aG Κ Φ c))
 T:∀(Γ:Gm) (X:Cx) (r:Nat) (e:Expr),Cok Γ Κ Φ X r->eV Γ c e=true->PT X e (dZ X.K (eL Κ Φ c))/\((∃o l p,e=.BoolOp o l p)->PW X e (dZ X.K (eL Κ Φ c)))
 Q:∀(Γ:Gm) (X:Cx) (r:Nat) (l:Expr) (ops:List CmpOp) (rs:List Expr) (pos:Pos),Cok Γ Κ Φ X r->chkE Γ c (.Compare l ops rs pos)=true->PT X (.Compare l ops rs pos) (dZ X.K λρ=>aG Κ Φ c ρ>>=λx=>lH x.2)
 A:∀(Γ:Gm) (X:Cx) (r:Nat) (es:List Expr),Cok Γ Κ Φ X r->dU Γ c es=true->PA X es (tDA X.K (dP Κ Φ c))
 O:∀(Γ:Gm) (X:Cx) (r:Nat) (e:Option Expr),Cok Γ Κ Φ X r->qT Γ c e=true->PO X e (tDO X.K (vU Κ Φ c))
 W:∀(Γ:Gm) (X:Cx) (r:Nat) (e tg:Expr),Cok Γ Κ Φ X r->Cy c tg=true->lP Γ c e=true->PI X tg e (tDW X.K (evW Κ Φ c))
 G:∀(Γ:Gm) (X:Cx) (r:Nat) (e:Expr),Cok Γ Κ Φ X r->wc Γ c e=true->∃a,c=.tv a/\PE X e (tD X.K (aG Κ Φ a))
def rM:C->Nat
 |.and _ _|.or _ _|.not _|.tv _|.nil|.cons _ _|.fM _|.enum _=>2
 |.cmp _ _ _|.jA _ _=>1
 |_=>0
variable {Κ:List D}{Φ:List Fn}{a b c:C}
section
variable {Γ:Gm}{e tg:Expr}{es:List Expr}{o:Option Expr}
theorem VN (h:rM c<2):eV Γ c e=false:=by cases c<;>first|rfl|exact absurd h (cy 2)
theorem VO (h:rM c<2):dU Γ c es=false:=by cases c<;>first|rfl|exact absurd h (cy 2)
theorem VP (h:rM c<2):qT Γ c o=false:=by cases c<;>first|rfl|exact absurd h (cy 2)
theorem VQ (h:rM c<2):lP Γ c e=false:=by cases c<;>first|rfl|exact absurd h (cy 2)
theorem VR (h:rM c<2):wc Γ c e=false:=by cases c<;>first|rfl|exact absurd h (cy 2)
end
theorem Sd.q (hE:∀Γ X r e,Cok Γ Κ Φ X r->chkE Γ c e=true->PE X e (tD X.K (aG Κ Φ c)))(hQ:∀Γ X r l ops rs pos,Cok Γ Κ Φ X r->chkE Γ c (.Compare l ops rs pos)=true->PT X (.Compare l ops rs pos) (dZ X.K λρ=>aG Κ Φ c ρ>>=λx=>lH x.2))(hx:rM c<2):Sd Κ Φ c:=⟨hE,λ_ _ _ _ _ h=>ff (VN hx) h,hQ,λ_ _ _ _ _ h=>ff (VO hx) h,λ_ _ _ _ _ h=>ff (VP hx) h,λ_ _ _ _ _ _ _ h=>ff (VQ hx) h,λ_ _ _ _ _ h=>ff (VR hx) h⟩
theorem VS (h:rM c=0):chkE Γ c (.Compare l ops rs pos)=false:=by cases c<;>first|rfl|(cases h;done)
theorem Sd.x (hE:∀Γ X r e,Cok Γ Κ Φ X r->chkE Γ c e=true->PE X e (tD X.K (aG Κ Φ c)))(hx:rM c=0):Sd Κ Φ c:=Sd.q hE (λ_ _ _ _ _ _ _ _ h=>ff (VS hx) h) (hx▸Nat.zero_lt_two)
theorem VT:Sd Κ Φ (.var i):=Sd.x (λΓ X r e k h=>by obtain⟨x,p,rfl,h⟩:=iD h;obtain⟨h1,h2,h3,h4⟩:=k.aM h;exact Ta h1 h2 h3 h4) rfl
theorem VU:Sd Κ Φ .bA:=Sd.x (λΓ X r e k h=>by obtain⟨_,_,rfl⟩:=yl (vm h);exact CD QD λ_ _=>rfl) rfl
theorem G7 {b:Bool}:Sd Κ Φ (.bl b):=Sd.x (λΓ X r e k h=>by obtain⟨_,_,rfl⟩:=yl (vm h);exact CD QC λ_ _=>rfl) rfl
theorem VW {b:Int}:Sd Κ Φ (.int b):=Sd.x (λΓ X r e k h=>by obtain⟨_,_,rfl⟩:=yl (vm h);exact CD QB λ_ _=>rfl) rfl
theorem VX {b:Str}:Sd Κ Φ (.str b):=Sd.x (λΓ X r e k h=>by obtain⟨h1,h2⟩:=aE h;obtain⟨_,_,rfl⟩:=yl (vm h1);exact CD QE λ_ _=>⟨rfl,h2⟩) rfl
theorem VY (ia:Sd Κ Φ a)(ib:Sd Κ Φ b):Sd Κ Φ (.bin op a b):=Sd.x (λΓ X r e k h=>by obtain⟨v,hv,h9⟩:=aK h;obtain⟨p,rfl⟩:=G3 hv;obtain⟨h1,h2,h3,h4⟩:=bK h9;cases vm h1;exact Tb h2 (ia.E Γ X r _ k h3) (ib.E Γ X r _ k h4)) rfl
theorem MY (h:chkE Γ (.cmp op a b) e=true):∃l r p,e=.Compare l [op] [r] p/\z4y op=true/\dw op r=false/\chkE Γ a l=true/\chkE Γ b r=true:=by obtain⟨⟨l,o,rs⟩,hv,h9⟩:=aK h;obtain⟨p,rfl⟩:=rL hv;obtain⟨h1,h2⟩:=aE h9;obtain⟨r,hr,h3⟩:=aK h2;cases vm h1;cases fZ hr;obtain⟨h2,h3,h4,h5⟩:=bK h3;exact⟨l,r,p,rfl,h2,eQ h3,h4,h5⟩
theorem VZ (ia:Sd Κ Φ a)(ib:Sd Κ Φ b):Sd Κ Φ (.cmp op a b):=Sd.q (λΓ X r e k h=>by
 obtain⟨_,_,_,rfl,h2,h3,h4,h5⟩:=MY h;exact zu7 k.hu h2 h3 (ia.E Γ X r _ k h4) (ib.E Γ X r _ k h5)) (λΓ X r l ops rs p k h=>by
 obtain⟨_,_,_,he,h2,h3,h4,h5⟩:=MY h;cases he;exact zs5 k.hu h2 h3 (ia.E Γ X r _ k h4) (ib.E Γ X r _ k h5)) Nat.one_lt_two
theorem MZ (h:((oI e).any λv=>decide (v.2.1=[o])&&(bH v.2.2).any λr=>decide (fU r=some w)&&chkE Γ a v.1)=true):∃l k q p,e=.Compare l [o] [.Constant w k q] p/\chkE Γ a l=true:=by obtain⟨⟨l,o,rs⟩,hv,h9⟩:=aK h;obtain⟨p,rfl⟩:=rL hv;obtain⟨h1,h2⟩:=aE h9;obtain⟨r,hr,h3⟩:=aK h2;obtain⟨h4,h5⟩:=aE h3;cases vm h1;cases fZ hr;obtain⟨_,_,rfl⟩:=yl (vm h4);exact⟨_,_,_,_,rfl,h5⟩
theorem V0 (ia:Sd Κ Φ a):Sd Κ Φ (.jA ng a):=Sd.q (λΓ X r e k h=>by
 obtain⟨_,_,_,_,rfl,h2⟩:=MZ h;exact Td rfl (ia.E Γ X r _ k h2)) (λΓ X r l ops rs p k h=>by
 obtain⟨_,_,_,_,he,h2⟩:=MZ h;cases he;exact Tf rfl (ia.E Γ X r _ k h2)) Nat.one_lt_two
theorem yo (h:vY f g o p xs=true):(∃x y,xs=[x,y]/\f x=true/\g y=true)\/∃x y z r,xs=x::y::z::r/\f x=true/\g (.BoolOp o (y::z::r) p)=true:=by
 rcases xs with _|⟨x,_|⟨y,_|⟨z,xs⟩⟩⟩
 ·cases h
 ·cases h
 ·exact .inl ⟨x,y,rfl,(aE h).1,(aE h).2⟩
 ·exact .inr ⟨x,y,z,xs,rfl,(aE h).1,(aE h).2⟩
theorem V1 (ia:Sd Κ Φ a)(ib:Sd Κ Φ b):Sd Κ Φ (.and a b) where
 E:=λΓ X r e k h=>by
  obtain⟨⟨o,xs,p⟩,hv,h9⟩:=aK h;cases lW hv;obtain⟨h1,h2⟩:=aE h9;cases vm h1;rcases yo h2 with⟨x,y,rfl,h3,h4⟩|⟨x,y,z,t,rfl,h3,h4⟩
  ·exact Lw (ia.E Γ X r _ k h3) (Eo (ib.E Γ X r _ k h4))
  ·exact Lw (ia.E Γ X r _ k h3) (ib.E Γ X r _ k h4)
 T:=λΓ X r e k h=>by
  obtain⟨⟨o,xs,p⟩,hv,h9⟩:=aK h;cases lW hv;obtain⟨h1,h2⟩:=aE h9;cases vm h1;rcases yo h2 with⟨x,y,rfl,h3,h4⟩|⟨x,y,z,t,rfl,h3,h4⟩
  ·have w:=w_and (pos:=p) (ia.T Γ X r _ k h3).1 (QG (ib.T Γ X r _ k h4).1);exact⟨w.pt,λ_=>w⟩
  ·have w:=w_and (ia.T Γ X r _ k h3).1 ((ib.T Γ X r _ k h4).2 ⟨_,_,_,rfl⟩);exact⟨w.pt,λ_=>w⟩
 Q:=λ_ _ _ _ _ _ _ _ h=>ff rfl h
 A:=λ_ _ _ _ _ h=>ff rfl h
 O:=λ_ _ _ _ _ h=>ff rfl h
 W:=λ_ _ _ _ _ _ _ h=>ff rfl h
 G:=λ_ _ _ _ _ h=>ff rfl h
theorem G8 (ia:Sd Κ Φ a)(ib:Sd Κ Φ b):Sd Κ Φ (.or a b) where
 E:=λΓ X r e k h=>by
  obtain⟨⟨o,xs,p⟩,hv,h9⟩:=aK h;cases lW hv;obtain⟨h1,h2⟩:=aE h9;cases vm h1;rcases yo h2 with⟨x,y,rfl,h3,h4⟩|⟨x,y,z,t,rfl,h3,h4⟩
  ·exact z8 (ia.E Γ X r _ k h3) (Eo (ib.E Γ X r _ k h4))
  ·exact z8 (ia.E Γ X r _ k h3) (ib.E Γ X r _ k h4)
 T:=λΓ X r e k h=>by
  obtain⟨⟨o,xs,p⟩,hv,h9⟩:=aK h;cases lW hv;obtain⟨h1,h2⟩:=aE h9;cases vm h1;rcases yo h2 with⟨x,y,rfl,h3,h4⟩|⟨x,y,z,t,rfl,h3,h4⟩
  ·have w:=w_or (pos:=p) (ia.T Γ X r _ k h3).1 (Ki (ib.T Γ X r _ k h4).1);exact⟨w.pt,λ_=>w⟩
  ·have w:=w_or (ia.T Γ X r _ k h3).1 ((ib.T Γ X r _ k h4).2 ⟨_,_,_,rfl⟩);exact⟨w.pt,λ_=>w⟩
 Q:=λ_ _ _ _ _ _ _ _ h=>ff rfl h
 A:=λ_ _ _ _ _ h=>ff rfl h
 O:=λ_ _ _ _ _ h=>ff rfl h
 W:=λ_ _ _ _ _ _ _ h=>ff rfl h
 G:=λ_ _ _ _ _ h=>ff rfl h
theorem V2 (ia:Sd Κ Φ a):Sd Κ Φ (.not a) where
 E:=λΓ X r e k h=>by obtain⟨⟨o,x⟩,hv,h9⟩:=aK h;obtain⟨p,rfl⟩:=wF hv;obtain⟨h1,h2⟩:=aE h9;cases vm h1;exact Ti (ia.E Γ X r _ k h2)
 T:=λΓ X r e k h=>by obtain⟨⟨o,x⟩,hv,h9⟩:=aK h;obtain⟨p,rfl⟩:=wF hv;obtain⟨h1,h2⟩:=aE h9;cases vm h1;exact⟨z9 (ia.T Γ X r _ k h2).1,λ⟨_,_,_,z⟩=>by cases z⟩
 Q:=λ_ _ _ _ _ _ _ _ h=>ff rfl h
 A:=λ_ _ _ _ _ h=>ff rfl h
 O:=λ_ _ _ _ _ h=>ff rfl h
 W:=λ_ _ _ _ _ _ _ h=>ff rfl h
 G:=λ_ _ _ _ _ h=>ff rfl h
theorem V3 (h:Ll e=true):∃l o r p,e=.Compare l o r p:=by cases e<;>first|exact ff rfl h|exact⟨_,_,_,_,rfl⟩
theorem G9 (ia:Sd Κ Φ a):Sd Κ Φ (.tv a) where
 E:=λ_ _ _ _ _ h=>ff rfl h
 T:=λΓ X r e k h=>by
  obtain⟨h1,h2⟩:=aE h;rcases fj.mp h1 with h1|h1
  ·exact⟨Tj (ia.E Γ X r _ k h2) (VI h1 _),λ⟨_,_,_,z⟩=>by subst z;cases h1⟩
  ·obtain⟨_,_,_,_,rfl⟩:=V3 h1;exact⟨ia.Q Γ X r _ _ _ _ k h2,λ⟨_,_,_,z⟩=>by cases z⟩
 Q:=λ_ _ _ _ _ _ _ _ h=>ff rfl h
 A:=λ_ _ _ _ _ h=>ff rfl h
 O:=λΓ X r e k h=>by obtain⟨v,rfl,h⟩:=aK h;exact TF (ia.E Γ X r _ k h)
 W:=λΓ X r e tg k _ h=>cI (ia.E Γ X r _ k (aE h).2)
 G:=λΓ X r e k h=>⟨a,rfl,ia.E Γ X r _ k h⟩
theorem V4 (ic:Sd Κ Φ c)(ia:Sd Κ Φ a)(ib:Sd Κ Φ b):Sd Κ Φ (.oE c a b):=Sd.x (λΓ X r e k h=>by obtain⟨v,hv,h9⟩:=aK h;obtain⟨p,rfl⟩:=VA hv;obtain⟨h1,h2,h3⟩:=aY h9;exact Tn (ic.T Γ X r _ k h1).1 (ia.E Γ X r _ k h2) (ib.E Γ X r _ k h3)) rfl
theorem V5 (ia:Sd Κ Φ a):Sd Κ Φ (.tup a):=Sd.x (λΓ X r e k h=>by obtain⟨v,hv,h9⟩:=aK h;obtain⟨_,_,rfl⟩:=C5 hv;obtain⟨h1,h2⟩:=aE h9;exact To (ia.A Γ X r _ k h2) λρ ys e=>by rw[AW Κ Φ h2 ρ ys e];exact Ft (vm h1)) rfl
theorem V6 (ia:Sd Κ Φ a):Sd Κ Φ (.lst a):=Sd.x (λΓ X r e k h=>by obtain⟨v,hv,h9⟩:=aK h;obtain⟨_,rfl⟩:=G4 hv;obtain⟨h1,h2⟩:=aE h9;exact Tq (ia.A Γ X r _ k h2) λρ ys e=>by rw[AW Κ Φ h2 ρ ys e];exact Ft (vm h1)) rfl
theorem V7 (ia:Sd Κ Φ a)(ib:Sd Κ Φ b):Sd Κ Φ (.rep a b):=Sd.x (λΓ X r e k h=>by obtain⟨⟨x,o,y⟩,hv,h9⟩:=aK h;obtain⟨p,rfl⟩:=G3 hv;obtain⟨h1,h2⟩:=aE h9;obtain⟨es,he,h3⟩:=aK h2;obtain⟨lp,rfl⟩:=G4 he;cases vm h1;obtain⟨h4,h5,h6⟩:=aY h3;exact Ve (ia.A Γ X r _ k h5) (ib.E Γ X r _ k h6) λρ ys e=>by rw[AW Κ Φ h5 ρ ys e];exact Ft (vm h4)) rfl
theorem V8:Sd Κ Φ .fI:=Sd.x (λΓ X r e k h=>by obtain⟨⟨a,b⟩,hv,h9⟩:=aK h;obtain⟨_,rfl⟩:=wG hv;obtain⟨h1,h2⟩:=aE h9;cases fO h1;cases fO h2;exact Tr) rfl
theorem G' (ia:Sd Κ Φ a)(ib:Sd Κ Φ b):Sd Κ Φ (.ix a b):=Sd.x (λΓ X r e k h=>by obtain⟨v,hv,h9⟩:=aK h;obtain⟨_,rfl⟩:=AR hv;obtain⟨h1,h2,h3⟩:=aY h9;exact d_ix k.hu h1 (ia.E Γ X r _ k h2) (ib.E Γ X r _ k h3)) rfl
theorem Ha {lo:C}(ia:Sd Κ Φ a)(il:Sd Κ Φ lo)(ih:Sd Κ Φ hi):Sd Κ Φ (.sl a lo hi):=Sd.x (λΓ X r e k h=>by obtain⟨⟨x,i⟩,hv,h9⟩:=aK h;obtain⟨_,rfl⟩:=AR hv;obtain⟨⟨l,u,s⟩,hs,h8⟩:=aK h9;obtain⟨_,rfl⟩:=VB hs;obtain⟨h1,h2,h3,h4⟩:=bK h8;cases gz.mp h1;exact d_sl (ia.E Γ X r _ k h2) (il.O Γ X r _ k h3) (ih.O Γ X r _ k h4)) rfl
theorem V9 (ia:Sd Κ Φ args):Sd Κ Φ (.call j f args):=Sd.x (λΓ X r e k h=>by
 obtain⟨⟨x,es⟩,hv,h9⟩:=aK h;obtain⟨_,_,rfl⟩:=mW hv;obtain⟨h1,h2,h3,h4,h5⟩:=fY h9;obtain⟨y,es,rfl⟩:=AO h5;obtain⟨h0,h1⟩:=aE h1;cases vp h1;obtain⟨g1,g2⟩:=k.gl h2;obtain⟨m,kk,ps,c1,c2,c3⟩:=k.fns j _ _ (vp h3);refine PE.imp (zo2 c3 (k.room h0) c2 (ia.A Γ X r _ k h4) (wJ h4) g1 g2 (AW Κ Φ h4)) λY H Q hq=>?_
 have ee:aG Κ Φ (.call j x args)=λρ=>dP Κ Φ args ρ>>=λys=>m (ys.map (·.2))>>=λr=>.ok (gJ r.2 (jS r.1),r.2):=by
  funext ρ
  show(dP Κ Φ args ρ>>=λys=>match Φ[j]? with|some m=>m (ys.map (·.2))>>=λr=>.ok (gJ r.2 (jS r.1),r.2)|none=>.no)=_;rw[c1]
 rw[ee]at hq;exact hq) rfl
theorem Hc {f:String}{args:C}(ia:Sd Κ Φ args):Sd Κ Φ (.bi f args):=Sd.x (λΓ X r e k h=>by
 obtain⟨⟨x,es⟩,hv,h9⟩:=aK h;obtain⟨_,_,rfl⟩:=mW hv;obtain⟨h1,h2,h3,h4,h5⟩:=fY h9;obtain⟨y,es,rfl⟩:=AO h5;have h1:=vp h1;obtain⟨g1,g2,g3,g4⟩:=k.blt h2;obtain⟨h3,eA⟩:=aE h3;have hf:f∈["len","max","int"]:=c8.mp h3;have ha:=ia.A Γ X r _ k h4;simp only[ak,i7,or_false]at hf;rcases hf with rfl|rfl|rfl
 ·exact d_cB TH g2 (by rw[h1];decide+kernel) ha (wJ h4) g1 g4 g3
 ·exact d_cB (TJ (k.calm (G6 eA rfl))) g2 (by rw[h1];decide+kernel) ha (wJ h4) g1 g4 g3
 ·exact ztv U6 g2 (by rw[h1];decide+kernel) ha (wJ h4) g1 g4 g3) rfl
theorem V' {f:String}(ia:Sd Κ Φ a):Sd Κ Φ (.eD f a):=Sd.x (λΓ X r e k h=>by
 obtain⟨⟨x,es⟩,hv,h9⟩:=aK h;obtain⟨_,_,rfl⟩:=mW hv;obtain⟨h1,h2,h3,h4⟩:=bK h9;obtain⟨y,hy,k5⟩:=aK h4;obtain⟨k4,k6⟩:=aE k5;cases fZ hy;have k1:=vp h1;obtain⟨g1,g2,g3,g4⟩:=k.blt h2;obtain⟨a,rfl,ha⟩:=ia.G Γ X r _ k k6;have k7:=eQ k4;obtain⟨h3,eA⟩:=aE h3;have hf:f∈vZ:=c8.mp h3;simp only[vZ,ak,i7,or_false]at hf;rcases hf with rfl|rfl|rfl
 ·exact zdv LV g2 (by rw[k1];decide+kernel) k7 ha g1 g4 g3
 ·exact zdv Uv g2 (by rw[k1];decide+kernel) k7 ha g1 g4 g3
 ·exact zdv (UH (k.calm eA)) g2 (by rw[k1];decide+kernel) k7 ha g1 g4 g3) rfl
theorem Wa (ia:Sd Κ Φ a):Sd Κ Φ (.pI a ts):=Sd.x (λΓ X r e k h=>by obtain⟨⟨x,es⟩,hv,h9⟩:=aK h;obtain⟨_,_,rfl⟩:=mW hv;obtain⟨h1,h2,h3⟩:=aY h9;obtain⟨⟨y,t⟩,hy,k3⟩:=aK h3;obtain⟨k4,h4,k5⟩:=aY k3;obtain⟨T,hT,k6⟩:=aK k5;cases MX hy;cases fZ hT;cases vp h1;obtain⟨g1,g2,g3,g4⟩:=k.blt h2;obtain⟨x2,p2,rfl,rfl,hb,kT⟩:=VL k6;obtain⟨b1,b2,b3,b4⟩:=k.blt hb;exact zvy g2 g1 b2 (VM kT) b1 b4 b3 kT (eQ k4) (ia.E Γ X r _ k h4)) rfl
theorem Hd {m:String}{args:C}(io:Sd Κ Φ a)(ia:Sd Κ Φ args):Sd Κ Φ (.mt m a args):=Sd.x (λΓ X r e k h=>by
 obtain⟨⟨x,n,es,b⟩,hv,h9⟩:=aK h;obtain⟨ap,cp,rfl,hb⟩:=jZ hv;obtain⟨h0,h6,h7,h8⟩:=bK h9;obtain⟨h1,h2,h3,h4,h5⟩:=fY h0;obtain⟨y,es,rfl⟩:=AO h8;cases vp h1;have k4:(ap.endLine==cp.line)=true:=hb.symm.trans h4;have ho:=io.E Γ X r _ k h6;have ha:=ia.A Γ X r _ k h7;have hm:m∈["get"]:=c8.mp h2;simp only[i7,ak,or_false]at hm;rcases hm with rfl
 ·exact d_mt PySem.F.plainAttrs_dict PySem.F.slot_dict_get PySem.F.type_dict_get (T8 k.hu) (λ_ _ _ _ _ _ r e=>T9 r e) ho ha h3 (wJ h7) (vm h5) k4) rfl
theorem Wb (ic:Sd Κ Φ c)(k:Cok Γ Κ Φ X n)(h:zX (zY c) (λt=>eV Γ c t) ifs=true):qG X ifs (dZ X.K (eL Κ Φ c)):=by
 cases ifs with
 |nil=>
  have:c=.nil:=by cases c<;>first|exact ff rfl h|rfl
  subst this;refine λpins s Y H Q I q=>Lf pins s Y H Q I ?_;obtain⟨ρ,F,b,so,e,q⟩:=q;cases e;exact q H (Same.refl H)
 |cons t r=>obtain⟨h1,h2⟩:=aE h;cases fO h1;exact Lg (ic.T Γ X n t k h2).1
theorem sC {cond:C}(ii:Sd Κ Φ it)(ic:Sd Κ Φ cond)(ie:Sd Κ Φ elt)(k:Cok Γ Κ Φ X r)(h:chkE Γ (.comp nt js N' tg it cond elt) e=true):
  ∃el t i ifs scope pos,e=.ListComp el [⟨t,i,ifs,0⟩] scope pos/\BlkScope X scope N' nt js/\(∀i∈tgIx tg,i<nt)/\PI X t i (tDW X.K (evW Κ Φ it))/\(∀C fp s H,PG (blk X scope N' C fp s H) t (tDG X.K tg))/\(∀C fp s H,qG (blk X scope N' C fp s H) ifs (dZ X.K (eL Κ Φ cond)))/\(∀C fp s H,PE (blk X scope N' C fp s H) el (tD X.K (aG Κ Φ elt)))/\(∀x,gg i X.env x=pure x)/\Γ.cm=true:=by
 obtain⟨⟨el,gs,scope⟩,hv,h9⟩:=aK h;obtain⟨pos,rfl⟩:=AV hv;obtain⟨⟨t,i,ifs,kk⟩,hg,h9⟩:=aK h9;cases fZ hg;obtain⟨h0,h6,h7,h8,h9⟩:=fY h9;obtain⟨h1,h2,h3,h4,h5⟩:=fY h0;obtain⟨eA,h1⟩:=aE h1;cases vp h1;have hB:=Lc k.hN k.hs h3;have kb:=λC fp s H=>k.blk hB.kind (vm h5) C fp s H;exact⟨el,t,i,ifs,scope,pos,rfl,hB,λi hi=>vm ((b8.mp h2) i hi),ii.W Γ X r _ t k (aE h6).2 h7,λC fp s H=>yn (kb C fp s H) (aE h6).1,λC fp s H=>Wb ic (kb C fp s H) h8,λC fp s H=>ie.E _ _ r _ (kb C fp s H) h9,wI h4 _,eA⟩
theorem Wd {cond:C}(ii:Sd Κ Φ it)(ic:Sd Κ Φ cond)(ie:Sd Κ Φ elt):Sd Κ Φ (.comp nt js N' tg it cond elt):=Sd.x (λΓ X r e k h=>by obtain⟨el,t,i,ifs,scope,pos,rfl,hB,h2,hi,hg,ht,he,hs,eA⟩:=sC ii ic ie k h;exact(zf0 (k.calm eA) hB h2 hi hg ht he hs).1) rfl
theorem Wg {Γ:Gm}{i:Nat}{e:Expr}(h:((qR e).any λm=>jC (fT Γ i) m.1&&(m.2.1==("items":Str))&&m.2.2.1.isEmpty&&m.2.2.2)=true):∃x p ap cp,e=.Call (.Attribute (.Name x p) "items" ap) [] [] cp/\fT Γ i x=true/\(ap.endLine==cp.line)=true:=by obtain⟨⟨x,n,es,b⟩,hv,h9⟩:=aK h;obtain⟨ap,cp,rfl,hb⟩:=jZ hv;obtain⟨h1,h2,h3,h4⟩:=bK h9;obtain⟨y,p,hy,h1⟩:=iD h1;cases hy;cases vp h2;cases fO h3;exact⟨y,p,ap,cp,rfl,h1,hb.symm.trans h4⟩
theorem Wh {i:Nat}:Sd Κ Φ (.sortI i):=Sd.x (λΓ X r e k h=>by obtain⟨⟨x,es⟩,hv,h9⟩:=aK h;obtain⟨_,_,rfl⟩:=mW hv;obtain⟨h1,h2,h3⟩:=aY h9;obtain⟨y,hy,k3⟩:=aK h3;cases fZ hy;obtain⟨x2,p2,ap,cp,rfl,k4,k5⟩:=Wg k3;obtain⟨eA,h1⟩:=aE h1;cases vp h1;obtain⟨g1,g2,g3,g4⟩:=k.blt h2;obtain⟨v1,v2,v3,v4⟩:=k.aM k4;exact zm8 (k.calm eA) g2 (by show dg ("sorted":Str)=_;decide+kernel) g1 g4 g3 v1 v2 v3 v4 k5) rfl
theorem Wi {b:Bool}:Sd Κ Φ (.vQ b x):=Sd.x (λΓ X r e k h=>by obtain⟨⟨f,es⟩,hv,h9⟩:=aK h;obtain⟨_,_,rfl⟩:=mW hv;obtain⟨h1,h2,h3⟩:=aY h9;obtain⟨⟨y1,y2⟩,hy,h4⟩:=aK h3;cases MX hy;obtain⟨⟨n,c⟩,hz,h5⟩:=aK h4;obtain⟨h6,h7⟩:=aE h5;obtain⟨n',p1,hn,h6⟩:=iD h6;obtain⟨C,p2,hC,h7⟩:=iD h7;cases hn;cases hC;obtain⟨a1,a2,a3,a4⟩:=bK h6;obtain⟨b1,b2,b3⟩:=aY h7;cases vp h1;cases vp a1;cases vp b1;obtain⟨g1,g2,g3,g4⟩:=k.blt h2;obtain⟨g5,g6⟩:=k.gl b2;obtain⟨a,oe,Cc,e1,e2,e3,e4⟩:=k.xc n c hz;obtain⟨A,v,u,m1,xa,xv,sb,rv,ru,mC⟩:=k.xk.sub c x b b3;rw[m1]at e4;cases e4;exact zsu g2 g1 e1 (k.hs▸vp a2) (eQ a3) e2 e3 g5 mC rv ru g6 xa xv sb) rfl
theorem Wj:Sd Κ Φ .nil where
 E:=λ_ _ _ _ _ h=>ff rfl h
 T:=λ_ _ _ _ _ h=>ff rfl h
 Q:=λ_ _ _ _ _ _ _ _ h=>ff rfl h
 A:=λΓ X r es k h=>by cases fO h;exact Lz
 O:=λΓ X r e k h=>by cases gz.mp h;exact yb
 W:=λ_ _ _ _ _ _ _ h=>ff rfl h
 G:=λ_ _ _ _ _ h=>ff rfl h
theorem Wl (ia:Sd Κ Φ a)(ib:Sd Κ Φ b):Sd Κ Φ (.cons a b) where
 E:=λ_ _ _ _ _ h=>ff rfl h
 T:=λ_ _ _ _ _ h=>ff rfl h
 Q:=λ_ _ _ _ _ _ _ _ h=>ff rfl h
 A:=λΓ X r es k h=>by
  cases es with
  |nil=>cases h
  |cons e es=>obtain⟨h1,h2,h3⟩:=aY h;exact LA (eQ h1) (ia.E Γ X r _ k h2) (ib.A Γ X r _ k h3)
 O:=λ_ _ _ _ _ h=>ff rfl h
 W:=λ_ _ _ _ _ _ _ h=>ff rfl h
 G:=λ_ _ _ _ _ h=>ff rfl h
theorem Wm (ia:Sd Κ Φ a):Sd Κ Φ (.fM a) where
 E:=λ_ _ _ _ _ h=>ff rfl h
 T:=λ_ _ _ _ _ h=>ff rfl h
 Q:=λ_ _ _ _ _ _ _ _ h=>ff rfl h
 A:=λ_ _ _ _ _ h=>ff rfl h
 O:=λ_ _ _ _ _ h=>ff rfl h
 W:=λΓ X r e tg k _ h=>by
  obtain⟨⟨x,es⟩,hv,h9⟩:=aK h;obtain⟨_,_,rfl⟩:=mW hv;obtain⟨h1,h2,h3,h4⟩:=bK h9;obtain⟨h4,h5⟩:=aE h4;cases vp h1;obtain⟨g1,g2,g3,g4⟩:=k.blt h2;rcases es with _|⟨x,_|⟨y,es⟩⟩
  ·cases h4
  ·exact TV g2 g1 (eQ ((b8.mp (wJ h3)) x (.head _))) (ia.A Γ X r _ k h3) (AW Κ Φ h3)
  ·exact absurd (vm h5) (Nat.not_le.mpr (Nat.succ_lt_succ (Nat.succ_pos _)))
 G:=λ_ _ _ _ _ h=>ff rfl h
theorem He (h:isTup e=true):∃a b c,e=.Tuple a b c:=by cases e<;>first|exact ff rfl h|exact⟨_,_,_,rfl⟩
theorem M0 (h:lP Γ (.enum a) e=true):∃y q p,e=.Call (.Name "enumerate" q) [y] [] p/\dS Γ "enumerate"=true/\isStar y=false/\chkE Γ a y=true:=by obtain⟨⟨x,es⟩,hv,h9⟩:=aK h;obtain⟨q,p,rfl⟩:=mW hv;obtain⟨h1,h2,h3⟩:=aY h9;obtain⟨y,hy,h3⟩:=aK h3;cases fZ hy;cases vp h1;exact⟨y,q,p,rfl,h2,eQ (aE h3).1,(aE h3).2⟩
theorem Wn (ia:Sd Κ Φ a):Sd Κ Φ (.enum a) where
 E:=λ_ _ _ _ _ h=>ff rfl h
 T:=λ_ _ _ _ _ h=>ff rfl h
 Q:=λ_ _ _ _ _ _ _ _ h=>ff rfl h
 A:=λ_ _ _ _ _ h=>ff rfl h
 O:=λ_ _ _ _ _ h=>ff rfl h
 W:=λΓ X r e tg k ht h=>by obtain⟨y,q,p,rfl,h2,h3,h4⟩:=M0 h;obtain⟨_,_,_,rfl⟩:=He ht;obtain⟨g1,g2,g3,g4⟩:=k.blt h2;exact CW g2 g1 h3 (ia.E Γ X r _ k h4)
 G:=λ_ _ _ _ _ h=>ff rfl h
theorem Wo (hx:rM c=0)(hn:∀Γ e,chkE Γ c e=false):Sd Κ Φ c:=Sd.x (λΓ X r e k h=>ff (hn Γ e) h) hx
theorem all (c:C):Sd Κ Φ c:=by
 induction c with
 |var=>exact VT
 |bA=>exact VU
 |bl=>exact G7
 |int=>exact VW
 |str=>exact VX
 |bin _ _ _ ia ib=>exact VY ia ib
 |cmp _ _ _ ia ib=>exact VZ ia ib
 |jA _ _ ia=>exact V0 ia
 |and _ _ ia ib=>exact V1 ia ib
 |or _ _ ia ib=>exact G8 ia ib
 |not _ ia=>exact V2 ia
 |oE _ _ _ ic ia ib=>exact V4 ic ia ib
 |tup _ ia=>exact V5 ia
 |lst _ ia=>exact V6 ia
 |fI=>exact V8
 |ix _ _ ia ib=>exact G' ia ib
 |sl _ _ _ ia ib ic=>exact Ha ia ib ic
 |call _ _ _ ia=>exact V9 ia
 |bi _ _ ia=>exact Hc ia
 |eD _ _ ia=>exact V' ia
 |pI _ _ ia=>exact Wa ia
 |mt _ _ _ ia ib=>exact Hd ia ib
 |comp _ _ _ _ _ _ _ ia ib ic=>exact Wd ia ib ic
 |sortI=>exact Wh
 |fM _ ia=>exact Wm ia
 |rep _ _ ia ib=>exact V7 ia ib
 |enum _ ia=>exact Wn ia
 |tv _ ia=>exact G9 ia
 |vQ=>exact Wi
 |nil=>exact Wj
 |cons _ _ ia ib=>exact Wl ia ib
 |_=>exact Wo rfl λ_ _=>rfl
end
section
variable (Κ:List D)(Φ:List Fn)
theorem yp:ke (.ListComp el gs s p) (some (.Name t px)) n env=pure (env.blockKind==.function&&env.kindOf t==some .local&&px.line==p.line&& !(s.names.any λ(n,k)=>n==t&&(k==.local||k==.cell))):=rfl
theorem M1 (hn:lQ c=false)(h:chkE Γ c (.ListComp el gs s p)=true):∃nt js N' tg it cond elt,c=.comp nt js N' tg it cond elt:=by cases c<;>first|exact ff rfl h|exact⟨_,_,_,_,_,_,_,rfl⟩|(cases hn;done)
theorem M3 (h:chkE Γ c (.SetComp el gs s p)=true):False:=by cases c<;>exact ff rfl h
theorem M4 (h:chkE Γ c (.DictComp el el2 gs s p)=true):False:=by cases c<;>exact ff rfl h
theorem Hf (k:Cok Γ Κ Φ X r)(h1:jV Γ i x=true)(hn:lQ c=false)(h2:chkE Γ c v=true):PS X (.Assign [.Name x px] v pos) (tDS X.K λρ=>aG Κ Φ c ρ>>=λx=>.ok (.nx (ρ.set i (some (z1q x))))):=by
 obtain⟨l1,l2,l3⟩:=k.loc h1;have nd:X.N.Nodup:=k.hN▸k.nd;cases hc:z1n v with
 |false=>exact zrj nd l1 l2 l3 (x6 hc _ _ _) ((all c).E Γ X r _ k h2)
 |true=>
  cases v<;>first|(cases hc;done)|skip
  ·rename_i el gs s p;cases hb:(X.env.blockKind==.function&&X.env.kindOf x==some .local&&px.line==p.line&& !(s.names.any λ(n,k)=>n==x&&(k==.local||k==.cell)))with
   |false=>exact zrj nd l1 l2 l3 (by rw[yp,hb]) ((all c).E Γ X r _ k h2)
   |true=>
    obtain⟨nt,js,N',tg,it,cond,elt,rfl⟩:=M1 hn h2;obtain⟨Wq,t,i',ifs,scope,pos',e,hB,h0,hi,hg,ht,he,hs,eA⟩:=sC (all it) (all cond) (all elt) k h2;cases e;have hl:X.env.scope.names.lookup x=some .local:=by simp at hb;exact hb.1.1.2
    exact PS.imp (z5t (k.calm eA) nd l1 hl l3.2 hB hi hg ht he (by rw[yp,hb]) hs) λD Y H q=>LO (λY H Q z=>(zf0 (pos:=p) (k.calm eA) hB h0 hi hg ht he hs).2 Y H Q z) D Y H q
  ·exact(M3 h2).elim
  ·exact(M4 h2).elim
theorem Wr (k:Cok Γ Κ Φ X r)(hh:z0 Γ c tg ie=true):PI X tg ie (tDF X.K (evF Κ Φ c))/\tG ie=true:=by
 obtain⟨ht,h⟩:=aE hh;have hw:=(all c).W Γ X r ie tg k ht h;cases c with
 |tv a=>
  have hal:=PI.LS (k:=λρ=>lN Κ Φ (.tv a) ρ) (Gr ((all a).E Γ X r _ k (aE h).2)) (LR hw);refine⟨?_,(aE h).1⟩;cases a with
  |var i=>obtain⟨x,p,rfl,h2⟩:=iD (aE h).2;obtain⟨v1,v2,v3,v4⟩:=k.aM h2;exact PI.LS (Up v1 v2 v3 v4) hal
  |_=>exact hal
 |enum a=>obtain⟨y,q,p,rfl,h2,h3,h4⟩:=M0 h;obtain⟨_,_,_,rfl⟩:=He ht;obtain⟨g1,g2,g3,g4⟩:=k.blt h2;exact⟨Vd g2 g1 h3 ((all a).E Γ X r _ k h4),rfl⟩
 |fM a=>refine⟨LR hw,?_⟩;obtain⟨v,hv,_⟩:=aK h;obtain⟨_,_,rfl⟩:=mW hv;rfl
 |_=>exact ff rfl h
theorem Ws (h:isTup v=false):qo [.Tuple a b c] v env=pure none:=by cases v<;>first|rfl|(cases h;done)
theorem oU (h:x9 s=some v):∃p,s=.Assign v.1 v.2 p:=cA (q:=λv=>∃p,s=.Assign v.1 v.2 p) h (by cases s<;>first|exact .inl rfl|exact .inr ⟨_,rfl,_,rfl⟩)
theorem oV (h:x' s=some v):∃p,s=.Expr v p:=cA (q:=λv=>∃p,s=.Expr v p) h (by cases s<;>first|exact .inl rfl|exact .inr ⟨_,rfl,_,rfl⟩)
theorem AX (h:FJ s=some v):∃p,s=.Return v p:=cA (q:=λv=>∃p,s=.Return v p) h (by cases s<;>first|exact .inl rfl|exact .inr ⟨_,rfl,_,rfl⟩)
theorem AY (h:FK s=some v):∃p,s=.If v.1 v.2.1 v.2.2 p:=cA (q:=λv=>∃p,s=.If v.1 v.2.1 v.2.2 p) h (by cases s<;>first|exact .inl rfl|exact .inr ⟨_,rfl,_,rfl⟩)
theorem rN (h:z4 s=some v):∃p,s=.For v.1 v.2.1 v.2.2.1 v.2.2.2 p:=cA (q:=λv=>∃p,s=.For v.1 v.2.1 v.2.2.1 v.2.2.2 p) h (by cases s<;>first|exact .inl rfl|exact .inr ⟨_,rfl,_,rfl⟩)
structure Ss (s:S):Prop where
 R:∀(Γ:Gm) (X:Cx) (r:Nat) (st:Stmt),Cok Γ Κ Φ X r->g8 (model X.prog X.w) X.A X.env X.xe->qU Γ s st=true->PS X st (tDS X.K (aT Κ Φ s))
 L:∀(Γ:Gm) (X:Cx) (r:Nat) (st:List Stmt),Cok Γ Κ Φ X r->g8 (model X.prog X.w) X.A X.env X.xe->chkL Γ s st=true->PSs X st (tDS X.K (aT Κ Φ s))
def Hg:S->Bool
 |.nil=>false
 |.seq _ _=>false
 |_=>true
variable {Κ:List D}{Φ:List Fn}
theorem Ss.x (h:∀Γ X r st,Cok Γ Κ Φ X r->g8 (model X.prog X.w) X.A X.env X.xe->qU Γ s st=true->PS X st (tDS X.K (aT Κ Φ s)))(hx:Hg s=true):Ss Κ Φ s:=⟨h,by cases s<;>first|(cases hx;done)|exact λ_ _ _ _ _ _ h=>ff rfl h⟩
theorem Wt:Ss Κ Φ (.asg t e):=Ss.x (λΓ X r st k hp h=>by
 obtain⟨⟨ts,v⟩,hv,h9⟩:=aK h;obtain⟨p,rfl⟩:=oU hv;obtain⟨x,hx,h8⟩:=aK h9;cases fZ hx;obtain⟨h1,h2,h3,h4⟩:=bK h8;cases t with
 |nm i=>obtain⟨y,q,rfl,h5⟩:=iD h1;exact Hf Κ Φ k h5 (eQ h2) h4
 |tp is=>obtain⟨k1,k2⟩:=aE h3;obtain⟨es,Wu,_⟩:=aK (aE h1).2;obtain⟨_,_,rfl⟩:=C5 Wu;exact znp (yn k h1) ((all e).E Γ X r _ k h4) ((show qm [_] _ _ _=ke _ _ _ _ from rfl).trans (x6 (eQ k1) _ _ _)) (Ws (eQ k2)) rfl) rfl
theorem Wv {i:Nat}{a b:C}:Ss Κ Φ (.eK i a b):=Ss.x (λΓ X r st k hp h=>by obtain⟨⟨ts,v⟩,hv,h9⟩:=aK h;obtain⟨p,rfl⟩:=oU hv;obtain⟨x,hx,h8⟩:=aK h9;cases fZ hx;obtain⟨⟨y,ie⟩,hy,h7⟩:=aK h8;obtain⟨_,rfl⟩:=AR hy;obtain⟨h1,h2,h3,h4,h5⟩:=fY h7;obtain⟨z,q,hz,h6⟩:=iD h1;cases hz;obtain⟨v1,v2,v3,v4⟩:=k.aM h6;exact zuv k.hu v1 v2 v3 v4 (eQ h3) ((all a).E Γ X r _ k h4) ((all b).E Γ X r _ k h5)) rfl
theorem zt4:Ss Κ Φ (.mut m i args):=Ss.x (λΓ X r st k hp h=>by obtain⟨c,hv,h9⟩:=aK h;obtain⟨p,rfl⟩:=oV hv;obtain⟨⟨x,n,es,b⟩,hm,h8⟩:=aK h9;obtain⟨ap,cp,rfl,hb⟩:=jZ hm;obtain⟨h0,h6,h7⟩:=aY h8;obtain⟨h1,h2,h3,h4,h5⟩:=fY h0;obtain⟨z,q,rfl,k1⟩:=iD h1;obtain⟨y,es,rfl⟩:=AO h6;cases vp h2;have hm:=c8.mp h3;simp at hm;obtain⟨v1,v2,v3,v4⟩:=k.aM k1;subst hm;exact zgj v1 v2 v3 v4 ((all args).A Γ X r _ k h7) (wJ h7) (vm h5) (hb.symm.trans h4)) rfl
theorem Ww:Ss Κ Φ (.drop e):=Ss.x (λΓ X r st k hp h=>by obtain⟨v,hv,h9⟩:=aK h;obtain⟨p,rfl⟩:=oV hv;obtain⟨h1,h2⟩:=aE h9;exact Ue (eQ h1) ((all e).E Γ X r _ k h2)) rfl
theorem Wx:Ss Κ Φ (.ret e):=Ss.x (λΓ X r st k hp h=>by
 obtain⟨o,hv,h9⟩:=aK h;obtain⟨p,rfl⟩:=AX hv;obtain⟨v,rfl,h8⟩:=aK h9;have g:=(all e).E Γ X r _ k h8;cases e with
 |var i=>obtain⟨x,q,rfl,h7⟩:=iD h8;obtain⟨v1,v2,v3,v4⟩:=k.aM h7;exact z90 v1 v2 v3 v4
 |_=>exact Ud g) rfl
theorem Hi (ia:Ss Κ Φ a)(ib:Ss Κ Φ b):Ss Κ Φ (.ifS c a b):=Ss.x (λΓ X r st k hp h=>by obtain⟨v,hv,h9⟩:=aK h;obtain⟨p,rfl⟩:=AY hv;obtain⟨h1,h2,h3⟩:=aY h9;exact Gf ((all c).T Γ X r _ k h1).1 (ia.L Γ X r _ k hp h2) (ib.L Γ X r _ k hp h3)) rfl
theorem Wy (ib:Ss Κ Φ b):Ss Κ Φ (.bD t it b):=Ss.x (λΓ X r st k hp h=>by obtain⟨eA,h⟩:=aE h;obtain⟨⟨t,i,B,o⟩,hv,h9⟩:=aK h;obtain⟨p,rfl⟩:=rN hv;obtain⟨h1,h2,h3,h4⟩:=bK h9;cases fO h4;obtain⟨hf,hn⟩:=Wr Κ Φ k h2;exact zvd hp (k.calm eA) hf (yn k h1) (ib.L Γ X r _ k hp h3) (wI hn _)) rfl
theorem Hj (h:zZ (jC f) e=true):∃x p ap cp,e=.Call (.Attribute (.Name x p) "pop" ap) [] [] cp/\f x=true/\(ap.endLine==cp.line)=true:=by obtain⟨⟨o,n,es,b⟩,hm,h8⟩:=aK h;obtain⟨ap,cp,rfl,hb⟩:=jZ hm;obtain⟨h1,h2,h3,h4⟩:=bK h8;obtain⟨x,p,hx,h1⟩:=iD h1;cases hx;cases vp h2;cases fO h3;exact⟨x,p,ap,cp,rfl,h1,hb.symm.trans h4⟩
theorem WA:Ss Κ Φ (.pop j i):=Ss.x (λΓ X r st k hp h=>by obtain⟨⟨ts,v⟩,hv,h9⟩:=aK h;obtain⟨p,rfl⟩:=oU hv;obtain⟨x,hx,h8⟩:=aK h9;cases fZ hx;obtain⟨h1,h2⟩:=aE h8;obtain⟨y,q,rfl,h5⟩:=iD h1;obtain⟨l1,l2,l3⟩:=k.loc h5;obtain⟨z,pz,ap,cp,rfl,h6,h7⟩:=Hj h2;obtain⟨v1,v2,v3,v4⟩:=k.aM h6;exact s_pop (by rw[k.hN];exact k.nd) l1 l2 l3 v1 v2 v3 v4 h7) rfl
theorem Cok.eS (k:Cok Γ Κ Φ X r)(E:Value->af->Prop):Cok Γ Κ Φ (X.eS E) r:=⟨k.hN,k.hs,k.nd,k.fn,k.kind,k.free,k.fns,k.cst,k.pP,k.room,k.calm,k.hu,k.oS,k.ym,λn c z=>by obtain⟨a,oe,C,h1,h2,h3,h4⟩:=k.xc n c z;exact⟨a,oe,C,h1,λp Y H s I=>h2 p Y H s I.cH,h3,h4⟩,k.xk⟩
theorem Cok.jY {C:Addr}(k:Cok Γ Κ Φ X r)(nd:(Γ.N.set i "").Nodup)(hc:oe.cls=.ref C)(hm:X.mg c=some (.ref C)):Cok {Γ with N:=Γ.N.set i "",cm:=false,xc:=some (n,c),fns:=[]} Κ Φ (Mi.jY X i n a oe) r where
 hN:=by show X.N.set i ""=Γ.N.set i "";rw[k.hN]
 hs:=k.hs
 nd:=nd
 fn:=k.fn
 kind:=k.kind
 free:=k.free
 fns:=λj f n e=>by simp at e
 cst:=k.cst
 pP:=λj f n e=>by simp at e
 room:=λz=>by cases z
 calm:=λz=>by cases z
 hu:=k.hu
 oS:=k.oS
 ym:=λz=>by cases z
 xc:=λn' c' z=>by cases z;exact⟨a,oe,C,rfl,λ_ _ _ _ I=>(I.pin (a,oe) (bu _ az)).1,hc,hm⟩
 xk:=⟨k.xk.sub,k.xk.rs,k.xk.iA⟩
theorem M5 (s:S):Ss Κ Φ s:=by
 induction s with
 |nil=>exact⟨λ_ _ _ _ _ _ h=>ff rfl h,λΓ X r st k hp h=>by cases fO h;exact Ua⟩
 |seq a b ia ib=>
  refine⟨λ_ _ _ _ _ _ h=>ff rfl h,λΓ X r st k hp h=>?_⟩;cases st with
  |nil=>cases h
  |cons s st=>exact Ub (ia.R Γ X r _ k hp (aE h).1) (ib.L Γ X r _ k hp (aE h).2)
 |bad=>refine Ss.x (λΓ X r st k hp h=>?_) rfl;intro pins s Y H D I q;obtain⟨ρ,F,out,so,e,_⟩:=q;cases e
 |asg=>exact Wt
 |pop=>exact WA
 |eK=>exact Wv
 | «mut»=>exact zt4
 |drop=>exact Ww
 |ret=>exact Wx
 |ifS _ _ _ ia ib=>exact Hi ia ib
 |bD _ _ _ ib=>exact Wy ib
theorem sL (Κ:List D)(Φ:List Fn)(s:S):∀Γ X r st,Cok Γ Κ Φ X r->g8 (model X.prog X.w) X.A X.env X.xe->chkL Γ s st=true->PSs X st (tDS X.K (aT Κ Φ s)):=(M5 s).L
end
section
variable (Κ:List D)(Φ:List Fn)
variable {Κ Φ}
end
section
variable {P:bx}{w:World}{K:W.Frag}{mg:Str->Option Value}{base:Heap}
structure Dok (Γ:Gm)(Κ:List D)(Φ:List Fn)(P:bx)(w:World)(K:W.Frag)(mg:Str->Option Value)(base:Heap)(k:Nat):Prop where
 free:∀x,Γ.free.contains x=true->mg x=none
 fns:∀(j:Nat) f n,Γ.fns[j]?=some (f,n)->∃m k' ps,Φ[j]?=some m/\k'<=k/\Cal P w K mg base k' f ps (spD K n m)
 cst:∀(j:Nat) x,Γ.cst[j]?=some x->∃d a,Κ[j]?=some d/\mg x=some (.ref a)/\∀H B,B none->Rep K H B (.ref a) d
 pP:∀(j:Nat) f n,Γ.fns[j]?=some (f,n)->∃m k' ps,Φ[j]?=some m/\k'<=k/\oQ P w K mg base k' f ps n m
 xk:wH Γ K mg
theorem WB (r:Reps K H A vs ds):StOk K ⟨H,λa=>H a=none\/A (some a),λ_=>none,A none⟩ H (vs.map some++ba (n-vs.length) none) (ds.map (λd=>some (.od,d))++ba (n-ds.length) none) where
 ext:=Same.refl H
 aM:=λa e=>.inl e
 own:=λa i e=>by cases e
 len:=by have:=r.length;simp;omega
 sl:=λi g d e=>by
  rw[lu]at e;split at e
  ·rename_i hi;rw[bj]at e;cases h1:ds[i]? with
   |none=>rw[h1]at e;cases e
   |some d'=>
    rw[h1]at e;cases e;obtain⟨v,h2,h3⟩:=Reps.get r h1;refine⟨v,?_,?_⟩
    ·rw[lu,vg (by rw[ac,r.length];rw[ac]at hi;exact hi),bj,h2];rfl
    ·refine(Rep.there _ h3).weak λa h=>?_;cases a with
     |none=>exact h.1
     |some a=>exact⟨λz=>h.2 z,.inr h.1⟩
  ·rw[dq]at e;split at e<;>cases e
theorem d_fn {st:Stmt}(Fu:Fun K x x st f fd)(Sc:FnScope Γ.N ps (z09 st))(hs:Γ.sc=z09 st)(hb:Γ.blk=false)(hxc:Γ.xc=none)(dk:Dok Γ Κ Φ P w K mg base k)(hc:chkL Γ s (z0o st)=true):
  FnOk P w K mg base nW (k+1) f fd ps (spD K ps.length (aS Κ Φ Γ.N.length s)):=by
 refine Fu.ok Sc (λvs H Q E h=>h.choose_spec.choose_spec.choose_spec.1) λcdv A outer s1 H vs Q E hr kH=>?_;obtain⟨B,ds,r,hl,rs,e,q⟩:=kH;refine⟨_,sL Κ Φ s Γ (gL nW P w K mg base Γ.N x (z09 st) f cdv A outer s1 H E).zb k _ ⟨rfl,hs.symm,Sc.nd,λ_ _=>rfl,by rw[hs];exact Sc.kind,dk.free,dk.fns,dk.cst,dk.pP,λ_=>hr,λ_=>rfl,hr.units,λ_=>⟨rfl,rfl⟩,λ_ _ _ z=>(by cases z),λ_ _ z=>(by rw[hxc]at z;cases z),dk.xk⟩ PassesOwn.never hc,?_⟩;unfold aS at e;have so:=WB (n:=Γ.N.length) rs;generalize ho:aT Κ Φ s (ds.map (λd=>some (.od,d))++ba (Γ.N.length-ds.length) none)=out at e
 match out,ho,e with
 |.ok (.nx aQ),ho,e=>cases e;refine⟨_,_,_,so,ho,λσ' H' F' pK ru fr=>q .bA H' (λa o e=>(fr a o e rfl).1) rfl⟩
 |.ok (.rt g d),ho,e=>
  cases e;refine⟨_,_,_,so,ho,λv H' hk rv=>q v H' hk (rv.weak λa h=>?_)⟩;cases g with
  |fr=>cases a<;>exact h
  |nu=>cases a<;>exact h
  |od=>cases a with
   |none=>exact .inr h
   |some a=>exact h.elim .inl λz=>.inr z
  |al=>cases a with
   |none=>exact .inr h
   |some a=>exact h.elim .inl λz=>.inr z
 |.exc _,ho,e=>cases e
 |.no,ho,e=>cases e
theorem zst {st:Stmt}(Fu:Fun K x x st f fd)(Sc:FnScope Γ.N ps (z09 st))(hs:Γ.sc=z09 st)(hb:Γ.blk=false)(hxc:Γ.xc=none)(dk:Dok Γ Κ Φ P w K mg base k)(hc:chkL Γ s (z0o st)=true):
  FnOk P w K mg base (CXE P w base) (k+1) f fd ps (MS K mg ps.length (aS Κ Φ Γ.N.length s)):=by
 obtain⟨oc,od,kV,doc,pm,an,cdv,ct,osl,rfl,lk,hcd⟩:=Fu.ex;refine zkj lk hcd Sc (λvs H Q E h=>h.choose_spec.choose_spec.choose_spec.1) λA outer s1 H vs Q E hr kH=>?_;obtain⟨B,ds,c,hl,rs,e,q⟩:=kH;unfold aS at e;split at e<;>cases e
theorem WC {ns:List Int}(h:SqL K H a (ns.map V.int)):Reps K H (λ_=>True) [.ref a] [.list (ns.map .int)]:=by
 refine⟨_,_,rfl,⟨a,ns.map V.int,rfl,?_,?_⟩,rfl⟩
 ·rcases h with(h|h)|h
  ·exact .inl ⟨h,trivial⟩
  ·exact .inr ⟨.inl h,trivial⟩
  ·exact .inr ⟨.inr h,trivial⟩
 ·clear h
  induction ns with
  |nil=>rfl
  |cons n ns ih=>exact⟨_,_,rfl,rfl,ih⟩
end
structure Gd where
 kf:Nat
 args:C
 c:Str
 i:Nat
 j:Nat
 g:Str
 r:Bool
structure XR where
 c:Str
 cs:List (Str×Bool)
 B:Str
def XR.subs (r:XR):List (Str×Str×Bool):=(r.c,"ValueError",true)::r.cs.map λy=>(r.c,y.1,y.2)
def C6 (K:W.Frag)(A:Addr):List (Str×Bool)->Prop
 | []=>True
 |y::l=>(∃D dd cd sl,W.nsIn K bz y.1=some (some (.ref D))/\K.lookup D=some ⟨.type "type",dd,.cls cd,sl⟩/\W.subIn K (.ref A) (.ref D)=some y.2)/\C6 K A l
structure Kx (K:W.Frag)(r:XR)(A D:Addr):Prop where
 a:W.nsIn K bz r.c=some (some (.ref A))
 l:∃dd cd sl,K.lookup A=some ⟨.type "type",dd,.cls cd,sl⟩
 e:W.excIn K A [.type "ValueError",.type "Exception",.type "BaseException",.type "object"] "ValueError.__new__"=true
 cl:W.findIn K (.ref A) "__class__"=some (some (.builtin "object.__class__"))
 ga:W.findIn K (.ref A) "__getattribute__"=some (some (.builtin "BaseException.__getattribute__"))
 gt:W.findIn K (.ref A) "__getattr__"=some none
 ob:W.subIn K (.ref A) (.type "object")=some true
 be:W.subIn K (.ref A) (.type "BaseException")=some true
 v:W.subIn K (.ref A) (.type "ValueError")=some true
 b:W.nsIn K bz r.B=some (some (.ref D))
 f:W.excIn K D [.type "ValueError",.type "Exception",.type "BaseException",.type "object"] "ValueError.__new__"=true
 s:W.subIn K (.ref A) (.ref D)=some true
 cs:C6 K A r.cs
def kxs (K:W.Frag):List XR->Prop
 | []=>True
 |r::l=>(∃A D,Kx K r A D)/\kxs K l
theorem C7 {K:W.Frag}:∀{l:List XR} {r:XR},kxs K l->r∈l->∃A D,Kx K r A D
 | [],_,_,z=>nomatch z
 |_::_,_,h,.head _=>h.1
 |_::_,_,h,.tail _ z=>C7 h.2 z
theorem M6 {K:W.Frag}:∀{l:List (Str×Bool)} {y:Str×Bool},C6 K A l->y∈l->∃D dd cd sl,W.nsIn K bz y.1=some (some (.ref D))/\K.lookup D=some ⟨.type "type",dd,.cls cd,sl⟩/\W.subIn K (.ref A) (.ref D)=some y.2
 | [],_,_,z=>nomatch z
 |_::_,_,h,.head _=>h.1
 |_::_,_,h,.tail _ z=>M6 h.2 z
theorem C8 {K:W.Frag}{D:Addr}(l:K.lookup D=some ⟨.type "type",dd,.cls cd,sl⟩):W.typeIn K (.ref D)=some (.type "type")/\(W.clsIn K D).isSome=true:=by
 constructor
 ·show(K.lookup D).map (·.cls)=_;rw[l];rfl
 ·unfold W.clsIn;rw[l];rfl
theorem WD {K:W.Frag}(X:K.In h)(G:h.Ns bz mg)(hk:kxs K xt)(hz:xt≠[]->mg "ValueError"=none)(h1:Γ.sub=(xt.map XR.subs).flatten)(h2:Γ.rs=xt.map (·.c))(h3:Γ.iA=xt.map λr=>(r.c,r.B)):wH Γ K mg:=by
 refine⟨λc C b z=>?_,λc z=>?_,λc B z=>?_⟩
 ·rw[h1]at z;obtain⟨l,hl,z⟩:=List.mem_flatten.mp (c8.mp z);obtain⟨r,hr,rfl⟩:=bf.mp hl;obtain⟨A,D,k⟩:=C7 hk hr;obtain⟨dd,cd,sl,kl⟩:=k.l;have xa:XA K A:=⟨k.cl,k.ga,k.gt,k.ob,k.be,(C8 kl).1,(C8 kl).2,(CZ k.e).1⟩;rcases ak.mp z with e|z
  ·cases e;exact⟨A,.ty "ValueError",.type "ValueError",W.mg_of X G k.a,xa,XV.val,k.v,rfl,λw q=>q,.inr ⟨hz (λq=>by rw[q]at hr;cases hr),by decide+kernel,by decide⟩⟩
  ·obtain⟨y,hy,e⟩:=bf.mp z;cases e;obtain⟨D',hW,GZ,y7,e1,e2,e3⟩:=M6 k.cs hy;exact⟨A,.ref D',.ref D',W.mg_of X G k.a,xa,XV.own (C8 e2).1 (C8 e2).2,e3,rfl,λw q=>q,.inl (W.mg_of X G e1)⟩
 ·rw[h2]at z;obtain⟨r,hr,rfl⟩:=bf.mp (c8.mp z);obtain⟨A,D,k⟩:=C7 hk hr;exact⟨A,W.mg_of X G k.a,k.e⟩
 ·rw[h3]at z;obtain⟨r,hr,e⟩:=bf.mp (c8.mp z);cases e;obtain⟨A,D,k⟩:=C7 hk hr;exact⟨A,D,W.mg_of X G k.a,W.mg_of X G k.b,(CZ k.e).1,(CZ k.f).1,k.s⟩
inductive Kd where
 |n
 |e (c:Str) (r:Bool)
 |g (d:Gd) (je:Nat)
structure DRow where
 nm:Str
 st:Stmt
 N:List Str
 ps:List Str
 free:List Str
 fns:List Nat
 s:S
 F:Fn
 kd:Kd
 kc:List (Str×List Str):=[]
def cD (y:Str×List Str):D:=.tuple (y.2.map .str)
def sig (Rs:List DRow)(j:Nat):Str×Nat:=match Rs[j]? with
 |some c=>(c.nm,c.ps.length)
 |none=>("",0)
def fnAt (Rs:List DRow)(j:Nat):Fn:=match Rs[j]? with
 |some c=>c.F
 |none=>λ_=>.no
def DRow.G (Rs:List DRow)(xt:List XR)(r:DRow):Gm:={N:=r.N,sc:=z09 r.st,free:=r.free,fns:=r.fns.map (sig Rs),cst:=r.kc.map (·.1),sub:=(xt.map XR.subs).flatten,rs:=xt.map (·.c),iA:=xt.map λr=>(r.c,r.B)}
def Kd.vQ:Kd->Bool
 |.e _ _=>true
 |_=>false
def nE (Rs:List DRow)(j:Nat):Bool:=match Rs[j]? with
 |some c=>!c.kd.vQ
 |none=>true
def DRow.part (Rs:List DRow)(xt:List XR)(i:Nat)(r:DRow):Bool:=match r.kd with
 |.n=>chkL (r.G Rs xt) r.s (z0o r.st)
 |.e _ _=>false
 |.g _ _=>false
def DRow.ok (Rs:List DRow)(xt:List XR)(fr:List Str)(i:Nat)(r:DRow):Bool:=
 (decide ((z09 r.st).kind=.function)&& !(z09 r.st).isCoroutine&& !(z09 r.st).isGenerator&&decide r.N.Nodup&&decide (r.N.take r.ps.length=r.ps))&&
 (r.ps.all (λx=>(z09 r.st).names.lookup x==some .local||(z09 r.st).names.lookup x==some .cell)&&(z09 r.st).names.all (λy=>!(y.2==.free))&&r.free.all (λx=>fr.contains x)&&r.fns.all (λj=>decide (j<i)&&nE Rs j)&&r.part Rs xt i)
def AZ (Rs:List DRow)(xt:List XR)(fr:List Str):Nat->List DRow->Bool
 |_,[]=>true
 |i,r::l=>r.ok Rs xt fr i&&AZ Rs xt fr (i+1) l
def DRow.Hk (Rs:List DRow)(r:DRow):Prop:=match r.kd with
 |.n=>r.F=aS (r.kc.map cD) (r.fns.map (fnAt Rs)) r.N.length r.s
 |.e _ _=>True
 |.g _ _=>True
def rO (Rs:List DRow):List DRow->Prop
 | []=>True
 |r::l=>r.Hk Rs/\rO Rs l
theorem Hl:∀{l:List DRow} {k i:Nat} {r:DRow},AZ Rs xt fr k l=true->l[i]?=some r->r.ok Rs xt fr (k+i)=true
 | [],_,i,_,_,e=>by simp at e
 |r::l,k,0,_,h,e=>by cases e;exact(aE h).1
 |r::l,k,i+1,_,h,e=>by
  have:=Hl (aE h).2 e
  rwa [show k+(i+1)=k+1+i by omega]
theorem M7:∀{l:List DRow} {i:Nat} {r:DRow},rO Rs l->l[i]?=some r->r.Hk Rs
 | [],i,_,_,e=>by simp at e
 |r::l,0,_,h,e=>by cases e;exact h.1
 |r::l,i+1,_,h,e=>M7 h.2 e
section
variable {P:bx}{w:World}{K:W.Frag}{mg:Str->Option Value}{base:Heap}{Rs:List DRow}{xt:List XR}{fr:List Str}
theorem A0 {r:DRow}(h:r.ok Rs xt fr i=true):FnScope (r.G Rs xt).N r.ps (z09 r.st)/\(∀x,r.free.contains x=true->fr.contains x=true)/\(∀j∈r.fns,j<i/\nE Rs j=true)/\r.part Rs xt i=true:=by
 obtain⟨h1,h2⟩:=aE h;obtain⟨a1,a2,a3,a4,a5⟩:=fY h1;obtain⟨b1,b2,b3,b4,b5⟩:=fY h2;refine⟨⟨vm a1,eQ a2,eQ a3,vm a4,vm a5,λx hx=>?_,λy hy z=>?_⟩,λx hx=>?_,λj hj=>⟨vm (aE (b8.mp b4 j hj)).1,(aE (b8.mp b4 j hj)).2⟩,b5⟩
 ·rcases fj.mp (b8.mp b1 x hx)with q|q
  ·exact .inl (vp q)
  ·exact .inr (vp q)
 ·have :=eQ (b8.mp b2 y hy);rw[z]at this;cases this
 ·exact b8.mp b3 x (c8.mp hx)
def tN (P:bx)(w:World)(K:W.Frag)(mg:Str->Option Value)(base:Heap)(i:Nat)(r:DRow):Prop:=match r.kd with
 |.e _ _=>True
 |_=>Cal P w K mg base (i+1) r.nm r.ps (spD K r.ps.length r.F)/\oQ P w K mg base (i+1) r.nm r.ps r.ps.length r.F
theorem A5 (h:tN P w K mg base j c)(e:Rs[j]?=some c)(n:nE Rs j=true):Cal P w K mg base (j+1) c.nm c.ps (spD K c.ps.length c.F)/\oQ P w K mg base (j+1) c.nm c.ps c.ps.length c.F:=by
 unfold nE at n;rw[e]at n;have n:(!c.kd.vQ)=true:=n;unfold tN at h;cases hk:c.kd with
 |n=>rw[hk]at h;exact h
 |g d je=>rw[hk]at h;exact h
 |e x b=>rw[hk]at n;cases n
def Hm (K:W.Frag)(mg:Str->Option Value)(y:Str×List Str):Prop:=∃a,mg y.1=some (.ref a)/\∀H B,B none->Rep K H B (.ref a) (cD y)
theorem WE (hr:Rs[i]?=some r)(h:r.ok Rs xt fr i=true)(T:∀x∈fr,mg x=none)(xk:∀Γ,Γ.sub=(xt.map XR.subs).flatten->Γ.rs=xt.map (·.c)->(Γ.iA=xt.map λr=>(r.c,r.B))->wH Γ K mg)(hC:∀y∈r.kc,Hm K mg y)(ih:∀j c,j<i->Rs[j]?=some c->tN P w K mg base j c):Dok (r.G Rs xt) (r.kc.map cD) (r.fns.map (fnAt Rs)) P w K mg base i where
 free:=λx hx=>T x (c8.mp ((A0 h).2.1 x hx))
 fns:=λj f n e=>by
  have e:(r.fns.map (sig Rs))[j]?=some (f,n):=e;rw[bj]at e;obtain⟨jj,ej,e⟩:=b9.mp e;obtain⟨cE,gB⟩:=(A0 h).2.2.1 jj (cj ej);have hl:=(aq.mp hr).1;have hc:=aw (mn cE hl);unfold sig at e;rw[hc]at e;cases e;refine⟨fnAt Rs jj,jj+1,Rs[jj].ps,by rw[bj,ej];rfl,cE,?_⟩;have:fnAt Rs jj=Rs[jj].F:=by unfold fnAt;rw[hc]
  rw[this];exact(A5 (ih jj _ cE hc) hc gB).1
 cst:=λj x e=>by have e:(r.kc.map (·.1))[j]?=some x:=e;rw[bj]at e;obtain⟨y,ey,rfl⟩:=b9.mp e;obtain⟨a,h1,h2⟩:=hC y (cj ey);exact⟨cD y,a,by rw[bj,ey];rfl,h1,h2⟩
 pP:=λj f n e=>by
  have e:(r.fns.map (sig Rs))[j]?=some (f,n):=e;rw[bj]at e;obtain⟨jj,ej,e⟩:=b9.mp e;obtain⟨cE,gB⟩:=(A0 h).2.2.1 jj (cj ej);have hl:=(aq.mp hr).1;have hc:=aw (mn cE hl);unfold sig at e;rw[hc]at e;cases e;refine⟨fnAt Rs jj,jj+1,Rs[jj].ps,by rw[bj,ej];rfl,cE,?_⟩;have:fnAt Rs jj=Rs[jj].F:=by unfold fnAt;rw[hc]
  rw[this];exact(A5 (ih jj _ cE hc) hc gB).2
 xk:=xk _ rfl rfl rfl
theorem WG (hok:AZ Rs xt fr 0 Rs=true)(hF:rO Rs Rs)(T:∀x∈fr,mg x=none)(xk:∀Γ,Γ.sub=(xt.map XR.subs).flatten->Γ.rs=xt.map (·.c)->(Γ.iA=xt.map λr=>(r.c,r.B))->wH Γ K mg)(n:Nat)(hC:∀r∈Rs,∀y∈r.kc,Hm K mg y)(O:∀i r,i<n->Rs[i]?=some r->Own K mg r.nm r.st r.ps):∀i r,i<n->Rs[i]?=some r->tN P w K mg base i r:=by
 intro i
 induction i using Nat.strongRecOn with
 |ind i ih=>
  intro r hi hr
  have ho:r.ok Rs xt fr i=true:=by
   have:=Hl hok hr
   rwa [oz]at this
  have D:=WE hr ho T xk (hC r (cj hr)) (λj c hj hc=>ih j hj c (mn hj hi) hc);obtain⟨Sc,zI,_,hp⟩:=A0 ho;have hf:=M7 hF hr;obtain⟨f,fd,Fu,m,kp,b⟩:=O i r hi hr;unfold DRow.Hk at hf;unfold DRow.part at hp;unfold tN;cases hk:r.kd with
  |n=>rw[hk]at hf hp;rw[hf];exact⟨⟨f,fd,d_fn (Γ:=r.G Rs xt) Fu Sc rfl rfl rfl D hp,m,kp,b⟩,f,fd,zst Fu Sc rfl rfl rfl D hp,m,kp,b⟩
  |e c bb=>rw[hk]at hp;cases hp
  |g d je=>rw[hk]at hp;cases hp
end
def Kf (K:W.Frag)(r:DRow)(f:Addr)(fd:eh):Prop:=W.nsIn K bz r.nm=some (some (.ref f))/\∃(oc:Value) (od an:Option Addr) (sl:Array (Option Value)) (kV dc pm cd ct:Value),fd=W.fnOf r.nm r.nm (z1a r.st) (z0o r.st) (z09 r.st) .none kV dc pm an cd ct/\K.lookup f=some ⟨oc,od,.func fd,sl⟩/\W.codeIn K cd r.nm=true/\W.keepIn K (.ref f)=true
def Hn (r:DRow):Prop:=∀(kV doc pm:Value) (an:Option Addr) (cdv ct:Value) (us:List Value),us.length=r.ps.length->ut (W.fnOf r.nm r.nm (z1a r.st) (z0o r.st) (z09 r.st) .none kV doc pm an cdv ct) ⟨us,[]⟩=pure (r.ps.zip us)
theorem oW (h:us.length=n+1):∃a l,us=a::l/\l.length=n:=by
 cases us with
 |nil=>cases h
 |cons a l=>exact⟨a,l,rfl,Nat.succ.inj h⟩
theorem yq {P:List Value->Prop}(h:∀a,P [a])(us:List Value)(z:us.length=1):P us:=by obtain⟨a,l,rfl,y⟩:=oW z;cases List.eq_nil_of_length_eq_zero y;exact h a
theorem iE {P:List Value->Prop}(h:∀a b,P [a,b])(us:List Value)(z:us.length=2):P us:=by obtain⟨a,l,rfl,y⟩:=oW z;exact yq (P:=λl=>P (a::l)) (h a) l y
theorem tO {P:List Value->Prop}(h:∀a b c,P [a,b,c])(us:List Value)(z:us.length=3):P us:=by obtain⟨a,l,rfl,y⟩:=oW z;exact iE (P:=λl=>P (a::l)) (h a) l y
theorem by4 {P:List Value->Prop}(h:∀a b c d,P [a,b,c,d])(us:List Value)(z:us.length=4):P us:=by obtain⟨a,l,rfl,y⟩:=oW z;exact tO (P:=λl=>P (a::l)) (h a) l y
theorem WH {P:List Value->Prop}(h:∀a b c d e,P [a,b,c,d,e])(us:List Value)(z:us.length=5):P us:=by obtain⟨a,l,rfl,y⟩:=oW z;exact by4 (P:=λl=>P (a::l)) (h a) l y
def kOks (K:W.Frag):List DRow->Prop
 | []=>True
 |r::l=>((∃f fd,Kf K r f fd)/\Hn r)/\kOks K l
theorem M8 {K:W.Frag}:∀{l:List DRow} {i:Nat} {r:DRow},kOks K l->l[i]?=some r->(∃f fd,Kf K r f fd)/\Hn r
 | [],i,_,_,e=>by simp at e
 |r::l,0,_,h,e=>by cases e;exact h.1
 |r::l,i+1,_,h,e=>M8 h.2 e
def strOf:Value->Option Str
 |.str x _=>if PyData.strOk x then some x else none
 |_=>none
def M9 (K:W.Frag)(y:Str×List Str):Bool:=match W.nsIn K bz y.1 with
 |some (some (.ref a))=>(match K.lookup a with
  |some ⟨.type "tuple",none,.seq its _,_⟩=>decide (its.toList.map strOf=y.2.map some)&&decide (y.2.length<=1000)
  |_=>false)
 |_=>false
def tP (K:W.Frag)(r:DRow):Option (eh×Bool):=match W.nsIn K bz r.nm with
 |some (some (.ref f))=>(match K.lookup f with
  |some ⟨_,_,.func fd,_⟩=>some (fd,W.codeIn K fd.code r.nm&&W.keepIn K (.ref f))
  |_=>none)
 |_=>none
def M' (r:DRow)(x:eh×Bool):eh×Bool:=(W.fnOf r.nm r.nm (z1a r.st) (z0o r.st) (z09 r.st) .none x.1.kwdefaults x.1.doc x.1.pyModule x.1.annotations x.1.code x.1.closureTuple,true)
def A6 (K:W.Frag)(A:Addr):Bool:=match K.lookup A with
 |some ⟨.type "type",_,.cls _,_⟩=>true
 |_=>false
def A7:List Value:=[.type "ValueError",.type "Exception",.type "BaseException",.type "object"]
def Ho (K:W.Frag)(r:XR):Option (Bool×Bool×Option (Option Value)×Option (Option Value)×Option (Option Value)×Option Bool×Option Bool×Option Bool×Bool×Option Bool×List (Bool×Option Bool)):=match W.nsIn K bz r.c,W.nsIn K bz r.B with
 |some (some (.ref A)),some (some (.ref D))=>some (A6 K A,W.excIn K A A7 "ValueError.__new__",W.findIn K (.ref A) "__class__",W.findIn K (.ref A) "__getattribute__",W.findIn K (.ref A) "__getattr__",W.subIn K (.ref A) (.type "object"),W.subIn K (.ref A) (.type "BaseException"),W.subIn K (.ref A) (.type "ValueError"),W.excIn K D A7 "ValueError.__new__",W.subIn K (.ref A) (.ref D),r.cs.map λy=>match W.nsIn K bz y.1 with
  |some (some (.ref E))=>(A6 K E,W.subIn K (.ref A) (.ref E))
  |_=>(false,none))
 |_,_=>none
def Hq (r:XR):Option (Bool×Bool×Option (Option Value)×Option (Option Value)×Option (Option Value)×Option Bool×Option Bool×Option Bool×Bool×Option Bool×List (Bool×Option Bool)):=some (true,true,some (some (.builtin "object.__class__")),some (some (.builtin "BaseException.__getattribute__")),some none,some true,some true,some true,true,some true,r.cs.map λy=>(true,some y.2))
theorem Na {K:W.Frag}(h:A6 K A=true):∃dd cd sl,K.lookup A=some ⟨.type "type",dd,.cls cd,sl⟩:=by
 unfold A6 at h;split at h
 ·rename_i dd cd sl e;simp_all
 ·cases h
theorem zeh {K:W.Frag}:∀{l:List (Str×Bool)},(l.map fun y=>match W.nsIn K bz y.1 with
  |some (some (.ref E))=>(A6 K E,W.subIn K (.ref A) (.ref E))
  |_=>(false,none))=(l.map λy=>(true,some y.2))->C6 K A l
 | [],_=>trivial
 |y::l,h=>by
  have h:=List.cons.inj h;refine⟨?_,zeh h.2⟩;have e:=h.1
  dsimp only at e
  split at e
  ·rename_i E hE;have e:=vj e;obtain⟨dd,cd,sl,q⟩:=Na e.1;exact⟨E,dd,cd,sl,hE,q,e.2⟩
  ·cases(vj e).1
theorem WI {K:W.Frag}(h:Ho K r=Hq r):∃A D,Kx K r A D:=by
 unfold Ho Hq at h;split at h
 ·rename_i A D hA hD;have h:=vj (vi h);have h2:=vj h.2;have h3:=vj h2.2;have h4:=vj h3.2;have h5:=vj h4.2;have h6:=vj h5.2;have h7:=vj h6.2;have h8:=vj h7.2;have h9:=vj h8.2;have Nb:=vj h9.2;exact⟨A,D,hA,Na h.1,h2.1,h3.1,h4.1,h5.1,h6.1,h7.1,h8.1,hD,h9.1,Nb.1,zeh Nb.2⟩
 ·cases h
theorem Nc {K:W.Frag}:∀{l:List XR},(∀r∈l,∃A D,Kx K r A D)->kxs K l
 | [],_=>trivial
 |r::_,h=>⟨h r (.head _),Nc λr hr=>h r (.tail _ hr)⟩
def KEq (K:fz->W.Frag)(Rs:List DRow)(fr:List Str)(xt:List XR):Prop:=∀P,(Rs.map λr=>(tP (K P) r).isSome,Rs.map λr=>tP (K P) r,fr.map λn=>W.nsIn (K P) bz n,xt.map λr=>Ho (K P) r,Rs.map λr=>r.kc.map λy=>M9 (K P) y)=(Rs.map λ_=>true,Rs.map λr=>(tP (K P) r).map (M' r),fr.map λ_=>some none,xt.map Hq,Rs.map λr=>r.kc.map λ_=>true)
theorem KEq_r:KEq=KEq:=rfl
theorem WJ {K:W.Frag}(h:(tP K r).isSome=true)(e:tP K r=(tP K r).map (M' r)):∃f fd,Kf K r f fd:=by
 cases z:tP K r with
 |none=>rw[z]at h;cases h
 |some x=>
  rw[z]at e;have e:=vi e;unfold tP at z;split at z
  ·rename_i f hf;split at z
   ·rename_i oc od fd sl hl;have z:=vi z;have z1:=congrArg vc z;have z2:=congrArg Prod.snd z;rw[congrArg Prod.snd e]at z2;have z3:=av.mp z2;subst z1;exact⟨f,x.1,hf,oc,od,x.1.annotations,sl,x.1.kwdefaults,x.1.doc,x.1.pyModule,x.1.code,x.1.closureTuple,congrArg vc e,hl,z3.1,z3.2⟩
   ·cases z
  ·cases z
theorem C9 {K:fz->W.Frag}(h:KEq K Rs fr xt)(P:fz):(∀r∈Rs,∃f fd,Kf (K P) r f fd)/\(∀n∈fr,W.nsIn (K P) bz n=some none)/\kxs (K P) xt/\∀r∈Rs,∀y∈r.kc,M9 (K P) y=true:=by have a:=vj (h P);have b:=vj a.2;have c:=vj b.2;have d:=vj c.2;exact⟨λr hr=>WJ (eg.mp a.1 r hr) (eg.mp b.1 r hr),λn hn=>eg.mp c.1 n hn,Nc λr hr=>WI (eg.mp d.1 r hr),λr hr=>eg.mp (eg.mp d.2 r hr)⟩
def wK:List DRow->Prop
 | []=>True
 |r::l=>Hn r/\wK l
theorem Nd {K:W.Frag}:∀{l:List DRow},(∀r∈l,∃f fd,Kf K r f fd)->wK l->kOks K l
 | [],_,_=>trivial
 |r::_,h,b=>⟨⟨h r (.head _),b.1⟩,Nd (λr hr=>h r (.tail _ hr)) b.2⟩
end Mi
name_quick tkeq for Mi.KEq by Mi.KEq_r
namespace Mk
open Mi
section
open PySem
abbrev P:=List (Str×Int)
def pr (p:Str×Int):D:=.tuple [.str p.1,.int p.2]
def pk (l:P):D:=.tuple (l.map pr)
def ep (p:Str×Int):D×D:=(.str p.1,.int p.2)
def en (l:P):bY:=l.map ep
def bM:P->Str->Option Int
 | [],_=>none
 |p::l,n=>if p.1=n then some p.2 else bM l n
def look (l:P)(n:Str):Int:=(bM l n).getD 0
def ks (l:P):List Str:=l.map (·.1)
def put:P->Str->Int->P
 | [],n,v=>[(n,v)]
 |p::l,n,v=>if p.1=n then(p.1,v)::l else p::put l n v
def sl (a b:Str):Prop:=a.cps.toList<b.cps.toList
theorem Hs (a:Str):¬sl a a:=List.lt_irrefl _
theorem Nf (h:sl a b)(k:sl b c):sl a c:=List.lt_trans h k
theorem WK {b:Str}(h:a.cps.toList=b.cps.toList):a=b:=by cases a;cases b;simp at h;subst h;rfl
theorem Ng (h:a≠b):sl a b\/sl b a:=by
 by_cases h1:sl a b
 ·exact .inl h1
 ·by_cases h2:sl b a
  ·exact .inr h2
  ·exact(h (WK (List.le_antisymm (List.not_lt.mp h2) (List.not_lt.mp h1)))).elim
theorem WL (h:sl a b):a≠b:=λe=>Hs b (e▸h)
theorem tQ:∀{l:P},n∉ks l->bM l n=none
 | [],_=>rfl
 |p::l,h=>by simp only[ks,bh,ak,not_or]at h;rw[bM,vh (λe=>h.1 e.symm)];exact tQ h.2
theorem tR:∀{l:P},bM l n=some v->(n,v)∈l
 | [],h=>by cases h
 |p::l,h=>by
  rw[bM]at h;split at h
  ·rename_i e;cases h;subst e;simp_all
  ·exact bn _ (tR h)
theorem WM (h:bM l n=some v):n∈ks l:=bf.mpr ⟨_,tR h,rfl⟩
theorem A8:∀{l:P} {p:Str×Int},(ks l).Nodup->p∈l->bM l p.1=some p.2
 |q::l,p,nd,h=>by
  rw[ks,bh,bg]at nd;rw[bM];rcases(ak.mp h)with rfl|h
  ·rw[vg rfl]
  ·rw[vh λe:q.1=p.1=>nd.1 (bf.mpr ⟨p,h,e.symm⟩)];exact A8 nd.2 h
theorem Nh (h:n∈ks l):∃v,bM l n=some v:=by
 cases e:bM l n with
 |some v=>exact⟨v,rfl⟩
 |none=>
  exfalso
  induction l with
  |nil=>cases h
  |cons p l ih=>
   rw[bM]at e;split at e
   ·cases e
   ·rename_i hn;rcases ak.mp h with h|h
    ·exact hn h.symm
    ·exact ih h e
theorem Ni (n:Str)(v:Int)(m:Str):∀l:P,bM (put l n v) m=if n=m then some v else bM l m
 | []=>by simp[put,bM]
 |p::l=>by
  rw[put];split
  ·rename_i e;subst e;rw[bM,bM];split<;>rfl
  ·rename_i e;rw[bM,bM,Ni n v m l];split
   ·rename_i e2;rw[vh λz=>e (e2.trans z.symm)]
   ·rfl
theorem WN (n:Str)(v:Int)(m:Str)(l:P):look (put l n v) m=if n=m then v else look l m:=by rw[look,Ni];split<;>rfl
theorem Ht (n:Str)(v:Int):∀l:P,∀m,m∈ks (put l n v)↔m=n\/m∈ks l
 | [],m=>by simp[put,ks]
 |p::l,m=>by
  rw[put];split
  ·rename_i e;subst e;simp[ks]
  ·have :=Ht n v l m;simp only[ks,bh,ak]at this ⊢;rw[this];constructor
   ·rintro(h|h|h)<;>simp[h]
   ·rintro(h|h|h)<;>simp[h]
theorem Hu (n:Str)(v:Int):∀l:P,(ks l).Nodup->(ks (put l n v)).Nodup
 | [],_=>by simp[put,ks]
 |p::l,h=>by
  rw[put];split
  ·exact h
  ·rename_i e;rw[ks,bh,bg]at h ⊢;refine⟨λz=>?_,Hu n v l h.2⟩;rcases(Ht n v l p.1).mp z with z|z
   ·exact e z
   ·exact h.1 z
theorem Nj:∀{a b:List Str},a.Nodup->(∀x∈a,x∈b)->a.length<=b.length
 | [],b,_,_=>cz _
 |x::a,b,nd,h=>by rw[bg]at nd;have hx:=h x az;have:=Nj (a:=a) (b:=b.erase x) nd.2 λy hy=>(List.mem_erase_of_ne λe:y=x=>nd.1 (e▸hy)).mpr (h y (bn _ hy));rw[List.length_erase_of_mem hx]at this;have:0<b.length:=List.length_pos_of_mem hx;simp only[bv];omega
theorem Dc (a b:Str):eqK (.str a) (.str b)=decide (a=b):=by simp only[eqK]
theorem Nk (a:Str):lF (.str a)=true:=by simp only[lF]
theorem Nl (n:Str):∀l,hZ (en l) (.str n)=(bM l n).map .int
 | []=>rfl
 |p::l=>by
  have ih:=Nl n l;unfold hZ at ih ⊢;rw[bM];show Option.map _ (match eqK (.str p.1) (.str n)with|true=>_|false=>_)=_;rw[Dc];by_cases h:p.1=n
  ·rw[vg h];simp[h,ep]
  ·rw[vh h];simp only[h,decide_false];exact ih
theorem Hv (n:Str):∀l,((en l).any λe=>eqK e.1 (.str n))=true↔n∈ks l
 | []=>by simp[en,ks]
 |p::l=>by show(eqK (.str p.1) (.str n)||_)=true↔_;rw[Dc,j0,ks];have:=Hv n l;rw[en,ks]at this;rw[this];simp[eq_comm]
theorem Nm:∀{l:P},(ks l).Nodup->n∈ks l->(en l).map (λe=>if eqK e.1 (.str n)then(e.1,.int v)else e)=en (put l n v)
 |p::l,nd,h=>by
  rw[ks,bh,bg]at nd;rw[put];show(if eqK (.str p.1) (.str n)=true then _ else _)::_=_;rw[Dc];by_cases e:p.1=n
  ·have hn:∀q∈l,¬q.1=n:=λq hq z=>nd.1 (bf.mpr ⟨q,hq,z.trans e.symm⟩);rw[vg e,vg (by simpa using e)]
   congr 1
   rw[dz];apply ju;intro q hq;show(if eqK (.str q.1) (.str n)=true then _ else _)=ep q;rw[Dc,vh (by simpa using hn q hq)]
  ·rw[vh e,vh (by simpa using e)]
   congr 1
   refine Nm nd.2 ?_;rcases ak.mp h with h|h
   ·exact(e h.symm).elim
   ·exact h
theorem Hw:∀{l:P},n∉ks l->put l n v=l++[(n,v)]
 | [],_=>rfl
 |p::l,h=>by simp only[ks,bh,ak,not_or]at h;rw[put,vh λe=>h.1 e.symm,Hw h.2];rfl
theorem Nn (nd:(ks l).Nodup):dput (en l) (.str n) (.int v)=en (put l n v):=by
 unfold dput;by_cases h:n∈ks l
 ·rw[vg ((Hv n l).mpr h)];exact Nm nd h
 ·rw[vh λz=>h ((Hv n l).mp z),Hw h];simp[en,ep]
theorem Np:∀l acc,(ks (acc++l)).Nodup->lG (en acc) (l.map pr)=some (en (acc++l))
 | [],acc,_=>by simp[lG]
 |p::l,acc,nd=>by
  have WO:=nd;rw[ks,bp]at nd;have h1:=λz=>by rw[ij]at nd;exact nd.2.2 _ z _ az rfl
  show(if lF (.str p.1)then lG (dput (en acc) (.str p.1) (.int p.2)) (l.map pr)else none)=_;rw[vg (Nk _),Nn (by rw[ij]at nd;exact nd.1),Hw h1,Np l (acc++[(p.1,p.2)]) (by rw[d8];exact WO),d8];rfl
theorem WQ (nd:(ks l).Nodup):lG [] (l.map pr)=some (en l):=by have:=Np l [] (by simpa using nd);simpa[en]using this
theorem WR (l:P):(en l).map ent=l.map pr:=by rw[en,dz];rfl
theorem Nq (l:P):(en l).length=l.length:=by rw[en,ac]
theorem Nr (l:P):bZ (en l)=true:=by unfold bZ;rw[b8];intro e he;obtain⟨p,_,rfl⟩:=bf.mp he;rfl
theorem Dd (p:Str×Int):aU (pr p)=true:=rfl
theorem Hx (l:P):imms (l.map pr)=true:=qK.mpr λx hx=>by obtain⟨p,_,rfl⟩:=bf.mp hx;rfl
theorem cP (l:P):aU (pk l)=true:=Hx l
theorem WT (l:P):vP (l.map pr)=true:=by
 cases l with
 |nil=>rfl
 |cons p l=>
  unfold vP;have:((p::l).map pr).all (zah ([PyData.str p.1,PyData.int p.2].map x8))=true:=by rw[b8];intro x hx;obtain⟨q,_,rfl⟩:=bf.mp hx;rfl
  rw[j0];right;exact av.mpr ⟨rfl,this⟩
def lp (p q:Str×Int):Bool:=cK (pr p) (pr q)
def iV (x:Str×Int):P->P
 | []=>[x]
 |y::ys=>if lp y x then y::iV x ys else x::y::ys
def pQ:P->P
 | []=>[]
 |x::xs=>iV x (pQ xs)
theorem Nt (x:Str×Int):∀l:P,iQ (pr x) (l.map pr)=(iV x l).map pr
 | []=>rfl
 |y::l=>by
  rw[bh,iQ,iV,lp];split
  ·rw[Nt x l];rfl
  ·rfl
theorem Nu:∀l:P,jR (l.map pr)=(pQ l).map pr
 | []=>rfl
 |x::l=>by rw[bh,jR,Nu l,Nt,pQ]
theorem Hy (x:Str×Int):∀l:P,(iV x l).Perm (x::l)
 | []=>.refl _
 |y::l=>by
  rw[iV];split
  ·exact((Hy x l).cons y).trans (.swap x y l)
  ·exact .refl _
theorem Hz:∀l:P,(pQ l).Perm l
 | []=>.refl _
 |x::l=>(Hy x (pQ l)).trans ((Hz l).cons x)
theorem Nv (h:p.1≠q.1):lp p q=true↔sl p.1 q.1:=by
 show cK (.tuple [.str p.1,.int p.2]) (.tuple [.str q.1,.int q.2])=true↔_;simp only[cK,aH];have:cQ (.str p.1) (.str q.1)=false:=by simp[cQ,PyData.eqv,h]
 rw[this];simp[sl]
def Sd (l:P):Prop:=l.Pairwise λp q=>sl p.1 q.1
theorem Nw:∀{l:P},Sd l->x.1∉ks l->Sd (iV x l)
 | [],_,_=>gj _ _
 |y::l,h,hx=>by
  have h':=c9.1 h;simp only[ks,bh,ak,not_or]at hx;rw[iV];split
  ·rename_i hl;have hy:=(Nv (λe=>hx.1 e.symm)).mp hl;refine c9.mpr ⟨λz hz=>?_,Nw h'.2 hx.2⟩;rcases ak.mp ((Hy x l).mem_iff.mp hz)with rfl|hz
   ·exact hy
   ·exact h'.1 z hz
  ·rename_i hl
   have hy:sl x.1 y.1:=by
    rcases Ng hx.1 with z|z
    ·exact z
    ·exact(hl ((Nv (λe=>hx.1 e.symm)).mpr z)).elim
   refine c9.mpr ⟨λz hz=>?_,h⟩;rcases(ak.mp hz)with rfl|hz
   ·exact hy
   ·exact Nf hy (h'.1 z hz)
theorem HC:∀{l:P},(ks l).Nodup->Sd (pQ l)
 | [],_=>List.Pairwise.nil
 |x::l,nd=>by rw[ks,bh,bg]at nd;exact Nw (HC nd.2) λz=>nd.1 (((Hz l).map (·.1)).mem_iff.mp z)
theorem Ny (h:Sd l):(ks l).Nodup:=by unfold ks List.Nodup;rw[nh];exact List.Pairwise.imp (λz=>WL z) h
theorem WU {a b:P}(h:a.Perm b)(nd:(ks b).Nodup)(n:Str):bM a n=bM b n:=by
 have WV:(ks a).Nodup:=(List.Perm.nodup_iff (h.map (λp:Str×Int=>p.1))).mpr nd;cases e:bM b n with
 |some v=>exact A8 WV (h.mem_iff.mpr (tR e))
 |none=>
  cases e2:bM a n with
  |none=>rfl
  |some v=>rw[A8 nd (h.mem_iff.mp (tR e2))]at e;cases e
structure PK (l:P):Prop where
 sd:Sd l
 pos:∀p∈l,0<p.2
theorem PK.nd (h:PK l):(ks l).Nodup:=Ny h.sd
theorem PK.kN (h:PK l)(n:Str):0<=look l n:=by
 unfold look;cases e:bM l n with
 |none=>exact ul _
 |some v=>exact Int.le_of_lt (h.pos _ (tR e))
theorem PK.key (h:PK l):n∈ks l↔0<look l n:=by
 constructor
 ·intro z;obtain⟨v,e⟩:=Nh z;unfold look;rw[e];exact h.pos _ (tR e)
 ·intro z;unfold look at z;cases e:bM l n with
  |none=>rw[e]at z;exact absurd z (by decide)
  |some v=>exact WM e
theorem PK.cB (h:PK l)(hp:p∈l):look l p.1=p.2:=by unfold look;rw[A8 h.nd hp];rfl
theorem PK.ext:∀{a b:P},PK a->PK b->(∀n,look a n=look b n)->a=b
 | [],[],_,_,_=>rfl
 | [],q::b,_,hb,h=>by have:=h q.1;rw[hb.cB az]at this;have z:=hb.pos _ az;rw[<-this]at z;exact absurd z (Int.lt_irrefl 0)
 |p::a,[],ha,_,h=>by have:=h p.1;rw[ha.cB az]at this;have z:=ha.pos _ az;rw[this]at z;exact absurd z (Int.lt_irrefl 0)
 |p::a,q::b,ha,hb,h=>by
  have no:∀{x y:Str×Int} {l m:P},PK (x::l)->PK (y::m)->(∀n,look (x::l) n=look (y::m) n)->¬sl x.1 y.1:=λ{x y l m} hx hy h z=>by
   have e:=h x.1;rw[hx.cB az]at e;have k:=hy.key.mpr (e▸hx.pos _ az);rcases ak.mp k with k|k
   ·exact Hs _ (k▸z)
   ·obtain⟨w,hw,e2⟩:=bf.mp k;have:=(c9.mp hy.sd).1 w hw;rw[e2]at this;exact Hs _ (Nf z this)
  have e1:p.1=q.1:=by
   by_cases e:p.1=q.1
   ·exact e
   ·rcases Ng e with z|z
    ·exact(no ha hb h z).elim
    ·exact(no hb ha (λn=>(h n).symm) z).elim
  have e2:p.2=q.2:=by have:=h p.1;rw[ha.cB az,e1,hb.cB az]at this;exact this
  have xR:=Prod.ext e1 e2;subst xR
  congr 1
  have ta:PK a:=⟨(c9.mp ha.sd).2,λx hx=>ha.pos x (bn _ hx)⟩;have tb:PK b:=⟨(c9.mp hb.sd).2,λx hx=>hb.pos x (bn _ hx)⟩;refine PK.ext ta tb λn=>?_;have hn:=h n;unfold look at hn ⊢;rw[bM,bM]at hn;by_cases e:p.1=n
  ·have na:n∉ks a:=by have :=ha.nd;rw[ks,bh,bg]at this;exact e▸this.1
   have nb:=by have:=hb.nd;rw[ks,bh,bg]at this;exact e▸this.1
   rw[tQ na,tQ nb]
  ·rw[vh e,vh e]at hn;exact hn
end
section
open PySem
section
variable {Κ:List D}{Φ:List Fn}{ρ:Rho}{a b c t:C}{p q:S}{i:Nat}{f:D->Rho->Res Out}{x:D}{xs:List D}
theorem Nz:aT Κ Φ (.seq p q) ρ=qM (aT Κ Φ p ρ) (aT Κ Φ q):=rfl
theorem HD:aT Κ Φ (.asg (.nm i) t) ρ=(aG Κ Φ t ρ>>=λx=>.ok (.nx (ρ.set i (some (z1q x))))):=rfl
theorem HE:aT Κ Φ (.ifS c p q) ρ=(eL Κ Φ c ρ>>=λk=>if k then aT Κ Φ p ρ else aT Κ Φ q ρ):=rfl
theorem NA:aT Κ Φ (.ret (.var i)) ρ=(match ρ[i]? with|some (some (g,d))=>.ok (.rt (if aU d then .fr else jS g) d)|_=>.no):=rfl
theorem WW:aT Κ Φ (.eK i a b) ρ=(aG Κ Φ b ρ>>=λy=>aG Κ Φ a ρ>>=λx=>match ρ[i]? with
 |some (some (.fr,.dict es))=>if lF x.2&&okIn y&&decide (es.length<bB)then .ok (.nx ((ρ.set i (some (.fr,.dict (dput es x.2 y.2)))).map cZ))else .no
 |some (some (.fr,.list xs))=>(match x.2 with
  |.int j=>if okIn y then(match jK xs.length j with|some n=>.ok (.nx ((ρ.set i (some (.fr,.list (xs.set n y.2)))).map cZ))|none=>.no)else .no
  |_=>.no)
 |_=>.no):=rfl
theorem WX:aT Κ Φ (.mut m i a) ρ=(dP Κ Φ a ρ>>=λys=>match ρ[i]? with
 |some (some (.fr,.list xs))=>oF m xs ys>>=λtF=>.ok (.nx ((ρ.set i (some (.fr,.list tF))).map cZ))
 |_=>.no):=rfl
theorem WY:aT Κ Φ (.bD t' a p) ρ=(evF Κ Φ a ρ>>=λw=>dE (λx ρ1=>eE t' (gJ x w.1,x) ρ1>>=λcF=>aT Κ Φ p cF) w.2.1 w.2.2):=rfl
theorem NB:dE f (x::xs) ρ=(match f x ρ with
 |.ok (.nx aQ)=>dE f xs aQ
 |.ok (.rt g d)=>.ok (.rt g d)
 |.exc e=>.exc e
 |.no=>.no):=rfl
theorem WZ:dP Κ Φ .nil ρ=.ok []:=rfl
theorem De:dP Κ Φ (.cons a b) ρ=(aG Κ Φ a ρ>>=λx=>dP Κ Φ b ρ>>=λxs=>.ok (x::xs)):=rfl
theorem HF:vU Κ Φ (.tv a) ρ=(aG Κ Φ a ρ>>=λx=>vS x.2):=rfl
theorem A9:Fy Κ Φ (.tv a) ρ=(aG Κ Φ a ρ>>=λx=>z7b x.2>>=λp=>.ok (x.1,p)):=rfl
theorem HG:eL Κ Φ (.tv a) ρ=(aG Κ Φ a ρ>>=λx=>lH x.2):=rfl
theorem W0:eL Κ Φ (.and a b) ρ=(eL Κ Φ a ρ>>=λc=>if c then eL Κ Φ b ρ else .ok false):=rfl
theorem W2:eL Κ Φ (.not a) ρ=(eL Κ Φ a ρ>>=λc=>.ok (!c)):=rfl
theorem HH:evW Κ Φ (.tv a) ρ=(aG Κ Φ a ρ>>=λx=>z4x x.2>>=λxs=>.ok (x.1,xs)):=rfl
theorem W3:evW Κ Φ (.fM a) ρ=(dP Κ Φ a ρ>>=λys=>lK (ys.map (·.2))>>=λxs=>.ok (.fr,xs)):=rfl
theorem NC:evF Κ Φ (.tv (.var i)) ρ=(if lM ρ i then Co i ρ else if lN Κ Φ (.tv (.var i)) ρ then aG Κ Φ (.var i) ρ>>=λx=>oG x ρ else tE Κ Φ (.tv (.var i)) ρ):=rfl
end
theorem bU (h:aT Κ Φ a ρ=.ok (.nx aQ))(k:aT Κ Φ b aQ=r):aT Κ Φ (.seq a b) ρ=r:=by rw[Nz,h];exact k
theorem bQ (h:aT Κ Φ a ρ=.ok (.rt g d)):aT Κ Φ (.seq a b) ρ=.ok (.rt g d):=by rw[Nz,h];rfl
theorem dQ (h:aT Κ Φ s (ds.map (λd=>some (.od,d))++ba (n-ds.length) none)=.ok (.rt g d)):aS Κ Φ n s ds=.ok (g,d):=by unfold aS;rw[h]
theorem ND {α β:Type}{f:D->Rho->Res Out}{m:β->D}(I:α->Rho->Prop)(step:α->β->α):∀(xs:List β) (a:α) (ρ:Rho),(∀a x ρ,x∈xs->I a ρ->∃aQ,f (m x) ρ=.ok (.nx aQ)/\I (step a x) aQ)->I a ρ->∃aQ,dE f (xs.map m) ρ=.ok (.nx aQ)/\I (xs.foldl step a) aQ
 | [],a,ρ,_,h=>⟨ρ,rfl,h⟩
 |x::xs,a,ρ,hf,h=>by obtain⟨ρ1,e,h1⟩:=hf a x ρ az h;obtain⟨cF,e2,h2⟩:=ND I step xs (step a x) ρ1 (λa y ρ hy=>hf a y ρ (bn _ hy)) h1;exact⟨cF,by rw[bh,NB,e];exact e2,h2⟩
theorem NF {β:Type}{m:β->D}(I:List β->Rho->Prop):∀xs pre ρ,(∀rP x post ρ,pre++xs=rP++x::post->I rP ρ->∃aQ,f (m x) ρ=.ok (.nx aQ)/\I (rP++[x]) aQ)->I pre ρ->∃aQ,dE f (xs.map m) ρ=.ok (.nx aQ)/\I (pre++xs) aQ
 | [],pre,ρ,_,h=>⟨ρ,rfl,by rw[cr];exact h⟩
 |x::xs,pre,ρ,hf,h=>by
  obtain⟨ρ1,e,h1⟩:=hf pre x xs ρ rfl h;have e0:pre++[x]++xs=pre++x::xs:=by rw[d8];rfl
  obtain⟨cF,e2,h2⟩:=NF I xs (pre++[x]) ρ1 (λrP y post ρ hy=>hf rP y post ρ (e0▸hy)) h1;exact⟨cF,by rw[bh,NB,e];exact e2,e0▸h2⟩
theorem HI {β:Type}{m:β->D}(g:β->Option D):∀(xs:List β),(∀x∈xs,f (m x)=.ok ((g x).map λd=>(.fr,d)))->lL f (xs.map m)=.ok ((xs.filterMap g).map λd=>(.fr,d))
 | [],_=>rfl
 |x::xs,h=>by
  rw[bh,lL,h x az,HI g xs λy hy=>h y (bn _ hy)];cases e:g x with
  |none=>rw[nz e];rfl
  |some d=>rw[n5 e];rfl
theorem NG (xs:List D):sY (xs.map λd=>(G.fr,d))=.fr:=by unfold sY;rw[vg];rw[List.all_map];exact b8.mpr λ_ _=>rfl
theorem W4 (xs:List D):bO (xs.map λd=>(G.fr,d))=.fr:=by unfold bO;rw[vg];rw[b8];intro x hx;obtain⟨d,_,rfl⟩:=bf.mp hx;rfl
theorem Df (xs:List D):(xs.map λd=>(G.fr,d)).map (λx=>x.2)=xs:=by rw[dz];exact uj _
theorem W5 (a b:Int):lI "max" [.int a,.int b]=.ok (.int (max a b)):=rfl
theorem W6 (l:P)(n:Str)(v:Int):mtD "get" (.dict (en l)) [.str n,.int v]=.ok (.int ((bM l n).getD v)):=by have:mtD "get" (.dict (en l)) [.str n,.int v]=.ok ((hZ (en l) (.str n)).getD (.int v)):=rfl;rw[this,Nl];cases bM l n<;>rfl
theorem HJ (l:P)(n:Str):mtD "get" (.dict (en l)) [.str n,.int 0]=.ok (.int (look l n)):=W6 l n 0
theorem Dg (l:Bool)(xs:List D):aggD "tuple" l xs=.ok (.tuple xs):=rfl
theorem Dh (l:Bool)(xs:List D):aggD "list" l xs=.ok (.list xs):=rfl
theorem NH (b:Bool)(nd:(ks l).Nodup):aggD "dict" b (l.map pr)=.ok (.dict (en l)):=by show Res.iZ ((lG [] (l.map pr)).map PyData.dict)=_;rw[WQ nd];rfl
theorem NI {α:Type}(xs:List α)(i:Int)(d:α)(h0:0<=i)(h1:i<xs.length):dM xs i=some (xs.getD i.toNat d):=by
 unfold dM jK;rw[vg h0,vg h1];show xs[i.toNat]?=_;have:i.toNat<xs.length:=by omega
 rw[bd,aw this];rfl
theorem NJ {ns:List Int}{i:Int}(h0:0<=i)(h1:i<ns.length):jB (.list (ns.map .int)) (.int i)=.ok (.int (ns.getD i.toNat 0)):=by
 show Res.iZ (dM (ns.map PyData.int) i)=_;rw[NI _ i (.int 0) h0 (by rw[ac];exact h1)]
 congr 1
 have:i.toNat<ns.length:=by omega
 rw[bd,bd,bj,aw this];rfl
theorem add_list (h:a.length+b.length<=1000):dD .Add (.list a) (.list b)=.ok (.list (a++b)):=by show(if _ then _ else _)=_;rw[vg (by unfold bB;omega)]
theorem Di (h:-(2 ^ 64)<b/\b<2 ^ 64):dD .Mult (.int a) (.int b)=.ok (.int (a*b)):=by show(if _ then _ else _)=_;rw[vg (.inr h)]
theorem NK (h:-(2 ^ 64)<a/\a<2 ^ 64):dD .Mult (.int a) (.int b)=.ok (.int (a*b)):=by show(if _ then _ else _)=_;rw[vg (.inl h)]
theorem lX (h:0<b):dD .Mod (.int a) (.int b)=.ok (.int (a%b)):=by show(if _ then _ else _)=_;rw[vg h]
theorem W7:dD .Pow (.int 10) (.int 30)=.ok (.int 1000000000000000000000000000000):=rfl
theorem yt (h0:0<=n)(h1:n<=1000):lK [.int n]=.ok ((cn n.toNat).map λ(i:Nat)=>.int i):=by show(if _ then _ else _)=_;rw[vg (by unfold bB;omega)]
theorem tT (ns:List Str):imms (ns.map .str)=true:=qK.mpr λx hx=>by obtain⟨p,_,rfl⟩:=bf.mp hx;rfl
theorem NL (a b:Int):cQ (.int a) (.int b)=decide (a=b):=by rfl
section
variable {Κ:List D}{Φ:List Fn}{ρ:Rho}
theorem iF:aG Κ Φ (.var i) ρ=(Cn ρ[i]?):=rfl
theorem W8:aG Κ Φ (.bA) ρ=(.ok (.fr,.none)):=rfl
theorem HK:aG Κ Φ (.bl b) ρ=(.ok (.fr,.bool b)):=rfl
theorem W9:aG Κ Φ (.int i) ρ=(.ok (.fr,.int i)):=rfl
theorem W':aG Κ Φ (.str x) ρ=(.ok (.fr,.str x)):=rfl
theorem NM:aG Κ Φ (.bin op a b) ρ=(aG Κ Φ a ρ>>=λx=>aG Κ Φ b ρ>>=λy=>dD op x.2 y.2>>=λd=>.ok (gN d (bO [x,y]),d)):=rfl
theorem Xa:aG Κ Φ (.cmp op a b) ρ=(aG Κ Φ a ρ>>=λx=>aG Κ Φ b ρ>>=λy=>cmpD op x.2 y.2>>=λb=>.ok (.fr,.bool b)):=rfl
theorem Xb:aG Κ Φ (.jA ng a) ρ=(aG Κ Φ a ρ>>=λx=>.ok (.fr,.bool (match x.2 with|.none=>!ng|_=>ng))):=rfl
theorem Xc:aG Κ Φ (.and a b) ρ=(aG Κ Φ a ρ>>=λx=>match x.2 with|.bool c=>if c then aG Κ Φ b ρ else .ok (.fr,.bool false)|_=>.no):=rfl
theorem HL:aG Κ Φ (.oE c a b) ρ=(eL Κ Φ c ρ>>=λk=>if k then aG Κ Φ a ρ else aG Κ Φ b ρ):=rfl
theorem NN:aG Κ Φ (.tup xs) ρ=(dP Κ Φ xs ρ>>=λys=>.ok (gJ (.tuple (ys.map (·.2))) (bO ys),.tuple (ys.map (·.2)))):=rfl
theorem HM:aG Κ Φ (.lst xs) ρ=(dP Κ Φ xs ρ>>=λys=>.ok (bO ys,.list (ys.map (·.2)))):=rfl
theorem Xd:aG Κ Φ (.rep xs b) ρ=(dP Κ Φ xs ρ>>=λys=>aG Κ Φ b ρ>>=λn=>qL ys n.2):=rfl
theorem Xe:aG Κ Φ (.fI) ρ=(.ok (.fr,.dict [])):=rfl
theorem rQ:aG Κ Φ (.ix a b) ρ=(aG Κ Φ a ρ>>=λx=>aG Κ Φ b ρ>>=λy=>jB x.2 y.2>>=λd=>.ok (gJ d x.1,d)):=rfl
theorem HN:aG Κ Φ (.sl a lo hi) ρ=(aG Κ Φ a ρ>>=λx=>vU Κ Φ lo ρ>>=λl=>vU Κ Φ hi ρ>>=λh=>zO x.2 l h>>=λd=>.ok (gN d (bO [x]),d)):=rfl
theorem HP:aG Κ Φ (.call k w1 args) ρ=(dP Κ Φ args ρ>>=λys=>match Φ[k]? with|some m=>m (ys.map (·.2))>>=λr=>.ok (gJ r.2 (jS r.1),r.2)|none=>.no):=rfl
theorem HQ:aG Κ Φ (.bi f args) ρ=(dP Κ Φ args ρ>>=λys=>lI f (ys.map (·.2))>>=λd=>.ok (gJ d .al,d)):=rfl
theorem NO:aG Κ Φ (.eD f a) ρ=(Fy Κ Φ a ρ>>=λw=>aggD f w.2.1 w.2.2>>=λd=>.ok (gJ d (if imms w.2.2 then .fr else agG w.1),d)):=rfl
theorem Xf:aG Κ Φ (.pI a ts) ρ=(aG Κ Φ a ρ>>=λx=>.ok (.fr,.bool (ts.any λT=>lJ (iR x.2) T))):=rfl
theorem A':aG Κ Φ (.mt m o args) ρ=(aG Κ Φ o ρ>>=λx=>dP Κ Φ args ρ>>=λys=>mtD m x.2 (ys.map (·.2))>>=λd=>.ok (gJ d .al,d)):=rfl
theorem Xg:aG Κ Φ (.sortI i) ρ=(match ρ[i]? with
 |some (some (_,.dict es))=>if bZ es&&vP (es.map ent)&&decide (es.length<64)then .ok (.fr,.list (jR (es.map ent)))else .no
 |_=>.no):=rfl
theorem NP {cond:C}:aG Κ Φ (.comp nt js w1 tg it cond elt) ρ=(evW Κ Φ it ρ>>=λw=>lL (λx=>eE tg (gJ x w.1,x) (ba nt none++js.map λj=>toAl (ρ.getD j none))>>=λρ1=>eL Κ Φ cond ρ1>>=λk=>if k then aG Κ Φ elt ρ1>>=λy=>.ok (some y)else .ok none) w.2>>=λys=>.ok (sY ys,.list (ys.map (·.2)))):=rfl
end
section
variable {Κ:List D}{Φ:List Fn}{ρ:Rho}{a b c t o args:C}{x y d:D}{ds:List D}{k k':Bool}{g:G}
def Ev (Κ:List D)(Φ:List Fn)(c:C)(ρ:Rho)(d:D):Prop:=∃g,aG Κ Φ c ρ=.ok (g,d)
def Vv (Κ:List D)(Φ:List Fn)(c:C)(ρ:Rho)(d:D):Prop:=aG Κ Φ c ρ=.ok (.fr,d)/\aU d=true
def Aa (Κ:List D)(Φ:List Fn)(c:C)(ρ:Rho)(ds:List D):Prop:=∃ys,dP Κ Φ c ρ=.ok ys/\ys.map (·.2)=ds
def Av (Κ:List D)(Φ:List Fn)(c:C)(ρ:Rho)(ds:List D):Prop:=dP Κ Φ c ρ=.ok (ds.map λd=>(.fr,d))/\imms ds=true
def Tt (Κ:List D)(Φ:List Fn)(c:C)(ρ:Rho)(k:Bool):Prop:=eL Κ Φ c ρ=.ok k
theorem Vv.e (h:Vv Κ Φ c ρ d):Ev Κ Φ c ρ d:=⟨_,h.1⟩
theorem Ev.of (h:aG Κ Φ c ρ=.ok (g,d)):Ev Κ Φ c ρ d:=⟨_,h⟩
theorem aD (h:ρ[i]?=some (some (g,d))):Ev Κ Φ (.var i) ρ d:=⟨_,by rw[iF];rw[h];rfl⟩
theorem v_var (h:ρ[i]?=some (some (g,d)))(hi:aU d=true):Vv Κ Φ (.var i) ρ d:=⟨by rw[iF];rw[h];show Res.ok (if aU d=true then _ else _,d)=_;rw[vg hi],hi⟩
theorem aN:Vv Κ Φ (.int i) ρ (.int i):=⟨by rw[W9],rfl⟩
theorem dR:Vv Κ Φ (.str i) ρ (.str i):=⟨by rw[W'],rfl⟩
theorem rR:Vv Κ Φ (.bl i) ρ (.bool i):=⟨by rw[HK],rfl⟩
theorem Dj:Vv Κ Φ .bA ρ .none:=⟨by rw[W8],rfl⟩
theorem mX (hi:aU d=true):gJ d g=.fr:=by unfold gJ;rw[vg hi]
theorem Xi (hi:aU d=true):gN d g=.fr:=by cases d<;>first|exact mX hi|cases hi
theorem cJ (ha:Ev Κ Φ a ρ x)(hb:Ev Κ Φ b ρ y)(h:dD op x y=.ok d)(hi:aU d=true):Vv Κ Φ (.bin op a b) ρ d:=by obtain⟨g1,ha⟩:=ha;obtain⟨g2,hb⟩:=hb;refine⟨?_,hi⟩;rw[NM];rw[ha,Res.aC,hb,Res.aC];dsimp only;rw[h,Res.aC,Xi hi]
theorem Ba (ha:Ev Κ Φ a ρ x)(hb:Ev Κ Φ b ρ y)(h:dD op x y=.ok (.list xs))(hi:imms xs=true):aG Κ Φ (.bin op a b) ρ=.ok (.fr,.list xs):=by obtain⟨g1,ha⟩:=ha;obtain⟨g2,hb⟩:=hb;rw[NM];rw[ha,Res.aC,hb,Res.aC];dsimp only;rw[h];show Res.ok (if imms xs=true then _ else _,_)=_;rw[vg hi]
theorem cY (ha:Ev Κ Φ a ρ x)(hb:Ev Κ Φ b ρ y)(h:cmpD op x y=.ok k):Vv Κ Φ (.cmp op a b) ρ (.bool k):=by obtain⟨g1,ha⟩:=ha;obtain⟨g2,hb⟩:=hb;refine⟨?_,rfl⟩;rw[Xa];rw[ha,Res.aC,hb,Res.aC];dsimp only;rw[h];rfl
def Bb:D->Bool
 |.none=>true
 |_=>false
theorem Bc (ha:Ev Κ Φ a ρ x):Vv Κ Φ (.jA ng a) ρ (.bool (if Bb x then !ng else ng)):=by obtain⟨g1,ha⟩:=ha;refine⟨?_,rfl⟩;rw[Xb];rw[ha];cases x<;>rfl
theorem v_and (ha:Ev Κ Φ a ρ (.bool k))(hb:k=true->Vv Κ Φ b ρ (.bool k')):Vv Κ Φ (.and a b) ρ (.bool (k&&k')):=by
 obtain⟨g1,ha⟩:=ha;refine⟨?_,rfl⟩;rw[Xc];rw[ha];cases k with
 |true=>exact(hb rfl).1
 |false=>rfl
theorem HR (hc:Tt Κ Φ c ρ k)(h1:k=true->Vv Κ Φ a ρ x)(h2:k=false->Vv Κ Φ b ρ y):Vv Κ Φ (.oE c a b) ρ (if k then x else y):=by
 cases k with
 |true=>exact⟨by rw[HL];rw[hc];exact(h1 rfl).1,(h1 rfl).2⟩
 |false=>exact⟨by rw[HL];rw[hc];exact(h2 rfl).1,(h2 rfl).2⟩
theorem dF:Av Κ Φ .nil ρ []:=⟨rfl,rfl⟩
theorem bJ (ha:Vv Κ Φ a ρ x)(hb:Av Κ Φ b ρ ds):Av Κ Φ (.cons a b) ρ (x::ds):=⟨by rw[De,ha.1,Res.aC,hb.1];rfl,by show(aU x&&imms ds)=true;rw[ha.2,hb.2];rfl⟩
theorem aW:Aa Κ Φ .nil ρ []:=⟨[],rfl,rfl⟩
theorem aF (ha:Ev Κ Φ a ρ x)(hb:Aa Κ Φ b ρ ds):Aa Κ Φ (.cons a b) ρ (x::ds):=by obtain⟨g1,ha⟩:=ha;obtain⟨ys,hb,e⟩:=hb;exact⟨_,by rw[De,ha,hb];rfl,by rw[bh,e]⟩
theorem lY (h:Av Κ Φ args ρ ds):Vv Κ Φ (.tup args) ρ (.tuple ds):=by refine⟨?_,h.2⟩;rw[NN];rw[h.1,Res.aC,Df,mX (d:=.tuple ds) h.2]
theorem Xj (h:Aa Κ Φ args ρ ds):Ev Κ Φ (.tup args) ρ (.tuple ds):=by obtain⟨ys,h,e⟩:=h;exact⟨_,by rw[NN];rw[h,Res.aC,e]⟩
theorem gX (h:Av Κ Φ args ρ ds):aG Κ Φ (.lst args) ρ=.ok (.fr,.list ds):=by rw[HM];rw[h.1,Res.aC,Df,W4]
theorem Xk (h:Av Κ Φ args ρ ds)(hb:Ev Κ Φ b ρ x)(hr:qL (ds.map λd=>(.fr,d)) x=.ok (g,d)):aG Κ Φ (.rep args b) ρ=.ok (g,d):=by obtain⟨g',hb⟩:=hb;rw[Xd,h.1,Res.aC,hb,Res.aC];exact hr
theorem Xl:aG Κ Φ .fI ρ=.ok (.fr,.dict []):=by rw[Xe]
theorem aJ (ha:Ev Κ Φ a ρ x)(hb:Ev Κ Φ b ρ y)(h:jB x y=.ok d)(hi:aU d=true):Vv Κ Φ (.ix a b) ρ d:=by obtain⟨g1,ha⟩:=ha;obtain⟨g2,hb⟩:=hb;refine⟨?_,hi⟩;rw[rQ];rw[ha,Res.aC,hb,Res.aC];dsimp only;rw[h,Res.aC,mX hi]
def Oo (Κ:List D)(Φ:List Fn)(c:C)(ρ:Rho)(i:Option Int):Prop:=vU Κ Φ c ρ=.ok i
theorem yb:Oo Κ Φ .nil ρ none:=rfl
theorem Dk (h:Ev Κ Φ a ρ (.int i)):Oo Κ Φ (.tv a) ρ (some i):=by obtain⟨g1,h⟩:=h;unfold Oo;rw[HF,h];rfl
theorem eX (ha:Aa Κ Φ args ρ ds)(hf:Φ[n]?=some m)(h:m ds=.ok (g,d))(hi:aU d=true):Vv Κ Φ (.call n f args) ρ d:=by obtain⟨ys,ha,e⟩:=ha;refine⟨?_,hi⟩;rw[HP];rw[ha,Res.aC,hf];dsimp only;rw[e,h,Res.aC,mX hi]
theorem eG (ha:Aa Κ Φ args ρ ds)(hf:Φ[n]?=some m)(h:m ds=.ok (g,d)):Ev Κ Φ (.call n f args) ρ d:=by obtain⟨ys,ha,e⟩:=ha;exact⟨_,by rw[HP];rw[ha,Res.aC,hf];dsimp only;rw[e,h,Res.aC]⟩
theorem NQ (ha:Aa Κ Φ args ρ ds)(hf:Φ[n]?=some m)(h:m ds=.ok (.fr,.list xs)):aG Κ Φ (.call n f args) ρ=.ok (.fr,.list xs):=by obtain⟨ys,ha,e⟩:=ha;rw[HP];rw[ha,Res.aC,hf];dsimp only;rw[e,h];rfl
theorem gY (ha:Aa Κ Φ args ρ ds)(h:lI f ds=.ok d)(hi:aU d=true):Vv Κ Φ (.bi f args) ρ d:=by obtain⟨ys,ha,e⟩:=ha;refine⟨?_,hi⟩;rw[HQ];rw[ha,Res.aC,e,h,Res.aC,mX hi]
theorem yu (ha:Ev Κ Φ a ρ x)(hw:z7b x=.ok w)(h:aggD f w.1 w.2=.ok d)(hi:aU d=true):Vv Κ Φ (.eD f (.tv a)) ρ d:=by obtain⟨g1,ha⟩:=ha;refine⟨?_,hi⟩;rw[NO];rw[A9,ha,Res.aC];dsimp only;rw[hw];simp only[Res.aC];rw[h,Res.aC,mX hi]
theorem yw (ha:Ev Κ Φ a ρ x)(hw:z7b x=.ok w)(h:aggD f w.1 w.2=.ok d)(hi:imms w.2=true):aG Κ Φ (.eD f (.tv a)) ρ=.ok (.fr,d):=by obtain⟨g1,ha⟩:=ha;rw[NO];rw[A9,ha,Res.aC];dsimp only;rw[hw];simp only[Res.aC];rw[h,Res.aC];unfold gJ;split<;>rfl
theorem Xm (ha:Ev Κ Φ a ρ x):Vv Κ Φ (.pI a ts) ρ (.bool (ts.any λT=>lJ (iR x) T)):=by obtain⟨g1,ha⟩:=ha;refine⟨?_,rfl⟩;rw[Xf];rw[ha];rfl
theorem wL (ho:Ev Κ Φ o ρ x)(ha:Aa Κ Φ args ρ ds)(h:mtD m x ds=.ok d)(hi:aU d=true):Vv Κ Φ (.mt m o args) ρ d:=by obtain⟨g1,ho⟩:=ho;obtain⟨ys,ha,e⟩:=ha;refine⟨?_,hi⟩;rw[A'];rw[ho,Res.aC,ha,Res.aC,e];dsimp only;rw[h,Res.aC,mX hi]
theorem aR (h:Ev Κ Φ a ρ x)(ht:lH x=.ok k):Tt Κ Φ (.tv a) ρ k:=by obtain⟨g1,h⟩:=h;unfold Tt;rw[HG,h];exact ht
theorem rS:Tt Κ Φ .nil ρ true:=rfl
theorem Bd (ha:Tt Κ Φ a ρ k)(hb:k=true->Tt Κ Φ b ρ k'):Tt Κ Φ (.and a b) ρ (k&&k'):=by
 unfold Tt at *
 rw[W0,ha];cases k with
 |true=>exact hb rfl
 |false=>rfl
theorem z9 (ha:Tt Κ Φ a ρ k):Tt Κ Φ (.not a) ρ (!k):=by
 unfold Tt at *
 rw[W2,ha];rfl
theorem z1e {β:Type}{cond:C}{m:β->D}{xs:List β}(p:β->Bool)(f:β->D)(hw:evW Κ Φ it ρ=.ok w)(hx:w.2=xs.map m)(r:β->Rho)
  (hb:∀x∈xs,eE tg (gJ (m x) w.1,m x) (ba nt none++js.map λj=>toAl (ρ.getD j none))=.ok (r x)) (hc:∀x∈xs,Tt Κ Φ cond (r x) (p x)) (he:∀x∈xs,p x=true->Vv Κ Φ elt (r x) (f x)):
  aG Κ Φ (.comp nt js N' tg it cond elt) ρ=.ok (.fr,.list ((xs.filter p).map f)):=by
 rw[NP];rw[hw,Res.aC,hx]
 rw[HI (λx=>if p x then some (f x)else none) xs λx hx=>by
  rw[hb x hx,Res.aC];have:=hc x hx;rw[this];cases e:p x with
  |true=>rw[(he x hx e).1];rfl
  |false=>rfl]
 rw[Res.aC,NG,Df]
 have:(xs.filterMap λx=>if p x=true then some (f x)else none)=(xs.filter p).map f:=by
  clear hx hb hc he hw
  induction xs with
  |nil=>rfl
  |cons x xs ih=>
   cases e:p x with
   |true=>rw[n5 (by rw[e];rfl),kt e,bh,ih]
   |false=>rw[nz (by rw[e];rfl),ku (e▸ce),ih]
 rw[this]
theorem cI (h:aG Κ Φ a ρ=.ok (g,x))(hw:z4x x=.ok xs):evW Κ Φ (.tv a) ρ=.ok (g,xs):=by rw[HH,h,Res.aC];dsimp only;rw[hw];rfl
theorem Dl (h:Aa Κ Φ args ρ ds)(hw:lK ds=.ok xs):evW Κ Φ (.fM args) ρ=.ok (.fr,xs):=by obtain⟨ys,h,e⟩:=h;rw[W3,h,Res.aC,e,hw];rfl
theorem j' (h:Vv Κ Φ t ρ d):aT Κ Φ (.asg (.nm i) t) ρ=.ok (.nx (ρ.set i (some (.al,d)))):=by rw[HD,h.1];show Res.ok (Out.nx (ρ.set i (some (if aU d then(.al,d)else _))))=_;rw[vg h.2]
theorem tU (h:aG Κ Φ t ρ=.ok (.fr,.list xs))(hi:imms xs=true):aT Κ Φ (.asg (.nm i) t) ρ=.ok (.nx (ρ.set i (some (.fr,.list xs)))):=by rw[HD,h];show Res.ok (Out.nx (ρ.set i (some (if imms xs then .fr else .nu,.list xs))))=_;rw[vg hi]
theorem NR (h:aG Κ Φ t ρ=.ok (.fr,.dict es))(hi:bZ es=true):aT Κ Φ (.asg (.nm i) t) ρ=.ok (.nx (ρ.set i (some (.fr,.dict es)))):=by rw[HD,h];show Res.ok (Out.nx (ρ.set i (some (if bZ es then .fr else .nu,.dict es))))=_;rw[vg hi]
theorem HS (hv:∀i,t≠.var i):aT Κ Φ (.ret t) ρ=(aG Κ Φ t ρ>>=λx=>.ok (.rt (jS x.1) x.2)):=by cases t<;>first|exact absurd rfl (hv _)|rfl
theorem dN (h:Vv Κ Φ t ρ d):aT Κ Φ (.ret t) ρ=.ok (.rt .fr d):=by
 by_cases hv:∀i,t≠.var i
 ·rw[HS hv,h.1];rfl
 obtain⟨i,rfl⟩:∃i,t=.var i:=by cases t<;>first|exact⟨_,rfl⟩|exact(hv λi z=>by cases z).elim
 have h1:=h.1;rw[iF]at h1;rw[NA];cases hr:ρ[i]? with
 |none=>rw[hr]at h1;cases h1
 |some o=>
  cases o with
  |none=>rw[hr]at h1;cases h1
  |some gd=>
   obtain⟨g,d'⟩:=gd;rw[hr]at h1;have:d'=d:=by have:=congrArg (λr:Res GD=>match r with|.ok p=>p.2|_=>.none) h1;exact this
   subst this;show Res.ok (Out.rt (if aU d'=true then _ else _) d')=_;rw[vg h.2]
theorem NS (hv:∀i,t≠.var i)(h:aG Κ Φ t ρ=.ok (.fr,.list xs)):aT Κ Φ (.ret t) ρ=.ok (.rt .fr (.list xs)):=by rw[HS hv,h];rfl
theorem iG (hc:Tt Κ Φ c ρ k)(h1:k=true->aT Κ Φ p ρ=r)(h2:k=false->aT Κ Φ q ρ=r):aT Κ Φ (.ifS c p q) ρ=r:=by
 rw[HE,hc];cases k with
 |true=>exact h1 rfl
 |false=>exact h2 rfl
theorem eY:aT Κ Φ .nil ρ=.ok (.nx ρ):=rfl
theorem NT {y:GD}(h:aU y.2=true):okIn y=true:=by unfold okIn;rw[h];rfl
theorem Xn {i:Nat}{es:bY}{n:Str}(hv:Vv Κ Φ b ρ x)(hk:Ev Κ Φ a ρ (.str n))(hr:ρ[i]?=some (some (.fr,.dict es)))(hl:es.length<bB):aT Κ Φ (.eK i a b) ρ=.ok (.nx ((ρ.set i (some (.fr,.dict (dput es (.str n) x)))).map cZ)):=by
 obtain⟨g1,hk⟩:=hk;rw[WW,hv.1,Res.aC,hk,Res.aC,hr]
 dsimp only
 rw[vg];rw[Nk,NT hv.2,qu,qu];exact vn hl
theorem Xo {i:Nat}{l:P}{n:Str}{v:Int}(hv:Vv Κ Φ b ρ (.int v))(hk:Ev Κ Φ a ρ (.str n))(hr:ρ[i]?=some (some (.fr,.dict (en l))))(nd:(ks l).Nodup)(hl:l.length<64):aT Κ Φ (.eK i a b) ρ=.ok (.nx ((ρ.set i (some (.fr,.dict (en (put l n v))))).map cZ)):=by rw[Xn hv hk hr (by rw[Nq];unfold bB;omega),Nn nd]
theorem Dm (hv:Vv Κ Φ a ρ x)(hr:ρ[i]?=some (some (.fr,.list xs)))(hl:xs.length<1000):aT Κ Φ (.mut "append" i (.cons a .nil)) ρ=.ok (.nx ((ρ.set i (some (.fr,.list (xs++[x])))).map cZ)):=by
 rw[WX,De,hv.1,Res.aC,WZ,Res.aC,Res.aC,hr]
 dsimp only
 have:oF "append" xs [(.fr,x)]=.ok (xs++[x]):=by show(if(okIn (G.fr,x)&&decide (xs.length<bB))=true then _ else _)=_;rw[vg];rw[NT hv.2];refine vn ?_;unfold bB;omega
 rw[this];rfl
theorem Xp (h:ρ[i]?=some (some (g,d)))(hg:g≠.fr)(hi:aU d=true)(hw:z4x d=.ok xs):evF Κ Φ (.tv (.var i)) ρ=.ok (.fr,xs,ρ):=by
 have e3:lM ρ i=false:=by
  unfold lM;rw[h];cases g with
  |fr=>exact absurd rfl hg
  |od=>rfl
  |al=>rfl
  |nu=>rfl
 rw[NC,e3];unfold lN tE;rw[cI ((v_var h hi).1) hw];rfl
theorem Be (h:ρ[i]?=some (some (.od,d)))(hi:aU d=false)(hw:z4x d=.ok xs):evF Κ Φ (.tv (.var i)) ρ=.ok (.od,xs,ρ):=by
 have e1:aG Κ Φ (.var i) ρ=.ok (.od,d):=by rw[iF];rw[h];show Res.ok (if aU d=true then _ else _,d)=_;rw[hi];rfl
 have e3:lM ρ i=false:=by unfold lM;rw[h]
 rw[NC,e3];unfold lN tE;rw[cI e1 hw];rfl
theorem HU (h:Aa Κ Φ args ρ ds)(hw:lK ds=.ok xs):evF Κ Φ (.fM args) ρ=.ok (.fr,xs,ρ):=by show tE Κ Φ (.fM args) ρ=_;unfold tE;rw[Dl h hw];rfl
theorem CW (ha:Ev Κ Φ a ρ x)(hx:seqR x=.ok xs):evW Κ Φ (.enum a) ρ=.ok (.al,z1z 0 xs):=by obtain⟨g,ha⟩:=ha;show(aG Κ Φ a ρ>>=λx=>seqR x.2>>=λxs=>Res.ok (G.al,z1z 0 xs))=_;rw[ha,Res.aC];rw[hx];rfl
theorem HV {x:GD}(ha:aG Κ Φ a ρ=.ok x)(ca:Cp x=true)(hx:seqR x.2=.ok xs):evF Κ Φ (.enum a) ρ=.ok (.al,z1z 0 xs,ρ):=by
 have e:dP Κ Φ (.cons a .nil) ρ=.ok [x]:=by rw[De,ha];rfl
 show(dP Κ Φ (.cons a .nil) ρ>>=λys=>qN ys ρ)=_;rw[e,Res.aC];unfold qN
 dsimp only
 rw[ca,hx];rfl
theorem NU (hl:xs.length<=1000):seqR (.list xs)=.ok xs:=by show(if decide (xs.length<=bB)=true then Res.ok xs else .no)=_;rw[vn (show xs.length<=bB by unfold bB;omega)];rfl
theorem Xq {xs:List D}(hl:xs.length<=1000):seqR (.tuple xs)=.ok xs:=by show(if decide (xs.length<=bB)=true then Res.ok xs else .no)=_;rw[vn (show xs.length<=bB by unfold bB;omega)];rfl
theorem HW (h:imms xs=true)(hl:xs.length<=1000):seqR (.list xs)=.ok xs:=NU hl
theorem yx {β:Type}(m:β->D):∀(k:Nat) (xs:List β),z1z k (xs.map m)=(xs.zipIdx k).map λp=>.tuple [.int p.2,m p.1]
 |_,[]=>rfl
 |k,x::xs=>by rw[bh,z1z,yx m (k+1) xs];rfl
theorem wM (hx:aU x=true)(hy:aU y=true):eE (.tp [i,j]) (gJ (.tuple [x,y]) g,.tuple [x,y]) ρ=.ok ((ρ.set i (some (.al,x))).set j (some (.al,y))):=by show Res.iZ (some ((ρ.set i (some (z2d (gJ x _,x)))).set j (some (z2d (gJ y _,y)))))=_;rw[mX hx,mX hy];rfl
theorem Dp (h:evF Κ Φ it ρ=.ok w)(k:dE (λx ρ1=>eE t' (gJ x w.1,x) ρ1>>=λcF=>aT Κ Φ p cF) w.2.1 w.2.2=r):aT Κ Φ (.bD t' it p) ρ=r:=by rw[WY,h];exact k
theorem zkt {α β:Type}{t':Tg}{it:C}{p rest:S}{r:Res Out}{m:β->D}{xs:List β}{ρ1:Rho}(h:evF Κ Φ it ρ=.ok (g,xs.map m,ρ1))(I:α->Rho->Prop)(step:α->β->α)(a0:α)(h0:I a0 ρ1)
  (hf:∀a x ρ,x∈xs->I a ρ->∃aQ,(eE t' (gJ (m x) g,m x) ρ>>=λcF=>aT Κ Φ p cF)=.ok (.nx aQ)/\I (step a x) aQ) (hk:∀aQ,I (xs.foldl step a0) aQ->aT Κ Φ rest aQ=r):aT Κ Φ (.seq (.bD t' it p) rest) ρ=r:=by
 obtain⟨aQ,e,i⟩:=ND (f:=λx ρ1=>eE t' (gJ x g,x) ρ1>>=λcF=>aT Κ Φ p cF) I step xs a0 ρ1 hf h0;exact bU (Dp h e) (hk aQ i)
theorem HX (hc:Tt Κ Φ c ρ k)(hk:k=true)(h:aT Κ Φ p ρ=.ok (.rt g d)):aT Κ Φ (.seq (.ifS c p q) rest) ρ=.ok (.rt g d):=bQ (iG hc (λ_=>h) λz=>by rw[hk]at z;cases z)
theorem Dq (hc:Tt Κ Φ c ρ k)(hk:k=false)(h:aT Κ Φ rest ρ=r):aT Κ Φ (.seq (.ifS c p .nil) rest) ρ=r:=bU (iG hc (λz=>by rw[hk]at z;cases z) λ_=>eY) h
theorem z90 (h:ρ[i]?=some (some (.fr,.list xs))):aT Κ Φ (.ret (.var i)) ρ=.ok (.rt .fr (.list xs)):=by rw[NA,h];rfl
theorem kA {Q:Res Out->Prop}(h:aT Κ Φ p ρ=.ok (.nx aQ))(k:Q (aT Κ Φ q aQ)):Q (aT Κ Φ (.seq p q) ρ):=by rw[bU h rfl];exact k
theorem zux {Q:Res Out->Prop}{β:Type}{m:β->D}{xs:List β}(h:evF Κ Φ it ρ=.ok (g,xs.map m,ρ1))(I:List β->Rho->Prop)(h0:I [] ρ1)
  (hf:∀pre x post ρ,xs=pre++x::post->I pre ρ->∃aQ,(eE t' (gJ (m x) g,m x) ρ>>=λcF=>aT Κ Φ p cF)=.ok (.nx aQ)/\I (pre++[x]) aQ) (hk:∀aQ,I xs aQ->Q (aT Κ Φ rest aQ)):Q (aT Κ Φ (.seq (.bD t' it p) rest) ρ):=by
 obtain⟨aQ,e,i⟩:=NF (f:=λx ρ1=>eE t' (gJ x g,x) ρ1>>=λcF=>aT Κ Φ p cF) I xs [] ρ1 hf h0;rw[bU (Dp h e) rfl];exact hk aQ i
theorem zhs {Q:Res Out->Prop}{β:Type}{m:β->D}{xs:List β}(h:evF Κ Φ it ρ=.ok (g,xs.map m,ρ1))(I:List β->Rho->Prop)(h0:I [] ρ1)
  (hf:∀pre x post ρ,xs=pre++x::post->I pre ρ->∃cF aQ,eE t' (gJ (m x) g,m x) ρ=.ok cF/\aT Κ Φ p cF=.ok (.nx aQ)/\I (pre++[x]) aQ) (hk:∀aQ,I xs aQ->Q (aT Κ Φ rest aQ)):Q (aT Κ Φ (.seq (.bD t' it p) rest) ρ):=
 zux h I h0 (λpre x post ρ hx hI=>by obtain⟨cF,aQ,h1,h2,h3⟩:=hf pre x post ρ hx hI;exact⟨aQ,by rw[h1,Res.aC,h2],h3⟩) hk
theorem Xr:Vv Κ Φ (.bin .Pow (.int 10) (.int 30)) ρ (.int 1000000000000000000000000000000):=cJ aN.e aN.e W7 rfl
end
end
end Mk
namespace Mi
open PySem PySem.Spec PyProof.Rows L2
section
open PySem.SeqAt
end
open PySem.W
section
open PySem.SeqAt
end
def HY (K:W.Frag)(en:Bool)(R:It->Hp->Prop)(v:V)(H1:Hp):Prop:=∃B d xs,Rep K H1 B v d/\(if en then seqR d else z4x d)=.ok xs/\∀J,Walk K J B H1 (if en then z1z 0 xs else xs)->R J H1
def yy (K:W.Frag)(en:Bool)(t:TE):TI:=λY H R=>t Y H (HY K en R)
section
variable {X:Cx}{a tg:Expr}{t:TE}
theorem Xs (ha:PE X a t):PI X tg a (yy X.K false t):=by intro pins s Y H R I h;exact aO (ha pins s Y H _ I h) λv s1 ⟨y,H1,I1,r1,B,d,xs,rv,e,q⟩=>z37 I1 r1 rv e q
theorem Xu (hm:X.mg "enumerate"=none)(hg:Gl X "enumerate")(hs:isStar a=false)(ha:PE X a t):PI X (.Tuple elts x1 tp) (.Call (.Name "enumerate" p) [a] [] pos) (yy X.K true t):=by
 intro pins s Y H R I h;refine Call_ (z38 I hg hm GY (PyProof.Rows.callWith_type1 (aO (fQ ha pF hs pos pins s Y H (λvs H1=>match vs with| [v]=>HY X.K true R v H1|_=>False) I h) λus s1 ⟨vs,H1,I1,r1,z⟩=>?_) (jQ hs) rfl));rcases vs with _|⟨v,_|⟨w,vs⟩⟩
 ·exact z.elim
 ·obtain⟨u,rfl,ru⟩:=vals1 r1;obtain⟨B,d,xs,rv,e,q⟩:=z;exact z4t I1 ru rv e q
 ·exact z.elim
end
def rU (K:W.Frag):R2:=λx y H Q=>∃a b k va vb da db B,x=.ref a/\y=.ref b/\H a=some (.dK [(k,va)])/\H b=some (.dK [(k,vb)])/\Rep K H B va da/\Rep K H B vb db/\aP 39 da=true/\aP 39 db=true/\Q (.bl (!cQ da db)) H
theorem NV {k:Key}{v:V}{vs:List (Key×Value)}(h:KV [(k,v)] vs):∃u,vs=[(k,u)]/\RelV v u:=by
 cases h with
 |cons h t=>cases t;rename_i q;obtain⟨k',u⟩:=q;obtain⟨e,r⟩:=h;cases e;exact⟨u,rfl,r⟩
theorem Xv {X:Cx}(hu:X.A.units+64<cLine):OpR X (c0 .NotEq) (rU X.K):=λpins s Y H x y v u Q I rx ry h=>by
 obtain⟨a,b,k,va,vb,da,db,B,rfl,rfl,ea,eb,ra,rb,sa,sb,q⟩:=h;cases rx;cases ry;obtain⟨_,ha,vs,kv,dd⟩:=z8j I.hok ea;obtain⟨_,hb,eW,Xw,hW⟩:=z8j I.hok eb;obtain⟨u1,rfl,r1⟩:=NV kv;obtain⟨u2,rfl,r2⟩:=NV Xw;obtain⟨⟨as,k1⟩,c1,p1⟩:=Rep.reads I da 39 sa ra r1;obtain⟨⟨bs,k2⟩,c2,p2⟩:=Rep.reads I db 39 sb rb r2;have hv:PySem.valueAt [(k,u2)] k=some u2:=by show(([(k,u2)]:List (Key×Value)).find? λkv=>kv.1=k).map (·.2)=_;rw[ow (by simp)];rfl
 refine W.keq_ne ha hb dd hW (by omega) (λ_=>.hit hv (SeqAt.eqAt_reads _ _ _ _ _ _ _ _ k1 k2 c1 c2 (by show X.A.units+1+_<_;omega)) .nil) ?_;refine⟨.bl (!cQ da db),H,I,?_,q⟩;show Value.bool _=Value.bool _;rw[show(([(k,u1)]:List (Key×Value)).length==([(k,u2)]:List (Key×Value)).length)=true from rfl,qu,Bool.and_true]
inductive W where
 |bV (c:C)|raw (i:Nat)|bin (op:oa) (a b:W)|cmp (op:CmpOp) (a b:W)|jA (ng:Bool) (a:W)|and (a b:W)|tup (xs:W)|lst (xs:W)|fI|ix (a b:W)|pR (j:Nat) (as:W)|tp (c:C)|tc (op:CmpOp) (a b:W)|ti (ng:Bool) (a:W)|yA (a b:W)|not (a:W)|wN (a b:W)|gi (j:Nat)|mY (a b:W)|Bf (a:W)|lc (nt:Nat) (js:List Nat) (N':List Str) (t:Tg) (en:Bool) (it c e:W)|yB (p:Str) (a:W)|nil|cons (a r:W)
 deriving Inhabited
structure Wc where
 K:W.Frag
 mg:Str->Option Value
 Κ:List D
 Φ:List Fn
 E:XK
 fn:List Sp
 me:List (Addr×Str×Sp)
 cl:List (Addr×Sp)
 xf:Option V:=none
 gi:List Int:=[]
 hf:List (Addr×Sp):=[]
 md:List (Addr×Str×Sp):=[]
 mq:List (Addr×Str×Sp):=[]
structure Gw where
 g:Gm
 fn:List (Str×Nat)
 me:List (Str×Nat)
 cl:List (Str×Nat)
 xf:Option Str:=none
 gi:List Str:=[]
 fld:List (Str×Str):=[]
 hf:List (Str×Nat):=[]
 md:List (Str×Nat):=[]
 mq:List (Str×Str):=[]
def NW {α:Type}(us:List α):List α->List α
 | [w]=>us++[w]
 |_=>[]
def wO:TE:=λ_ _ _=>False
mutual
def wE:Wc->W->TE
 |Z,.bV c=>tD Z.K (aG Z.Κ Z.Φ c)
 |Z,.raw i=>y9 i
 |Z,.bin op a b=>iO (we Z.K (dD op)) (wE Z a) (wE Z b)
 |Z,.cmp op a b=>iO (qV Z.K (mB (cmpD op))) (wE Z a) (wE Z b)
 |Z,.jA ng a=>if ng then BY (wE Z a)else pZ (wE Z a)
 |Z,.and a b=>Kk (wE Z a) (wE Z b)
 |Z,.tup xs=>zl (wA Z xs)
 |Z,.lst xs=>zm (wA Z xs)
 |Z,.fI=>KP
 |Z,.ix a b=>iO (oJ Z.K) (wE Z a) (wE Z b)
 |Z,.pR j as=>match Z.fn[j]? with|some sp=>xX sp [] Z.E (wA Z as)|none=>wO
 |Z,.gi j=>match Z.gi[j]? with|some n=>λ_ H Q=>Q (.int n) H|none=>wO
 |Z,.mY a b=>iO (vH Z.K) (wE Z a) (wE Z b)
 |Z,.yB p a=>Ca [(tD Z.K (aG Z.Κ Z.Φ (.str p)),wE Z a)]
 |Z,.Bf a=>vE (rAgg Z.K "list") (vB (wE Z a) kZ)
 |Z,.lc nt js _ t en it c e=>vK (yy Z.K en (wE Z it)) (tDG Z.K t) (wT {Z with E:=λ_ _ _=>False,xf:=none} c) (wE {Z with E:=λ_ _ _=>False,xf:=none} e) (eU nt js)
 |_,_=>wO
def wA:Wc->W->TA
 |Z,.nil=>kZ
 |Z,.cons a r=>vB (wE Z a) (wA Z r)
 |_,_=>λ_ _ _=>False
def wT:Wc->W->TT
 |Z,.tp c=>dZ Z.K (eL Z.Κ Z.Φ c)
 |Z,.tc op a b=>vw (iO (qV Z.K (mB (cmpD op))) (wE Z a) (wE Z b))
 |Z,.ti ng a=>vw (if ng then BY (wE Z a)else pZ (wE Z a))
 |Z,.yA a b=>vw (iO (rU Z.K) (wE Z a) (wE Z b))
 |Z,.not a=>za (wT Z a)
 |Z,.wN a b=>Kh (wT Z a) (wT Z b)
 |_,.nil=>zJ
 |_,_=>λ_ _ _=>False
end
def Dr (Γ:Gw)(scope:Scope)(N':List Str):Gw:={Γ with g:={Γ.g with N:=N',sc:=Cr scope Γ.g.sc,blk:=true,xc:=none,kp:=[]},xf:=none}
def Xx (g:Gm)(x:Str)(o:Option Expr):Bool:=o.any λk=>chkE g (.str x) k
def Xy:W->Bool
 |.nil=>true
 |_=>false
mutual
def bR:Gw->W->Expr->Bool
 |Γ,.bV c,e=>chkE Γ.g c e
 |Γ,.raw i,e=>jC (fT Γ.g i) e
 |Γ,.bin op a b,e=>(qO e).any λv=>decide (v.2.1=op)&&Cw op&&bR Γ a v.1&&bR Γ b v.2.2
 |Γ,.cmp op a b,e=>(oI e).any λv=>decide (v.2.1=[op])&&(bH v.2.2).any λr=>z4y op&& !(dw op r)&&bR Γ a v.1&&bR Γ b r
 |Γ,.jA ng a,e=>(oI e).any λv=>decide (v.2.1=[if ng then .IsNot else .Is])&&(bH v.2.2).any λr=>decide (fU r=some .none)&&bR Γ a v.1
 |Γ,.and a b,e=>(vW e).any λv=>decide (v.1=.And)&&vY (λx=>bR Γ a x) (λx=>bR Γ b x) .And v.2.2 v.2.1
 |Γ,.tup xs,e=>(qP e).any λes=>tV Γ xs es
 |Γ,.lst xs,e=>(qQ e).any λes=>tV Γ xs es
 |Γ,.fI,e=>(Cv e).any λv=>v.1.isEmpty&&v.2.isEmpty
 |Γ,.ix a b,e=>(lO e).any λv=>z3h v.2&&bR Γ a v.1&&bR Γ b v.2
 |Γ,.pR j as,e=>(mR e).any λv=>vV Γ.g v.1&&(Γ.fn[j]?==some (v.1,v.2.length))&&tV Γ as v.2&&(Γ.g.cm&& !v.2.isEmpty)
 |Γ,.gi j,e=>jC (λx=>vV Γ.g x&&(Γ.gi[j]?==some x)) e
 |Γ,.mY a b,e=>(lO e).any λv=>z3h v.2&&bR Γ a v.1&&bR Γ b v.2
 |Γ,.yB p a,e=>(Cv e).any λv=>(bH v.1).any λk=>(bH v.2).any λx=>Xx Γ.g p k&&bR Γ a x
 |Γ,.Bf a,e=>(mR e).any λv=>(v.1==("list":Str))&&dS Γ.g v.1&&(bH v.2).any λy=>!isStar y&&bR Γ a y
 |Γ,.lc nt js N' t en it c x,e=>Γ.g.cm&&(FF e).any λv=>(bH v.2.1).any λg=>((g.is_async==0)&&qF Γ.g.N Γ.g.sc v.2.2 N' nt js&&decide N'.Nodup&&tG g.iter)&&(if en then isTup g.target&&(mR g.iter).any λu=>(u.1==("enumerate":Str))&&dS Γ.g u.1&&(bH u.2).any λy=>!isStar y&&bR Γ it y else bR Γ it g.iter)&&qS (Dr Γ v.2.2 N').g t g.target&&(match g.ifs with| []=>Xy c| [y]=>tW (Dr Γ v.2.2 N') c y|_=>false)&&bR (Dr Γ v.2.2 N') x v.1
 |_,_,_=>false
def tV:Gw->W->List Expr->Bool
 |Γ,.nil,es=>es.isEmpty
 |Γ,.cons a r,es=>match es with|e::es=>!isStar e&&bR Γ a e&&tV Γ r es|_=>false
 |_,_,_=>false
def tW:Gw->W->Expr->Bool
 |Γ,.tp c,e=>eV Γ.g c e
 |Γ,.tc op a b,e=>(oI e).any λv=>decide (v.2.1=[op])&&(bH v.2.2).any λr=>z4y op&& !(dw op r)&&bR Γ a v.1&&bR Γ b r
 |Γ,.ti ng a,e=>(oI e).any λv=>decide (v.2.1=[if ng then .IsNot else .Is])&&(bH v.2.2).any λr=>decide (fU r=some .none)&&bR Γ a v.1
 |Γ,.yA a b,e=>(oI e).any λv=>decide (v.2.1=[.NotEq])&&(bH v.2.2).any λr=>z4y .NotEq&& !(dw .NotEq r)&&bR Γ a v.1&&bR Γ b r
 |Γ,.not a,e=>(Cu e).any λv=>decide (v.1=.Not)&&tW Γ a v.2
 |Γ,.wN a b,e=>(vW e).any λv=>decide (v.1=.Or)&&vY (λx=>tW Γ a x) (λx=>tW Γ b x) .Or v.2.2 v.2.1
 |_,_,_=>false
end
structure Zok (Γ:Gw)(Z:Wc)(CX:CXT)(P:bx)(w:World)(K:W.Frag)(mg:Str->Option Value)(base:Heap)(r:Nat):Prop where
 kk:Z.K=K
 mm:Z.mg=mg
 fn:∀(j:Nat) x n,Γ.fn[j]?=some (x,n)->∃sp f fd ps k,Z.fn[j]?=some sp/\k<=r/\FnOk P w K mg base CX k f fd ps sp/\mg x=some (.ref f)/\W.keepIn K (.ref f)=true/\Binds K fd ps []
 me:∀(j:Nat) m n,Γ.me[j]?=some (m,n)->∃C sp f fd ps k,Z.me[j]?=some (C,m,sp)/\k<=r/\FnOk P w K mg base CX k f fd ps sp/\xV K C/\Meth K C m f/\Binds K fd ps []
 cl:∀(j:Nat) x n,Γ.cl[j]?=some (x,n)->∃C sp f fd ps k,Z.cl[j]?=some (C,sp)/\k+1<=r/\FnOk P w K mg base CX k f fd ps sp/\Mk K C f/\mg x=some (.ref C)/\Binds K fd ps []
 gi:∀(j:Nat) x,Γ.gi[j]?=some x->∃n t,Z.gi[j]?=some n/\mg x=some (.int n t)
 hf:∀(j:Nat) x n,Γ.hf[j]?=some (x,n)->∃sp f fd ps k,Z.hf[j]?=some (f,sp)/\k<=r/\FnOk P w K mg base CX k f fd ps sp/\mg x=some (.ref f)/\W.keepIn K (.ref f)=true/\Binds K fd ps []
 md:∀(j:Nat) m n,Γ.md[j]?=some (m,n)->∃C sp f fd ps k,Z.md[j]?=some (C,m,sp)/\k<=r/\FnOk P w K mg base CX k f fd ps sp/\xV K C/\Meth K C m f/\Binds K fd ps [.none]
 mq:∀(j:Nat) m kn,Γ.mq[j]?=some (m,kn)->∃C sp f fd ps k,Z.mq[j]?=some (C,m,sp)/\k<=r/\FnOk P w K mg base CX k f fd ps sp/\xV K C/\Meth K C m f/\vC K fd ps [kn] NW NW
structure Wok (Γ:Gw)(Z:Wc)(CX:CXT)(X:Cx)(r:Nat):Prop extends Zok Γ Z CX X.prog X.w X.K X.mg X.base r where
 ck:Cok Γ.g Z.Κ Z.Φ X r
 room:Γ.g.cm=true->Room r X.A
 px:z8p CX X Z.E
 xf:∀f,Γ.xf=some f->∃v,Z.xf=some v/\∀n c,Γ.g.xc=some (n,c)->∀p q,z2h (.Name n p)=true->PE X (.Attribute (.Name n p) f q) (λ_ H Q=>Q v H)
 NY:∀outer H s e s',¬CX outer H s (λ_ _ _=>False) e s'
section
variable {Γ:Gw}{Z:Wc}{CX:CXT}{X:Cx}{r:Nat}
structure We (w:W):Prop where
 E:∀(Γ:Gw) (Z:Wc) (CX:CXT) (X:Cx) (r:Nat) (e:Expr),Wok Γ Z CX X r->bR Γ w e=true->PE X e (wE Z w)
 A:∀(Γ:Gw) (Z:Wc) (CX:CXT) (X:Cx) (r:Nat) (es:List Expr),Wok Γ Z CX X r->tV Γ w es=true->PA X es (wA Z w)
 T:∀(Γ:Gw) (Z:Wc) (CX:CXT) (X:Cx) (r:Nat) (e:Expr),Wok Γ Z CX X r->tW Γ w e=true->PT X e (wT Z w)/\((∃o l p,e=.BoolOp o l p)->PW X e (wT Z w))
theorem We.x (h:∀Γ Z CX X r e,Wok Γ Z CX X r->bR Γ w e=true->PE X e (wE Z w))(ha:∀Γ es,tV Γ w es=false)(ht:∀Γ e,tW Γ w e=false):We w where
 E:=h
 A:=λΓ Z CX X r es k z=>ff (ha Γ es) z
 T:=λΓ Z CX X r e k z=>ff (ht Γ e) z
theorem We.t (h:∀Γ Z CX X r e,Wok Γ Z CX X r->tW Γ w e=true->PT X e (wT Z w)/\((∃o l p,e=.BoolOp o l p)->PW X e (wT Z w)))(he:∀Γ e,bR Γ w e=false)(ha:∀Γ es,tV Γ w es=false):We w where
 E:=λΓ Z CX X r e k z=>ff (he Γ e) z
 A:=λΓ Z CX X r es k z=>ff (ha Γ es) z
 T:=h
theorem NZ:∀{w:W} {es:List Expr},tV Γ w es=true->(es.all λe=> !isStar e)=true
 |.nil,es,h=>by cases fO h;rfl
 |.cons a r,[],h=>by cases h
 |.cons a r,e::es,h=>by obtain⟨h1,_,h3⟩:=aY h;rw[cv,h1,NZ h3];rfl
theorem Wok.rm (k:Wok Γ Z CX X r)(hc:Γ.g.cm=true)(h:j<=r):Room j X.A:=(k.room hc).mono h
theorem eqB {α:Type} [BEq α] [LawfulBEq α] {a b:α}(h:(a==b)=true):a=b:=eq_of_beq h
theorem HZ (h:((oI e).any λv=>decide (v.2.1=[op])&&(bH v.2.2).any λr=>z4y op&& !(dw op r)&&bR Γ a v.1&&bR Γ b r)=true):∃l r p,e=.Compare l [op] [r] p/\z4y op=true/\dw op r=false/\bR Γ a l=true/\bR Γ b r=true:=by obtain⟨⟨l,o,rs⟩,hv,h9⟩:=aK h;obtain⟨p,rfl⟩:=rL hv;obtain⟨h1,h2⟩:=aE h9;obtain⟨r,hr,h3⟩:=aK h2;cases vm h1;cases fZ hr;obtain⟨h2,h3,h4,h5⟩:=bK h3;exact⟨l,r,p,rfl,h2,eQ h3,h4,h5⟩
theorem N0 {ng:Bool}(h:((oI e).any λv=>decide (v.2.1=[if ng then .IsNot else .Is])&&(bH v.2.2).any λr=>decide (fU r=some .none)&&bR Γ a v.1)=true):∃l j p2 p,e=.Compare l [if ng then .IsNot else .Is] [.Constant .none j p2] p/\bR Γ a l=true:=by obtain⟨⟨l,o,rs⟩,hv,h9⟩:=aK h;obtain⟨p,rfl⟩:=rL hv;obtain⟨h1,h2⟩:=aE h9;obtain⟨r,hr,h3⟩:=aK h2;cases vm h1;cases fZ hr;obtain⟨h3,h4⟩:=aE h3;obtain⟨j,p2,rfl⟩:=yl (vm h3);exact⟨l,j,p2,p,rfl,h4⟩
theorem Bg {nt:Nat}{js:List Nat}{N':List Str}{t:Tg}{en:Bool}{it c x:W}(ii:We it)(ic:We c)(ie:We x):∀(Γ:Gw) (Z:Wc) (CX:CXT) (X:Cx) (r:Nat) (e:Expr),Wok Γ Z CX X r->bR Γ (.lc nt js N' t en it c x) e=true->PE X e (wE Z (.lc nt js N' t en it c x))/\∀{y:Str} {py jP:Pos} {i:Nat},X.N.Nodup->X.N[i]?=some y->Loc X.env.scope y->Sto X y->PS X (.Assign [.Name y py] e jP) (iL (wE Z (.lc nt js N' t en it c x)) (pE i)):=by
 intro Γ Z CX X r e k h;obtain⟨eA,h⟩:=aE h;obtain⟨⟨el,gs,scope⟩,hv,h9⟩:=aK h;obtain⟨pos,rfl⟩:=AV hv;obtain⟨⟨tg,iter,ifs,ka⟩,hg,h9⟩:=aK h9;cases fZ hg;obtain⟨h0,h6,h7,h8,h9⟩:=fY h9;obtain⟨h1,h3,h5,h4⟩:=bK h0;cases vp h1;have hB:BlkScope X scope N' nt js:=Lc k.ck.hN k.ck.hs h3;have kb:=λC fp s H=>k.ck.blk (N':=N') hB.kind (vm h5) C fp s H;have wb:∀C fp s H,Wok (Dr Γ scope N') {Z with E:=λ_ _ _=>False,xf:=none} CX (blk X scope N' C fp s H) r:=λC fp s H=>⟨⟨k.kk,k.mm,k.fn,k.me,k.cl,k.gi,k.hf,k.md,k.mq⟩,kb C fp s H,k.room,λpins Y H s e s' I z=>(k.NY _ _ _ _ _ z).elim,λf z=>(by cases z),k.NY⟩
 have hi:PI X tg iter (yy X.K en (wE Z it)):=by
  cases en with
  |false=>exact Xs (ii.E Γ Z CX X r _ k h6)
  |true=>obtain⟨t1,h6⟩:=aE h6;obtain⟨⟨f,es⟩,hf,h6⟩:=aK h6;obtain⟨_,_,rfl⟩:=mW hf;obtain⟨u1,u2,u3⟩:=aY h6;obtain⟨y,hy,u5⟩:=aK u3;cases fZ hy;obtain⟨u6,u4⟩:=aE u5;have u1:f=("enumerate":Str):=eqB u1;subst u1;obtain⟨_,_,_,rfl⟩:=He t1;obtain⟨g1,g2,g3,g4⟩:=k.ck.blt u2;exact Xu g2 g1 (eQ u6) (ii.E Γ Z CX X r _ k u4)
 have ht:∀C fp s H,qG (blk X scope N' C fp s H) ifs (wT {Z with E:=λ_ _ _=>False,xf:=none} c):=λC fp s H=>by
  rcases ifs with _|⟨y,_|⟨z,l⟩⟩
  ·have :c=.nil:=by cases c<;>first|rfl|cases h8
   subst this;exact Lf
  ·exact Lg (ic.T _ _ CX _ r _ (wb C fp s H) h8).1
  ·cases h8
 have N1:∀C fp s H,PG (blk X scope N' C fp s H) tg (tDG X.K t):=λC fp s H=>yn (kb C fp s H) h7;have he:∀C fp s H,PE (blk X scope N' C fp s H) el (wE {Z with E:=λ_ _ _=>False,xf:=none} x):=λC fp s H=>ie.E _ _ CX _ r _ (wb C fp s H) h9;have hh:=z9p (pos:=pos) (k.ck.calm eA) hB hi N1 ht he (wI h4 _);show PE X _ (vK (yy Z.K en _) (tDG Z.K t) _ _ (eU nt js))/\∀{y:Str} {py jP:Pos} {i:Nat},X.N.Nodup->X.N[i]?=some y->Loc X.env.scope y->Sto X y->PS X _ (iL (vK (yy Z.K en _) (tDG Z.K t) _ _ (eU nt js)) (pE i));rw[<-k.kk]at hh;refine⟨hh,λ{y py jP i} nd l1 l2 l3=>?_⟩;cases hb:(X.env.blockKind==.function&&X.env.kindOf y==some .local&&py.line==pos.line&& !(scope.names.any λ(n,k)=>n==y&&(k==.local||k==.cell)))with
 |false=>exact z8s nd l1 l2 hh (by rw[yp,hb]) l3
 |true=>
  have hl:X.env.scope.names.lookup y=some .local:=by simp only[br,beq_iff_eq]at hb;exact hb.1.1.2
  have:=z5t (jP:=jP) (py:=py) (pos:=pos) (k.ck.calm eA) nd l1 hl l3.2 hB hi N1 ht he (by rw[yp,hb]) (wI h4 _);rw[<-k.kk]at this;exact this
theorem dO (w:W):We w:=by
 induction w with
 |bV c=>exact We.x (λΓ Z CX X r e k h=>by show PE X e (tD Z.K (aG Z.Κ Z.Φ c));rw[k.kk];exact(all c).E Γ.g X r e k.ck h) (λ_ _=>rfl) λ_ _=>rfl
 |raw i=>exact We.x (λΓ Z CX X r e k h=>by obtain⟨x,p,rfl,h⟩:=iD h;obtain⟨h1,h2,h3,h4⟩:=k.ck.aM h;exact sS h1 h2 h3 h4) (λ_ _=>rfl) λ_ _=>rfl
 |bin op a b ia ib=>exact We.x (λΓ Z CX X r e k h=>by obtain⟨v,hv,h9⟩:=aK h;obtain⟨p,rfl⟩:=G3 hv;obtain⟨h1,h2,h3,h4⟩:=bK h9;cases vm h1;show PE X _ (iO (we Z.K (dD _)) _ _);rw[k.kk];exact EB (Lo _ h2) (ia.E Γ Z CX X r _ k h3) (ib.E Γ Z CX X r _ k h4)) (λ_ _=>rfl) λ_ _=>rfl
 |cmp op a b ia ib=>exact We.x (λΓ Z CX X r e k h=>by obtain⟨_,_,_,rfl,h2,h3,h4,h5⟩:=HZ h;show PE X _ (iO (qV Z.K (mB (cmpD _))) _ _);rw[k.kk];exact Kw (CC k.ck.hu _ h2) (ia.E Γ Z CX X r _ k h4) (ib.E Γ Z CX X r _ k h5) h3) (λ_ _=>rfl) λ_ _=>rfl
 |jA ng a ia=>exact We.x (λΓ Z CX X r e k h=>by
  obtain⟨_,_,_,_,rfl,h2⟩:=N0 h;have ha:=ia.E Γ Z CX X r _ k h2;cases ng with
  |true=>exact B2 (B1 ha)
  |false=>exact B2 (BZ ha)) (λ_ _=>rfl) λ_ _=>rfl
 |and a b ia ib=>exact We.x (λΓ Z CX X r e k h=>by
  obtain⟨⟨o,xs,p⟩,hv,h9⟩:=aK h;cases lW hv;obtain⟨h1,h2⟩:=aE h9;cases vm h1;rcases yo h2 with⟨x,y,rfl,h3,h4⟩|⟨x,y,z,t,rfl,h3,h4⟩
  ·exact Ep (ia.E Γ Z CX X r _ k h3) (Eo (ib.E Γ Z CX X r _ k h4))
  ·exact Ep (ia.E Γ Z CX X r _ k h3) (ib.E Γ Z CX X r _ k h4)) (λ_ _=>rfl) λ_ _=>rfl
 |tup xs ia=>exact We.x (λΓ Z CX X r e k h=>by obtain⟨v,hv,h9⟩:=aK h;obtain⟨_,_,rfl⟩:=C5 hv;exact KA (ia.A Γ Z CX X r _ k h9)) (λ_ _=>rfl) λ_ _=>rfl
 |lst xs ia=>exact We.x (λΓ Z CX X r e k h=>by obtain⟨v,hv,h9⟩:=aK h;obtain⟨_,rfl⟩:=G4 hv;exact EG (ia.A Γ Z CX X r _ k h9)) (λ_ _=>rfl) λ_ _=>rfl
 |fI=>exact We.x (λΓ Z CX X r e k h=>by obtain⟨⟨a,b⟩,hv,h9⟩:=aK h;obtain⟨_,rfl⟩:=wG hv;obtain⟨h1,h2⟩:=aE h9;cases fO h1;cases fO h2;exact KQ) (λ_ _=>rfl) λ_ _=>rfl
 |ix a b ia ib=>exact We.x (λΓ Z CX X r e k h=>by obtain⟨v,hv,h9⟩:=aK h;obtain⟨_,rfl⟩:=AR hv;obtain⟨h1,h2,h3⟩:=aY h9;show PE X _ (iO (oJ Z.K) _ _);rw[k.kk];exact EN (LB k.ck.hu) (ia.E Γ Z CX X r _ k h2) (ib.E Γ Z CX X r _ k h3) (F3 h1)) (λ_ _=>rfl) λ_ _=>rfl
 |pR j as ia=>exact We.x (λΓ Z CX X r e k h=>by
  obtain⟨⟨x,es⟩,hv,h9⟩:=aK h;obtain⟨_,_,rfl⟩:=mW hv;obtain⟨h1,h2,h3,h4⟩:=bK h9;obtain⟨eA,h4⟩:=aE h4;obtain⟨y,es,rfl⟩:=AO h4;obtain⟨g1,g2⟩:=k.ck.gl h1;obtain⟨sp,f,fd,ps,n,c1,c2,c3,c4,c5,c6⟩:=k.fn j _ _ (eqB h2);obtain⟨s1,s2⟩:=cv.symm.trans (NZ h3) |> av.mp;have ee:wE Z (.pR j as)=xX sp [] Z.E (wA Z as):=by show(match Z.fn[j]? with|some sp=>xX sp [] Z.E (wA Z as)|none=>wO)=_;rw[c1]
  rw[ee];exact zdw c3 (k.rm eA c2) g1 c4 c5 c6 .nil k.px (ia.A Γ Z CX X r _ k h3) g2 (jQ (eQ s1)) (qH s2)) (λ_ _=>rfl) λ_ _=>rfl
 |tp c=>exact We.t (λΓ Z CX X r e k h=>by show PT X e (dZ Z.K (eL Z.Κ Z.Φ c))/\(_->PW X e (dZ Z.K (eL Z.Κ Z.Φ c)));rw[k.kk];exact(all c).T Γ.g X r e k.ck h) (λ_ _=>rfl) λ_ _=>rfl
 |tc op a b ia ib=>exact We.t (λΓ Z CX X r e k h=>by obtain⟨_,_,_,rfl,h2,h3,h4,h5⟩:=HZ h;refine⟨?_,λ⟨_,_,_,z⟩=>by cases z⟩;show PT X _ (vw (iO (qV Z.K (mB (cmpD _))) _ _));rw[k.kk];exact ED (CC k.ck.hu _ h2) (ia.E Γ Z CX X r _ k h4) (ib.E Γ Z CX X r _ k h5) h3) (λ_ _=>rfl) λ_ _=>rfl
 |ti ng a ia=>exact We.t (λΓ Z CX X r e k h=>by
  obtain⟨_,_,_,_,rfl,h2⟩:=N0 h;have ha:=ia.E Γ Z CX X r _ k h2;refine⟨?_,λ⟨_,_,_,z⟩=>by cases z⟩;cases ng with
  |true=>exact B3 (B1 ha)
  |false=>exact B3 (BZ ha)) (λ_ _=>rfl) λ_ _=>rfl
 |yA a b ia ib=>exact We.t (λΓ Z CX X r e k h=>by obtain⟨_,_,_,rfl,h2,h3,h4,h5⟩:=HZ h;refine⟨?_,λ⟨_,_,_,z⟩=>by cases z⟩;show PT X _ (vw (iO (rU Z.K) _ _));rw[k.kk];exact ED (Xv k.ck.hu) (ia.E Γ Z CX X r _ k h4) (ib.E Γ Z CX X r _ k h5) h3) (λ_ _=>rfl) λ_ _=>rfl
 |not a ia=>exact We.t (λΓ Z CX X r e k h=>by obtain⟨⟨o,x⟩,hv,h9⟩:=aK h;obtain⟨p,rfl⟩:=wF hv;obtain⟨h1,h2⟩:=aE h9;cases vm h1;exact⟨Kj (ia.T Γ Z CX X r _ k h2).1,λ⟨_,_,_,z⟩=>by cases z⟩) (λ_ _=>rfl) λ_ _=>rfl
 |wN a b ia ib=>exact We.t (λΓ Z CX X r e k h=>by
  obtain⟨⟨o,xs,p⟩,hv,h9⟩:=aK h;cases lW hv;obtain⟨h1,h2⟩:=aE h9;cases vm h1;rcases yo h2 with⟨x,y,rfl,h3,h4⟩|⟨x,y,z,t,rfl,h3,h4⟩
  ·have w:=Em (pos:=p) (ia.T Γ Z CX X r _ k h3).1 (Ki (ib.T Γ Z CX X r _ k h4).1);exact⟨w.pt,λ_=>w⟩
  ·have w:=Em (pos:=p) (ia.T Γ Z CX X r _ k h3).1 ((ib.T Γ Z CX X r _ k h4).2 ⟨_,_,_,rfl⟩);exact⟨w.pt,λ_=>w⟩) (λ_ _=>rfl) λ_ _=>rfl
 |gi j=>exact We.x (λΓ Z CX X r e k h=>by
  obtain⟨x,p,rfl,h1⟩:=iD h;obtain⟨h2,h3⟩:=aE h1;obtain⟨g1,g2⟩:=k.ck.gl h2;obtain⟨n,t,e1,e2⟩:=k.gi j x (eqB h3);have ee:wE Z (.gi j)=λ_ H Q=>Q (.int n) H:=by show(match Z.gi[j]? with|some n=>(λ_ H Q=>Q (.int n) H:TE)|none=>wO)=_;rw[e1]
  rw[ee];exact λpins s Y H Q I h=>z82 I g1 e2 ⟨.int n,H,I,⟨t,rfl⟩,h⟩ g2) (λ_ _=>rfl) λ_ _=>rfl
 |mY a b ia ib=>exact We.x (λΓ Z CX X r e k h=>by obtain⟨v,hv,h9⟩:=aK h;obtain⟨_,rfl⟩:=AR hv;obtain⟨h1,h2,h3⟩:=aY h9;show PE X _ (iO (vH Z.K) _ _);rw[k.kk];exact EN K3 (ia.E Γ Z CX X r _ k h2) (ib.E Γ Z CX X r _ k h3) (F3 h1)) (λ_ _=>rfl) λ_ _=>rfl
 |yB p a ia=>exact We.x (λΓ Z CX X r e k h=>by
  obtain⟨⟨ks,vs⟩,hv,h9⟩:=aK h;obtain⟨_,rfl⟩:=wG hv;obtain⟨k1,hk,h9⟩:=aK h9;obtain⟨v1,hx,h9⟩:=aK h9;cases fZ hk;cases fZ hx;obtain⟨g1,h1⟩:=aE h9;obtain⟨y1,e1,g1⟩:=aK g1;cases e1;have ky:PE X y1 (tD Z.K (aG Z.Κ Z.Φ (.str p))):=by rw[k.kk];exact(all (.str p)).E Γ.g X r y1 k.ck g1
  exact zlm (zhl ky (ia.E Γ Z CX X r _ k h1) Rl) rfl rfl (by simp) (by show 1<=15;decide)) (λ_ _=>rfl) λ_ _=>rfl
 |Bf a ia=>exact We.x (λΓ Z CX X r e k h=>by obtain⟨⟨x,es⟩,hv,h9⟩:=aK h;obtain⟨_,_,rfl⟩:=mW hv;obtain⟨h1,h2,h3⟩:=aY h9;obtain⟨y,hy,h4⟩:=aK h3;cases fZ hy;obtain⟨h4,h5⟩:=aE h4;have h1:x=("list":Str):=eqB h1;subst h1;obtain⟨g1,g2,g3,g4⟩:=k.ck.blt h2;show PE X _ (vE (rAgg Z.K "list") _);rw[k.kk];exact Fi LV g2 (show dg "list"=_ by decide+kernel) (fQ (ia.E Γ Z CX X r _ k h5) pF (eQ h4)) (by rw[cv,h4];rfl) g1 g4 g3) (λ_ _=>rfl) λ_ _=>rfl
 |lc nt js N' t en it c x ii ic ie=>exact We.x (λΓ Z CX X r e k h=>(Bg ii ic ie Γ Z CX X r e k h).1) (λ_ _=>rfl) λ_ _=>rfl
 |nil=>exact⟨λ_ _ _ _ _ _ _ h=>ff rfl h,λΓ Z CX X r es k h=>by cases fO h;exact pF,λ_ _ _ _ _ _ _ h=>ff rfl h⟩
 |cons a q ia iq=>exact⟨λ_ _ _ _ _ _ _ h=>ff rfl h,λΓ Z CX X r es k h=>by
  cases es with
  |nil=>cases h
  |cons e es=>obtain⟨h1,h2,h3⟩:=aY h;exact fQ (ia.E Γ Z CX X r _ k h2) (iq.A Γ Z CX X r _ k h3) (eQ h1),λ_ _ _ _ _ _ _ h=>ff rfl h⟩
end
theorem Ia (outer:List Env)(H:Hp)(s:af)(e:Value)(s':af):¬CXE P w base outer H s (λ_ _ _=>False) e s':=λz=>by obtain⟨_,_,_,_,_,_,z⟩:=z;exact z
def tX (X:Cx)(pn:List (Addr×Obj))(E:Value->af->Prop):Cx:={X with pn:=pn,xe:=E}
section
variable {X:Cx}{pins nJ:List (Addr×Obj)}{Y:L2.St}{H:Hp}{s:af}{E:Value->af->Prop}{pn:List (Addr×Obj)}
theorem Xz (ok:X.Ok):(tX X pn E).Ok:=⟨ok.mod,ok.kind,ok.glob,ok.blt,ok.above,ok.inj,ok.has,ok.sQ,ok.hd,ok.frames,ok.uV,ok.uW,ok.bs,ok.kW,ok.iI,ok.iJ,ok.cV,ok.pX,ok.BW⟩
theorem XB (k:Cok Γ Κ Φ X r)(hx:Γ.xc=none)(pn:List (Addr×Obj))(E:Value->af->Prop):Cok Γ Κ Φ (tX X pn E) r:=⟨k.hN,k.hs,k.nd,k.fn,k.kind,k.free,k.fns,k.cst,k.pP,k.room,k.calm,k.hu,k.oS,k.ym,λn c z=>(by rw[hx]at z;cases z),k.xk⟩
end
section
open Builtin
open Builtin.ObjectAttr
structure XF (K:W.Frag)(C:Addr)(f:Str):Prop where
 ex:gD K C=true
 hd:∀dd cd sl,K.lookup C=some ⟨.type "type",dd,.cls cd,sl⟩->cd.hasDict=true
 sa:W.findIn K (.ref C) "__setattr__"=some (some (.builtin "object.__setattr__"))
 nf:W.findIn K (.ref C) f=some none
 ga:W.findIn K (.ref C) "__getattribute__"=some (some (.builtin "BaseException.__getattribute__"))
 gt:W.findIn K (.ref C) "__getattr__"=some none
 ob:W.subIn K (.ref C) (.type "object")=some true
 be:W.subIn K (.ref C) (.type "BaseException")=some true
theorem N2:∀{l:List Value},uq h rG l->refuseLoop self what rG=pure ()->refuseLoop self what l=pure ()
 |_,.base,e=>e
 |_,.own _ _ _ T,e=>by rw[refuseLoop_ref];exact N2 T e
section
variable {prog:bx}{w:World}{A:d7}{E:Value->af->Prop}{K:W.Frag}{h:Heap}{g:Array pq}{d:Drawn}{t:Nat}{os:mo}{C a:Addr}{ob:Obj}{vs:Array Value}{f:Str}{u:Value}
def N3 (h:Heap)(a:Addr)(ob:Obj)(f:Str)(u:Value)(h':Heap):Prop:=∃dp,h.get? dp=none/\dp≠a/\h.objs.size<=dp/\h'.get? a=some {ob with dict:=some dp}/\h'.Ns1 dp (λy=>if y=f then some u else none)/\∀b o,b≠a->h.get? b=some o->h'.get? b=some o
theorem zgd (X:K.In h)(x:XF K C f)(ge:h.get? a=some ob)(hc:ob.cls=.ref C)(hd:ob.dict=none)(da:ob.data=.fields vs)
  (go:∀h' yC,N3 h a ob f u h'->Q (.done (.ret .none)) ⟨h',g,d,yC,os⟩):
  wpAny (model prog w) A (Builtin.«object.__setattr__» ⟨[.ref a,.str f tk,u],[]⟩) Q E ⟨h,g,d,t,os⟩:=by
 obtain⟨bm,⟨N,nm,q,bs,gW,sn,sub,ab,col,dd,k0,k1,k2,k3,k5,mN,oC,hN,T⟩,_⟩:=XC.mk X x.ex;have XE:gW=true:=by obtain⟨hW,cd,C1,y0,y1,y2,y3,y5,ho,_⟩:=yj x.ex;have e1:=x.hd _ _ _ ho;have e2:=X _ _ ho;rw[oC]at e2;cases e2;exact e1
 have Bh:=N2 (self:=.ref a) (what:="__setattr__") T (by kernel_rfl);have l0:=W.looks_findIn (M:=model prog w) X x.nf
 repeat (first|rw[refuse_eq]|(rw[refuseLoop_ref,Bh])|(with_reducible refine dj ge ?_;rw[hc])|with_reducible refine wpAny_mroOf_exc oC ?_|with_reducible refine l0.at ?_|wp_step)
 rw[hd,vh (by simp[typeHasDict]),da];have g1:(h.push {cls:=.type "dict",data:=.dict #[]}).get? a=some ob:=ah _ ge;have na:=cw (bt ge);refine ae (wpAny_alloc' (ae (wpAny_update' g1 (bq ?_))));generalize hh:((h.push {cls:=.type "dict",data:=.dict #[]}).update a λo=>{cls:=o.cls,dict:=some h.objs.size,data:=o.data,slots:=o.slots})=h2;have gd:h2.get? h.objs.size=some {cls:=.type "dict",data:=.dict #[]}:=by rw[<-hh];exact(jv _ _ _ _ (Ne.symm na)).trans (Heap.get?_push_at rfl rfl)
 have ga:h2.get? a=some {ob with dict:=some h.objs.size}:=by rw[<-hh];refine gw _ g1 ?_;have fr:=(Heap.get?_some_iff.mp ge).2;obtain⟨oc,od,XG,osl⟩:=ob;cases XG<;>first|rfl|exact fr
 have keep:∀b o,b≠a->h.get? b=some o->h2.get? b=some o:=λb o n e=>by rw[<-hh];exact(jv _ _ _ _ n).trans (ah _ e)
 have nd:h2.Ns h.objs.size (λ_=>none):=⟨_,#[],_,gd,rfl,λe z=>absurd z (by simp),λ_=>rfl⟩
 delta storeInDict newKeyGuard
 refine ae (bq (ae (wpAny_nsSet1 (sw nd) λh' n1 sb=>?_)));obtain⟨oD,esD,epD,mV,XH,XJ⟩:=n1.count (Within.cons f u Within.nil);have short:[f].length<=bc+1:=by rw[df];exact(by decide:1<=16777216+1)
 have XM:=cg XJ short;refine ae (wpAny_lookBehind mV (XH▸pastItsLine_dict XM) ?_)
 wp_walk
 refine go h' _ ⟨h.objs.size,lr (ag _),Ne.symm na,ag _,(sb.2 a na).trans ga,n1,λb o n e=>(sb.2 b (cw (bt e))).trans (keep b o n e)⟩
theorem zge {M:Model}{nameV:Value}{Q:Unit->af->Prop}(X:K.In h)(x:XF K C f)(ge:h.get? a=some ob)(hc:ob.cls=.ref C)(hq:Q () ⟨h,g,d,t,os⟩):
  wpAny M A (lj "object.__setattr__" ⟨[.ref a,nameV,u],[]⟩) Q E ⟨h,g,d,t,os⟩:=by
 have z1:ui "object.__setattr__"=some .slot:=by decide+kernel
 have z2:splitId "object.__setattr__"=some ("object","__setattr__"):=by decide+kernel
 have l1:=W.looks_subIn (M:=M) X x.ob;have ar:=PySem.F.args_object_setattr_3 (.ref a) nameV u;simp only[lj,z1,z2];refine ae ?_;unfold sj
 repeat (first|(with_reducible refine dj ge ?_;rw[hc])|with_reducible refine l1.at ?_|wp_step)
 exact hq
theorem zpt (X:K.In h)(x:XF K C f)(ge:h.get? a=some ob)(hc:ob.cls=.ref C)(hd:ob.dict=none)(da:ob.data=.fields vs)
  (go:∀h' yC,N3 h a ob f u h'->Q () ⟨h',g,d,yC,os⟩):wpAny (model prog w) A (setAttr (.ref a) f u) Q E ⟨h,g,d,t,os⟩:=by
 have f3:=PySem.F.slot_list_setattr.bind (.ref a)
 repeat (any_goals (first|assumption|(with_reducible refine dj ge ?_;rw[hc])|with_reducible refine(W.looks_findIn (M:=model prog w) X x.sa).at ?_|wp_step))
 refine jn PySem.F.slot_list_setattr.plain PySem.F.entry_object_setattr (zge X x ge hc (zgd X x ge hc hd da λh' yC p=>?_))
 repeat (any_goals (first|assumption|wp_step))
 exact go h' yC p
theorem zmi (X:K.In h)(x:XF K C f)(ge:h.get? a=some ob)(hc:ob.cls=.ref C)(da:ob.data=.fields vs)(hd:ob.dict=some dp)(hn:h.Ns dp mA)(hv:mA f=some u)
  (hq:Q (.done (.ret u)) ⟨h,g,d,t,os⟩):wpAny (model prog w) A (Builtin.«object.__getattribute__» ⟨[.ref a,.str f tk],[]⟩) Q E ⟨h,g,d,t,os⟩:=by
 obtain⟨bm,⟨N,nm,q,bs,gW,sn,sub,ab,col,dd,k0,k1,k2,k3,k5,mN,oC,hN,T⟩,_⟩:=XC.mk X x.ex;have XE:gW=true:=by obtain⟨hW,cd,C1,y0,y1,y2,y3,y5,ho,_⟩:=yj x.ex;have e1:=x.hd _ _ _ ho;have e2:=X _ _ ho;rw[oC]at e2;cases e2;exact e1
 have l0:=W.looks_findIn (M:=model prog w) X x.nf
 repeat (first|(with_reducible refine dj ge ?_;rw[hc])|with_reducible refine l0.at ?_|wp_step)
 rw[da]
 repeat (first|(with_reducible refine dj ge ?_;rw[hc])|with_reducible refine dj oC ?_|wp_step)
 rw[hd]
 repeat (first|(with_reducible refine wpAny_nsGet hn ?_;rw[hv])|wp_step)
 exact hq
theorem zkb {tk:Tok}{dp:Addr}{mA:Str->Option Value}{R:Result->af->Prop}(X:K.In h)(x:XF K C f)(ge:h.get? a=some ob)(hc:ob.cls=.ref C)(da:ob.data=.fields vs)(hd:ob.dict=some dp)(hn:h.Ns dp mA)(hv:mA f=some u)
  (hq:R (.ok (.ret u)) ⟨h,g,d,t,os⟩):kz (model prog w) A (.call (.builtin "BaseException.__getattribute__") ⟨[.ref a,.str f tk],[]⟩) R ⟨h,g,d,t,os⟩:=by
 refine jn F.excAttr_ValueError.ga.plain F.entry_bexc_ga ?_;have l1:=W.looks_subIn (M:=model prog w) X x.be;have ar:=F.args_bexc_ga (.ref a) (.str f tk);have z1:ui "BaseException.__getattribute__"=some .slot:=by decide+kernel
 have z2:splitId "BaseException.__getattribute__"=some ("BaseException","__getattribute__"):=by decide+kernel
 simp only[lj,z1,z2];refine ae ?_;unfold sj
 repeat (first|(with_reducible refine zmi X x ge hc da hd hn hv ?_;exact hq)|(with_reducible refine dj ge ?_;rw[hc])|with_reducible refine l1.at ?_|wp_step)
theorem zsm (X:K.In h)(x:XF K C f)(ge:h.get? a=some ob)(hc:ob.cls=.ref C)(da:ob.data=.fields vs)(hd:ob.dict=some dp)(hn:h.Ns dp mA)(hv:mA f=some u)(hh:handedOut u=pure u)
  (hq:Q u ⟨h,g,d,t,os⟩):wpAny (model prog w) A (getAttrBy (.ref a) (.str f tk) true ex) Q E ⟨h,g,d,t,os⟩:=by
 have f3:=F.excAttr_ValueError.ga.bind (.ref a);have x0:(ex&&onTheHeap (Value.builtin "BaseException.__getattribute__"))=false:=by cases ex<;>rfl
 repeat (any_goals (first|assumption|(with_reducible refine dj ge ?_;rw[hc])|with_reducible refine(W.looks_findIn (M:=model prog w) X x.ga).at ?_|with_reducible refine(W.looks_findIn (M:=model prog w) X x.gt).at ?_|wp_step))
 refine zkb X x ge hc da hd hn hv ?_
 repeat' first|assumption|wp_step
theorem zqq (X:K.In h)(x:XF K C f)(ge:h.get? a=some ob)(hc:ob.cls=.ref C)(da:ob.data=.fields vs)(hd:ob.dict=some dp)(hn:h.Ns dp mA)(hv:mA f=some u)(hh:handedOut u=pure u)
  (hq:Q u ⟨h,g,d,t+1,os⟩):wpAny (model prog w) A (getAttr (.ref a) f ex) Q E ⟨h,g,d,t,os⟩:=by
 repeat (any_goals (first|assumption|with_reducible apply zsm X x ge hc da hd hn hv hh|wp_step))
end
end
def exO (a:Addr)(ob:Obj):HO:=.ext λh=>h.get? a=some ob
def Bi:HO->Prop
 |.ext _=>True
 |.xd _=>True
 |_=>False
def kO (H:Hp)(a:Addr):Hp:=λb=>if b=a then none else H b
theorem Ib:kO H a a=none:=by unfold kO;rw[vg rfl]
theorem wQ (h:b≠a):kO H a b=H b:=by unfold kO;rw[vh h]
section
variable {X:Cx}{pins:List (Addr×Obj)}{Y:L2.St}{H:Hp}{s:af}{a C:Addr}{ob:Obj}{f:Str}
theorem XN (I:Inv X pins Y H s)(h:H a=some (exO a ob)):s.heap.get? a=some ob:=(I.hok a _ h).1
theorem XO (e:h.get? a=some ob):z12 P w H h a (exO a ob):=⟨e,⟨_,e⟩,λh1 h2 p k=>k _ p⟩
theorem Inv.kO (I:Inv X pins Y H s)(hO:H a=some o)(hl:Bi o):Inv X pins Y (kO H a) s:=by
 have ne:∀{b u},H b=some u->(Bi u->False)->b≠a:=λ{b u} e n z=>by subst z;rw[hO]at e;cases e;exact n hl
 have nn:∀{b},H b=none->Mi.kO H a b=none:=λ{b} e=>by
  unfold Mi.kO;split
  ·rfl
  ·exact e
 refine⟨I.ok,I.os,I.bare,⟨I.base.keep,I.base.slot,λb o e n hx=>nn (I.base.free b o e n hx),I.base.there,λb xs e=>?_,λb o u e=>?_,λb ps e=>?_⟩,I.loc,I.cell,nn I.free,λx c e=>nn (I.bF x c e),λp hp=>?_,λb o e=>?_,I.len,I.fx⟩
 ·have e:=I.base.cT b xs e;rw[wQ (ne e id)];exact e
 ·have e:=I.base.cL b o u e;rw[wQ (ne e id)];exact e
 ·obtain⟨m,e⟩:=I.base.cU b ps e;exact⟨m,by rw[wQ (ne e id)];exact e⟩
 ·obtain⟨h1,h2,h3⟩:=I.pin p hp;exact⟨h1,nn h2,h3⟩
 ·have hb:b≠a:=by rintro rfl;rw[Ib]at e;cases e
  rw[wQ hb]at e;refine(I.hok b o e).stay (λ_ _ _ q=>q) (λc q=>?_) λc xs q=>?_
  ·rw[wQ (ne q id)];exact q
  ·rw[wQ (ne q id)];exact q
theorem zm9 (I:Inv X pins Y H s)(hO:H a=some (exO a ob))(ry:RelV y u)(h0:s.heap.get? dp=none)(hz:s.heap.objs.size<=dp)(na:dp≠a)(ga:h'.get? a=some {ob with dict:=some dp})(ns:h'.Ns1 dp (fun g=>if g=f then some u else none))(k:∀b o,b≠a->s.heap.get? b=some o->h'.get? b=some o):
  H dp=none/\Inv X pins Y (upd (upd H dp (.xd [(f,y)])) a (exO a {ob with dict:=some dp})) {s with heap:=h',toks:=tk}:=by
 have N4:=I.hok.fresh hz;have ne:∀{b u},H b=some u->(u=exO a ob->False)->b≠a:=λ{b u} e n z=>by subst z;rw[hO]at e;cases e;exact n rfl
 have nd:∀{b u},H b=some u->b≠dp:=λ{b u} e z=>by subst z;rw[N4]at e;cases e
 have up:∀{b u},H b=some u->(u=exO a ob->False)->upd (upd H dp (.xd [(f,y)])) a (exO a {ob with dict:=some dp}) b=some u:=λ{b u} e n=>by rw[aL (ne e n),aL (nd e)];exact e
 have nn:∀{b o},s.heap.get? b=some o->H b=none->b≠a/\b≠dp:=λ{b o} e n=>⟨(by rintro rfl;rw[hO]at n;cases n),(by rintro rfl;rw[h0]at e;cases e)⟩;refine⟨N4,I.un ⟨λb o e n _ _=>k b o (nn e n).1 e,λb o e n _ _=>⟨o.slots,k b o (nn e n).1 e⟩,λb o e n _=>?_,λb o e _=>?_,λb xs e=>up e nofun,λb o u e=>up e nofun,λb ps e=>⟨#[],by rw[Array.append_empty];exact up e nofun⟩⟩ λb o e=>?_⟩
 ·rw[aL (nn e n).1,aL (nn e n).2];exact n
 ·by_cases hb:b=a
  ·subst hb;exact⟨_,ga⟩
  ·exact⟨o,k b o hb e⟩
 ·by_cases hb:b=a
  ·subst hb;rw[bE]at e;cases e;exact XO ga
  ·rw[aL hb]at e;by_cases hd:b=dp
   ·subst hd;rw[bE]at e;cases e;refine⟨_,ns,λg=>?_⟩;by_cases hg:g=f
    ·subst hg;simp;exact ry
    ·have :(g==f)=false:=by simpa using hg
     simp only[c7,this,List.lookup_nil,vh hg];exact True.intro
   ·rw[aL hd]at e;refine(I.hok b o e).stay (λc v hc q=>k c v ?_ q) (λc q=>up q nofun) λc xs q=>up q nofun;rcases hc with rfl|hc
    ·exact hb
    ·exact ne hc nofun
def Ic (K:W.Frag)(ta tv:TE)(f:Str):TS:=λD Y H=>tv Y H λy H1=>ta Y H1 λx H2=>∃a C ob vs,x=.ref a/\H2 a=some (exO a ob)/\ob.cls=.ref C/\ob.dict=none/\ob.data=.fields vs/\XF K C f/\∀dp,H2 dp=none->dp≠a->D.nx Y (upd (upd H2 dp (.xd [(f,y)])) a (exO a {ob with dict:=some dp}))
theorem XQ (ha:PE X o ta)(hv:PE X value tv)(hs:ke value (some (.Attribute o f pos')) pos.line X.env=pure false):PS X (.Assign [.Attribute o f pos'] value pos) (Ic X.K ta tv f):=by intro pins s Y H D I h;refine plainObj_wpAny_Assign_Attribute (aO (hv pins s Y H _ I h) λu s1 ⟨y,H1,I1,ry,q⟩=>aO (ha pins s1 Y H1 _ I1 q) λov s2 ⟨x,H2,I2,rx,a,C,ob,vs,ex,ea,hc,hd,da,xf,q2⟩=>?_) hs;subst ex;obtain rfl:ov=Value.ref a:=rx;refine zpt I2.fF xf (XN I2 ea) hc hd da λh' yC ⟨dp,h0,na,hz,ga,ns,k⟩=>?_;obtain⟨e1,I3⟩:=zm9 I2 ea ry h0 hz na ga ns k;exact⟨Y,_,I3,q2 dp e1 na⟩
end
def Ie (K:W.Frag)(f:Str):Sp:=λvs H Q _=>∃a C ob ws y,vs=[.ref a,y]/\H a=some (exO a ob)/\ob.cls=.ref C/\ob.dict=none/\ob.data=.fields ws/\XF K C f/\∀dp,H dp=none->dp≠a->Q .bA (upd (upd H dp (.xd [(f,y)])) a (exO a {ob with dict:=some dp}))
structure XI (K:W.Frag)(C f:Addr):Prop where
 XS:∀dd cd sl,K.lookup C=some ⟨.type "type",dd,.cls cd,sl⟩->W.nsIn K cd.ns "__init__"=some (some (.ref f))
 fn:W.isFn K (.ref f)=true
theorem XT {K:W.Frag}(X:K.In h)(G:h.Ns N m)(e:W.nsIn K N n=some (some v)):m n=some v:=by
 obtain⟨o,es,ep,ho,hd,_,hf⟩:=G;unfold W.nsIn at e;split at e
 ·rename_i q;have z:=X _ _ q;rw[ho]at z;cases z;cases hd;split at e
  ·rename_i he;cases e;rw[<-hf];unfold nsFind findBy;rw[<-q9,he];rfl
  ·split at e<;>cases e
 ·cases e
theorem XI.at {K:W.Frag}{C:Addr}(X:K.In h)(q:gD K C=true)(x:XI K C f):∃bm N nm qn bs gW sn sub ab col dd k0 k1 k2 k3 k5 mN o,h.get? C=some (uh nm qn C N bs bm gW sn sub ab col dd k0 k1 k2 k3 k5 "ValueError.__new__")/\h.Ns N mN/\mN "__init__"=some (.ref f)/\uq h rG bm/\h.get? f=some o/\o.cls=.type "function":=by
 obtain⟨dd,cd,bm,k0,k1,k2,k3,k5,ho,hm,hd,ht,hk⟩:=yj q;have hN:h.Ns cd.ns (h.nsMap cd.ns):=.of_isNs (W.isNs_of_in X hk);obtain⟨o,e1,e2⟩:=b9.mp (vp x.fn);refine⟨bm,cd.ns,cd.name,cd.qualname,cd.bases,cd.hasDict,cd.slotNames,cd.subclasses,cd.abstract,cd.collection,dd,k0,k1,k2,k3,k5,h.nsMap cd.ns,o,?_,hN,XT X hN (x.XS _ _ _ ho),W.tail_of_in X ht,X _ _ e1,e2⟩;have h2:=X _ _ ho;cases cd
 dsimp only at hm hd
 rw[hm,hd]at h2;exact h2
def Ig (X:Cx)(E:XK):Prop:=∀pins Y H s a C ob vs,Inv X pins Y H s->H a=none->(∃H1 s1,Inv X pins Y H1 s1/\s1.heap.get? a=none)->s.heap.get? a=some ob->ob.cls=.ref C->ob.data=.fields vs->vs[1]?=some .none->E (.ref C) ob.dict H->X.xe (.ref a) s
section
variable {X:Cx}{pos:Pos}
theorem zoi {C:Addr}(hx:X.fx=[(n,.ref a)])(hl:X.env.scope.names.lookup n=some .local)(hd:aab n)(hns:z2h (.Name n p)=true)(ha:Xh X a oe)(hc:oe.cls=.ref C)(da:oe.data=.fields ws)(hdd:oe.dict=some dp)(hp:Xh X dp od)(hm:∀h:Heap,h.get? dp=some od->h.Ns dp mA)(hv:mA f=some u)(rv:RelV v u)(xf:XF X.K C f):
  PE X (.Attribute (.Name n p) f q) (λ_ H Q=>Q v H):=by
 intro pins s Y H Q I h;refine zkh (sX hns) (aO (MW hx hl hd pins s Y H (λw H1=>w=.ref a/\H1=H) I ⟨rfl,rfl⟩) λw s1 zz=>?_);obtain⟨w1,H1,I1,r1,rfl,rfl⟩:=zz;obtain rfl:w=Value.ref a:=r1;obtain⟨hh,g,d,t,os⟩:=s1;exact zqq I1.fF xf (ha _ _ _ _ I1) hc da hdd (hm _ (hp _ _ _ _ I1)) hv (W.handedOut_of (Rc rv)) ⟨v,H1,I1.tok (t+1),rv,h⟩
theorem zlb {pins:List (Addr×Obj)}{Y:L2.St}{i:Nat}{n B fl:Str}{a dp C D:Addr}{y:V}{H1 H':Hp}{s1 s':af}{Dn:Ends}{T:TS}{b0:Stmt}{suite:List Stmt}{np hp:Pos}(I:Inv X pins Y H1 s1)(fy:Fly X.prog X.w X.base X.stack H1 s1 C a H' s' (some dp))(hy:H' dp=some (.xd [(fl,y)]))(hs:X.stack=X.env::X.outer)(hf:X.env.frame=some X.env.locals)(hx:X.fx=[])(nd:X.N.Nodup)(hi:X.N[i]?=some n)(hv:X.env.scope.names.lookup ("":Str)=none)(hl:X.env.scope.names.lookup n=some .local)
  (hB:X.mg B=some (.ref D)) (xC:gD X.K C=true) (xD:gD X.K D=true) (sb:W.subIn X.K (.ref C) (.ref D)=some true) (rK:Gl X B) (hdB:aab B)
  (AK:∀od mA u oe ws,(∀h:Heap,h.get? dp=some od->h.Ns dp mA)->mA fl=some u->RelV y u->oe.cls=.ref C->oe.dict=some dp->oe.data=.fields ws->PSs (jY (tX X ((dp,od)::X.pn) X.xe) i n a oe) (b0::suite) T) (q:T ⟨λσ' fC=>Dn.nx (σ'.set i none) fC,Dn.rt,λ_ _=>False,λ_ _=>False⟩ (Y.set i none) (kO H' dp)):
  wpAny (model X.prog X.w) X.A (jq (.ref a) X.env) (λ_ s2=>wpAny (model X.prog X.w) X.A (lm (.ref a) none) (λ_ s3=>wpAny (model X.prog X.w) X.A (t9 (.ref a) X.env [.ExceptHandler (some (.Name B np)) (some n) (b0::suite) hp]) (SP X pins Dn) X.xe s3) X.xe s2) X.xe s':=by
 obtain⟨B0,AM,yk,pO,w0⟩:=fy.hh;have yD:=w0;rw[hs]at yD;obtain⟨mA,N5,rel⟩:=yk dp _ hy;obtain⟨od,es,ep,Ih,⟨hdat,N6⟩⟩:=id N5;have rf:=rel fl;simp only[c7,beq_self_eq_true]at rf;obtain⟨u,hu,ru⟩:=dB.some_of rf;have XU:∀h:Heap,h.get? dp=some od->h.Ns dp mA:=λh e=>(N5.at (h':=h) λo z=>by rw[Ih]at z;cases z;exact e).ns;have back:∀{p2:List (Addr×Obj)} {eC:L2.St} {H2:Hp} {s2:af},Inv (tX X ((dp,od)::X.pn) X.xe) pins eC H2 s2->Inv X pins eC H2 s2:=λ{p2 eC H2 s2} J=>⟨I.ok,J.os,J.bare,J.base,J.loc,J.cell,J.free,J.bF,λp hp=>J.pin p (by show p∈(dp,od)::(X.pn++pins);exact bn _ hp),J.hok,J.len,J.fx⟩;refine zey (pins:=pins) (X:=tX X ((dp,od)::X.pn) X.xe) (Dn:=Dn) (Q:=SP X pins Dn) (Y:=Y) (H':=kO H' dp) (T:=T) (λh6 w6 up=>?_) yD ?_ hs hf hx nd hi hv hl hB (λA=>AN (X:=tX X ((dp,od)::X.pn) X.xe) xC xD sb A) rK hdB (λf s h=>?_) (λoe ws h1 h2 h3=>AK od mA u oe ws XU hu ru h1 h2 h3) q
 ·have J:=Fly.land I fy AM yk pO (by rw[hs];exact w6) up;have J2:=Mi.Inv.kO J hy True.intro;have J3:Inv X pins Y (kO H' dp) {s' with heap:=h6}:=J2;have XW:h6.get? dp=some od:=w6.1 _ _ Ih;refine⟨Xz J3.ok,J3.os,J3.bare,J3.base,J3.loc,J3.cell,J3.free,J3.bF,λp hp=>?_,J3.hok,J3.len,J3.fx⟩;rcases ak.mp (show p∈(dp,od)::(X.pn++pins)from hp)with rfl|hp
  ·have nfr:∀b∈(X.env::X.outer).filterMap (·.frame),dp≠b:=fun b hb z=>by
    have:=(yD.2.2.1.mem hb).1;rw[<-z,Ih]at this;cases this
   refine⟨XW,Ib,nfr _ ?_,λz=>nfr dp ?_ rfl,λv z=>?_⟩
   ·rw[cx,hf];exact az
   ·rw[cx,hf];exact bn _ z
   ·have z:od.data=.cell v:=z;rw[hdat]at z;cases z
  ·exact J3.pin p hp
 ·have :=MT fy;by_cases e:a=dp
  ·rw[e];exact Ib
  ·rw[wQ e];exact this
 ·cases f with
  |next=>obtain⟨eC,H2,J,z⟩:=h;exact⟨eC,H2,back (p2:=pins) J,z⟩
  |brk=>obtain⟨eC,H2,J,z⟩:=h;exact⟨eC,H2,back (p2:=pins) J,z⟩
  |cont=>obtain⟨eC,H2,J,z⟩:=h;exact⟨eC,H2,back (p2:=pins) J,z⟩
  |ret u=>obtain⟨v,eC,H2,J,r,z⟩:=h;exact⟨v,eC,H2,back (p2:=pins) J,r,z⟩
end
inductive WS where
 |nil|seq (a b:WS)|asg (i:Nat) (e:W)|app (o v:W)|ext (o v:W)|pop (o:W)|ret (e:W)|ifS (c:W) (a b:WS)|bD (t:Tg) (it:C) (b:WS)|yE (s:S)|Ii (o:W) (f:Str) (e:W)|lZ (t:Tg) (it:W) (b:WS)|hn (c:Str) (f:Option Str) (h rest:WS)|l' (i:Nat) (it:W) (b:WS)
 deriving Inhabited
def Bj:W->Bool
 |.bV c=>!lQ c
 |.lc _ _ _ _ _ _ _ _=>true
 |_=>false
theorem XX (k:Cok Γ Κ Φ X r)(h1:jV Γ i x=true)(hn:lQ c=false)(h2:chkE Γ c v=true):PS X (.Assign [.Name x px] v pos) (iL (tD X.K (aG Κ Φ c)) (pE i)):=by
 obtain⟨l1,l2,l3⟩:=k.loc h1;have nd:X.N.Nodup:=k.hN▸k.nd;cases hc:z1n v with
 |false=>exact vM nd l1 l2 ((all c).E Γ X r _ k h2) hc l3
 |true=>
  cases v<;>first|(cases hc;done)|skip
  ·rename_i el gs s p;cases hb:(X.env.blockKind==.function&&X.env.kindOf x==some .local&&px.line==p.line&& !(s.names.any λ(n,k)=>n==x&&(k==.local||k==.cell)))with
   |false=>exact z8s nd l1 l2 ((all c).E Γ X r _ k h2) (by rw[yp,hb]) l3
   |true=>
    obtain⟨nt,js,N',tg,it,cond,elt,rfl⟩:=M1 hn h2;obtain⟨Wq,t,i',ifs,scope,pos',e,hB,h0,hi,hg,ht,he,hs,eA⟩:=sC (all it) (all cond) (all elt) k h2;cases e;have hl:X.env.scope.names.lookup x=some .local:=by simp at hb;exact hb.1.1.2
    exact PS.imp (z5t (k.calm eA) nd l1 hl l3.2 hB hi hg ht he (by rw[yp,hb]) hs) λD Y H q=>(zf0 (pos:=p) (k.calm eA) hB h0 hi hg ht he hs).2 Y H _ q
  ·exact(M3 h2).elim
  ·exact(M4 h2).elim
def rz:WS->Bool
 |.seq a b=>rz a||rz b
 |.ifS _ a b=>rz a||rz b
 |.bD _ _ _=>true
 |.lZ _ _ _=>true
 |.l' _ _ _=>true
 |.yE _=>true
 |_=>false
mutual
def wS:Wc->WS->TS
 |_,.nil=>Kl
 |Z,.seq a b=>zc (wS Z a) (wS Z b)
 |Z,.asg i e=>iL (wE Z e) (pE i)
 |Z,.app o v=>sT (zB Z.K "list" Cb (wE Z o) (vB (wE Z v) kZ))
 |Z,.ext o v=>sT (zB Z.K "list" Cd (wE Z o) (vB (wE Z v) kZ))
 |Z,.pop o=>sT (vI Z.K "list" qD (wE Z o))
 |Z,.ret e=>zd (wE Z e)
 |Z,.ifS c a b=>ze (wT Z c) (wS Z a) (wS Z b)
 |Z,.bD t it b=>jJ (tDW Z.K (evW Z.Κ Z.Φ it)) (tDG Z.K t) (wS Z b)
 |Z,.yE s=>tDS Z.K (aT Z.Κ Z.Φ s)
 |Z,.Ii o f e=>Ic Z.K (wE Z o) (wE Z e) f
 |Z,.lZ t it b=>jJ (zf Z.K (wE Z it)) (tDG Z.K t) (wS Z b)
 |Z,.l' i it b=>jJ (zf Z.K (wE Z it)) (pE i) (wS Z b)
 |_,.hn _ _ _ _=>λ_ _ _=>False
def wX:Wc->WS->Ends->Nat->L2.St->XK
 |Z,.hn c f h rest,D,i,n=>fun v dd H'=>(∃C,Z.mg c=some (.ref C)/\v=.ref C/\match f with
   |none=>wS {Z with E:=λ_ _ _=>False,xf:=none} h ⟨λσ' fC=>D.nx (σ'.set i none) fC,D.rt,λ_ _=>False,λ_ _=>False⟩ (n.set i none) H'
   |some fl=>∃dp y,dd=some dp/\H' dp=some (.xd [(fl,y)])/\wS {Z with E:=λ_ _ _=>False,xf:=some y} h ⟨λσ' fC=>D.nx (σ'.set i none) fC,D.rt,λ_ _=>False,λ_ _=>False⟩ (n.set i none) (kO H' dp))
  \/wX Z rest D i n v dd H'
 |_,_,_,_,_=>λ_ _ _=>False
end
def Ds (Γ:Gw)(i:Nat)(nm c:Str)(f:Option Str):Gw:={Γ with g:={Γ.g with N:=Γ.g.N.set i "",cm:=false,xc:=some (nm,c),fns:=[]},xf:=f}
mutual
def Ij:Gw->WS->Stmt->Bool
 |Γ,.asg i e,s=>(x9 s).any λu=>(bH u.1).any λx=>qS Γ.g (.nm i) x&&(!z1n u.2||Bj e)&&bR Γ e u.2
 |Γ,.app o e,s=>(x' s).any λc=>(qR c).any λv=>((v.2.1==("append":Str))&&z2h v.1&&v.2.2.2)&&bR Γ o v.1&&(bH v.2.2.1).any λy=>!isStar y&&bR Γ e y
 |Γ,.ext o e,s=>(x' s).any λc=>(qR c).any λv=>((v.2.1==("extend":Str))&&z2h v.1&&v.2.2.2)&&bR Γ o v.1&&(bH v.2.2.1).any λy=>!isStar y&&bR Γ e y
 |Γ,.pop o,s=>(x' s).any λc=>(qR c).any λv=>((v.2.1==("pop":Str))&&z2h v.1&&v.2.2.2)&&bR Γ o v.1&&v.2.2.1.isEmpty
 |Γ,.ret e,s=>(FJ s).any λo=>o.any λv=>bR Γ e v
 |Γ,.ifS c a b,s=>(FK s).any λv=>tW Γ c v.1&&wkL Γ a v.2.1&&wkL Γ b v.2.2
 |Γ,.bD t it b,s=>Γ.g.cm&&(z4 s).any λv=>(qS Γ.g t v.1&&Cy it v.1&&tG v.2.1)&&lP Γ.g it v.2.1&&wkL Γ b v.2.2.1&&v.2.2.2.isEmpty
 |Γ,.yE x,s=>qU Γ.g x s
 |Γ,.Ii o f e,s=>(x9 s).any λu=>(bH u.1).any λx=>(FE x).any λv=>(v.2.1==f)&& !z1n u.2&&bR Γ o v.1&&bR Γ e u.2
 |Γ,.lZ t it b,s=>Γ.g.cm&&(z4 s).any λv=>(qS Γ.g t v.1&&tG v.2.1)&&bR Γ it v.2.1&&wkL Γ b v.2.2.1&&v.2.2.2.isEmpty
 |Γ,.l' i it b,s=>Γ.g.cm&&(z4 s).any λv=>(qS Γ.g (.nm i) v.1&&tG v.2.1)&&bR Γ it v.2.1&&wkL Γ b v.2.2.1&&v.2.2.2.isEmpty
 |_,_,_=>false
def wkH:Gw->WS->Nat->Str->Str->List Stmt->Bool
 |_,.nil,_,_,_,_=>true
 |Γ,.hn c f h rest,i,nm,B,su=>Γ.g.iA.contains (c,B)&&(match f with|none=>true|some fl=>Γ.fld.contains (c,fl))&&wkL (Ds Γ i nm c f) h su&&wkH Γ rest i nm B su
 |_,_,_,_,_,_=>false
def wkL:Gw->WS->List Stmt->Bool
 |_,.nil,l=>l.isEmpty
 |Γ,.seq a b,l=>match l with|s::l=>Ij Γ a s&&wkL Γ b l|_=>false
 |_,_,_=>false
end
def Wfk (Γ:Gw)(X:Cx)(r:Nat):Prop:=∀c fl,Γ.fld.contains (c,fl)=true->∃C f fd ps k,X.mg c=some (.ref C)/\XF X.K C fl/\XI X.K C f/\k+1<=r/\FnOk X.prog X.w X.K X.mg X.base (CXE X.prog X.w X.base) k f fd ps (Ie X.K fl)/\Binds X.K fd ps []
structure Wz (s:WS):Prop where
 R:∀(Γ:Gw) (Z:Wc) (X:Cx) (r:Nat) (st:Stmt),Wok Γ Z (CXE X.prog X.w X.base) X r->Wfk Γ X r->(rz s=true->g8 (model X.prog X.w) X.A X.env X.xe)->(rz s=true->Ig X Z.E)->Ij Γ s st=true->PS X st (wS Z s)
 L:∀(Γ:Gw) (Z:Wc) (X:Cx) (r:Nat) (st:List Stmt),Wok Γ Z (CXE X.prog X.w X.base) X r->Wfk Γ X r->(rz s=true->g8 (model X.prog X.w) X.A X.env X.xe)->(rz s=true->Ig X Z.E)->wkL Γ s st=true->PSs X st (wS Z s)
 H:∀(Γ:Gw) (Z:Wc) (X:Cx) (r i:Nat) (nm B:Str) (b0:Stmt) (su:List Stmt) (np hp:Pos) (pins:List (Addr×Obj)) (Dn:Ends),Wok Γ Z (CXE X.prog X.w X.base) X r->Wfk Γ X r->xc0 Γ.g=true->X.stack=X.env::X.outer->X.env.frame=some X.env.locals->X.N[i]?=some nm->X.env.scope.names.lookup ("":Str)=none->X.env.scope.names.lookup nm=some .local->aab nm->(Γ.g.N.set i "").Nodup->Gl X B->aab B->wkH Γ s i nm B (b0::su)=true->∀Y H1 s1 C a H' s' dd,Inv X pins Y H1 s1->Fly X.prog X.w X.base X.stack H1 s1 C a H' s' dd->wX Z s Dn i Y (.ref C) dd H'->wpAny (model X.prog X.w) X.A (jq (.ref a) X.env) (λ_ s2=>wpAny (model X.prog X.w) X.A (lm (.ref a) none) (λ_ s3=>wpAny (model X.prog X.w) X.A (t9 (.ref a) X.env [.ExceptHandler (some (.Name B np)) (some nm) (b0::su) hp]) (SP X pins Dn) X.xe s3) X.xe s2) X.xe s'
theorem Wz.x (h:∀Γ Z X r st,Wok Γ Z (CXE X.prog X.w X.base) X r->Wfk Γ X r->(rz s=true->g8 (model X.prog X.w) X.A X.env X.xe)->(rz s=true->Ig X Z.E)->Ij Γ s st=true->PS X st (wS Z s))(hl:∀Γ st,wkL Γ s st=false)(hx:∀Z D i n v dd H',¬wX Z s D i n v dd H'):Wz s:=⟨h,λΓ Z X r st k kx hp hr z=>ff (hl Γ st) z,λΓ Z X r i nm B b0 su np hp pins Dn k kx a1 a2 a3 a4 a5 a6 a7 a8 a9 N7 N8 Y H1 s1 C a H' s' dd I fl z=>(hx _ _ _ _ _ _ _ z).elim⟩
theorem rV (h:a=true):(a||b)=true:=by rw[h];rfl
theorem rW (h:b=true):(a||b)=true:=by rw[h,Bool.or_true]
theorem zke {X:Cx}{pins:List (Addr×Obj)}{Y:L2.St}{i:Nat}{n B:Str}{a C D:Addr}{dd:Option Addr}{H1 H':Hp}{s1 s':af}{Dn:Ends}{T:TS}{b0:Stmt}{suite:List Stmt}{np hp:Pos}(I:Inv X pins Y H1 s1)(fy:Fly X.prog X.w X.base X.stack H1 s1 C a H' s' dd)(hs:X.stack=X.env::X.outer)(hf:X.env.frame=some X.env.locals)(hx:X.fx=[])(nd:X.N.Nodup)(hi:X.N[i]?=some n)(hv:X.env.scope.names.lookup ("":Str)=none)(hl:X.env.scope.names.lookup n=some .local)
  (hB:X.mg B=some (.ref D)) (xC:gD X.K C=true) (xD:gD X.K D=true) (sb:W.subIn X.K (.ref C) (.ref D)=some true) (rK:Gl X B) (hdB:aab B)
  (AK:∀oe,oe.cls=.ref C->PSs (jY X i n a oe) (b0::suite) T) (q:T ⟨λσ' fC=>Dn.nx (σ'.set i none) fC,Dn.rt,λ_ _=>False,λ_ _=>False⟩ (Y.set i none) H'):
  wpAny (model X.prog X.w) X.A (jq (.ref a) X.env) (λ_ s2=>wpAny (model X.prog X.w) X.A (lm (.ref a) none) (λ_ s3=>wpAny (model X.prog X.w) X.A (t9 (.ref a) X.env [.ExceptHandler (some (.Name B np)) (some n) (b0::suite) hp]) (SP X pins Dn) X.xe s3) X.xe s2) X.xe s':=by
 obtain⟨B0,AM,yk,pO,w0⟩:=fy.hh;have yD:=w0;rw[hs]at yD;refine zey (pins:=pins) (Dn:=Dn) (Q:=SP X pins Dn) (Y:=Y) (H':=H') (T:=T) (λh6 w6 up=>?_) yD (MT fy) hs hf hx nd hi hv hl hB (AN xC xD sb) rK hdB (λ_ _ z=>z) (λoe ws h1 h2 h3=>AK oe h1) q;exact Fly.land I fy AM yk pO (by rw[hs];exact w6) up
theorem w_hn {c:Str}{f:Option Str}{h rest:WS}(ih:Wz h)(ir:Wz rest):∀(Γ:Gw) (Z:Wc) (X:Cx) (r i:Nat) (nm B:Str) (b0:Stmt) (su:List Stmt) (np hp:Pos) (pins:List (Addr×Obj)) (Dn:Ends),Wok Γ Z (CXE X.prog X.w X.base) X r->Wfk Γ X r->xc0 Γ.g=true->X.stack=X.env::X.outer->X.env.frame=some X.env.locals->X.N[i]?=some nm->X.env.scope.names.lookup ("":Str)=none->X.env.scope.names.lookup nm=some .local->aab nm->(Γ.g.N.set i "").Nodup->Gl X B->aab B->wkH Γ (.hn c f h rest) i nm B (b0::su)=true->
  ∀Y H1 s1 C a H' s' dd,Inv X pins Y H1 s1->Fly X.prog X.w X.base X.stack H1 s1 C a H' s' dd->wX Z (.hn c f h rest) Dn i Y (.ref C) dd H'->wpAny (model X.prog X.w) X.A (jq (.ref a) X.env) (λ_ s2=>wpAny (model X.prog X.w) X.A (lm (.ref a) none) (λ_ s3=>wpAny (model X.prog X.w) X.A (t9 (.ref a) X.env [.ExceptHandler (some (.Name B np)) (some nm) (b0::su) hp]) (SP X pins Dn) X.xe s3) X.xe s2) X.xe s':=by
 intro Γ Z X r i nm B b0 su np hp pins Dn k kx hxc hs hf hi hv hl N9 iA rK hdB Ik Y H1 s1 C a H' s' dd I fy z;have Ik:(Γ.g.iA.contains (c,B)&&(match f with|none=>true|some fl=>Γ.fld.contains (c,fl))&&wkL (Ds Γ i nm c f) h (b0::su)&&wkH Γ rest i nm B (b0::su))=true:=by cases f<;>exact Ik
 obtain⟨c1,c2,c3,c4⟩:=bK Ik
 have z:(∃C0,Z.mg c=some (.ref C0)/\Value.ref C=.ref C0/\match f with
  |none=>wS {Z with E:=λ_ _ _=>False,xf:=none} h ⟨λσ' fC=>Dn.nx (σ'.set i none) fC,Dn.rt,λ_ _=>False,λ_ _=>False⟩ (Y.set i none) H'
  |some fl=>∃dp y,dd=some dp/\H' dp=some (.xd [(fl,y)])/\wS {Z with E:=λ_ _ _=>False,xf:=some y} h ⟨λσ' fC=>Dn.nx (σ'.set i none) fC,Dn.rt,λ_ _=>False,λ_ _=>False⟩ (Y.set i none) (kO H' dp))\/wX Z rest Dn i Y (.ref C) dd H':=by cases f<;>exact z
 rcases z with⟨C0,m0,e0,z⟩|z
 ·cases e0;obtain⟨C',D,m1,m2,x1,x2,sb⟩:=k.ck.xk.iA c B c1;rw[k.mm,m1]at m0;cases m0;have Oa:X.N.Nodup:=by rw[k.ck.hN];exact k.ck.nd
  have hx:=k.ck.VE hxc;have hxc:=VF hxc;cases f with
  |none=>refine zke I fy hs hf hx Oa hi hv hl m2 x1 x2 sb rK hdB (λoe hc=>?_) z;exact ih.L (Ds Γ i nm c none) _ (jY X i nm a oe) r _ ⟨⟨k.kk,k.mm,k.fn,k.me,k.cl,k.gi,k.hf,k.md,k.mq⟩,k.ck.jY iA hc m1,(λz=>by cases z),(λ_ _ _ _ _ _ _ z=>by obtain⟨_,_,_,_,_,_,z⟩:=z;exact z),(λf z=>by cases z),Ia⟩ kx (λ_=>PassesOwn.never) (λ_ _ _ _ _ _ _ _ _ _ _ _ _ _ _ _ z=>z.elim) c3
  |some fl=>obtain⟨dp,y,rfl,hy,z⟩:=z;obtain⟨C2,f2,Ob,ps2,k2,n1,xf,_⟩:=kx c fl c2;rw[m1]at n1;cases n1;refine zlb I fy hy hs hf hx Oa hi hv hl m2 x1 x2 sb rK hdB (λod mA u oe ws q1 q2 q3 q4 q5 q6=>?_) z;refine ih.L (Ds Γ i nm c (some fl)) _ (jY (tX X ((dp,od)::X.pn) X.xe) i nm a oe) r _ ⟨⟨k.kk,k.mm,k.fn,k.me,k.cl,k.gi,k.hf,k.md,k.mq⟩,(XB k.ck hxc ((dp,od)::X.pn) X.xe).jY iA q4 m1,(λz=>by cases z),(λ_ _ _ _ _ _ _ z=>by obtain⟨_,_,_,_,_,_,z⟩:=z;exact z),(λf z=>?_),Ia⟩ kx (λ_=>PassesOwn.never) (λ_ _ _ _ _ _ _ _ _ _ _ _ _ _ _ _ z=>z.elim) c3;cases z;refine⟨y,rfl,λn' c' e p q hns=>?_⟩;cases e;exact zoi (X:=jY (tX X ((dp,od)::X.pn) X.xe) i nm a oe) rfl hl N9 hns (λ_ _ _ _ J=>(J.pin (a,oe) (bu _ az)).1) q4 q6 q5 (λ_ _ _ _ J=>(J.pin (dp,od) (bu _ (bn _ az))).1) q1 q2 q3 xf
 ·exact ir.H Γ Z X r i nm B b0 su np hp pins Dn k kx hxc hs hf hi hv hl N9 iA rK hdB c4 Y H1 s1 C a H' s' dd I fy z
theorem XY (s:WS):Wz s:=by
 induction s with
 |nil=>exact⟨λ_ _ _ _ _ _ _ _ _ h=>ff rfl h,λΓ Z X r st k kx hp hr h=>by cases fO h;exact Km,λΓ Z X r i nm B b0 su np hp pins Dn k kx a1 a2 a3 a4 a5 a6 a7 a8 a9 N7 N8 Y H1 s1 C a H' s' dd I fl z=>z.elim⟩
 |seq a b ia ib=>exact⟨λ_ _ _ _ _ _ _ _ _ h=>ff rfl h,λΓ Z X r st k kx hp hr h=>by
  cases st with
  |nil=>cases h
  |cons s st=>obtain⟨h1,h2⟩:=aE h;exact Kn (ia.R Γ Z X r _ k kx (λz=>hp (rV z)) (λz=>hr (rV z)) h1) (ib.L Γ Z X r _ k kx (λz=>hp (rW z)) (λz=>hr (rW z)) h2),λΓ Z X r i nm B b0 su np hp pins Dn k kx a1 a2 a3 a4 a5 a6 a7 a8 a9 N7 N8 Y H1 s1 C a H' s' dd I fl z=>z.elim⟩
 |asg i e=>exact Wz.x (λΓ Z X r st k kx hp hr h=>by
  obtain⟨⟨ts,v⟩,hv,h9⟩:=aK h;obtain⟨p,rfl⟩:=oU hv;obtain⟨x,hx,h8⟩:=aK h9;cases fZ hx;obtain⟨h1,h2,h3⟩:=aY h8;obtain⟨y,q,rfl,h5⟩:=iD h1;obtain⟨l1,l2,l3⟩:=k.ck.loc h5;cases hc:z1n v with
  |false=>exact vM (by rw[k.ck.hN];exact k.ck.nd) l1 l2 ((dO e).E Γ Z _ X r _ k h3) hc l3
  |true=>
   have h2:(!z1n v||Bj e)=true:=h2;rw[hc]at h2;cases e<;>first|(cases h2;done)|skip
   ·rename_i c XZ;have hn:lQ c=false:=eQ h2;show PS X _ (iL (tD Z.K (aG Z.Κ Z.Φ c)) (pE i));rw[k.kk];exact XX k.ck h5 hn h3
   ·exact(Bg (dO _) (dO _) (dO _) Γ Z _ X r _ k h3).2 (by rw[k.ck.hN];exact k.ck.nd) l1 l2 l3) (λ_ _=>rfl) λ_ _ _ _ _ _ _ z=>z
 |app o e=>exact Wz.x (λΓ Z X r st k kx hp hr h=>by obtain⟨c,hv,h9⟩:=aK h;obtain⟨p,rfl⟩:=oV hv;obtain⟨⟨x,n,es,b⟩,hm,h8⟩:=aK h9;obtain⟨ap,cp,rfl,hb⟩:=jZ hm;obtain⟨h0,h6,h7⟩:=aY h8;obtain⟨h1,h2,h3⟩:=aY h0;obtain⟨y,hy,h4⟩:=aK h7;cases fZ hy;obtain⟨h4,h5⟩:=aE h4;have h1:n=("append":Str):=eqB h1;subst h1;show PS X _ (sT (zB Z.K "list" Cb _ _));rw[k.kk];exact oA (zg8 PySem.F.plainAttrs_list PySem.F.slot_list_append PySem.F.type_list_append ET ((dO o).E Γ Z _ X r _ k h6) (fQ ((dO e).E Γ Z _ X r _ k h5) pF (eQ h4)) (sX h2) (z8l (by rw[cv,h4];rfl) (show 1<20 by decide)) (hb.symm.trans h3) (jQ (eQ h4)) (qH rfl)) rfl) (λ_ _=>rfl) λ_ _ _ _ _ _ _ z=>z
 |ext o e=>exact Wz.x (λΓ Z X r st k kx hp hr h=>by obtain⟨c,hv,h9⟩:=aK h;obtain⟨p,rfl⟩:=oV hv;obtain⟨⟨x,n,es,b⟩,hm,h8⟩:=aK h9;obtain⟨ap,cp,rfl,hb⟩:=jZ hm;obtain⟨h0,h6,h7⟩:=aY h8;obtain⟨h1,h2,h3⟩:=aY h0;obtain⟨y,hy,h4⟩:=aK h7;cases fZ hy;obtain⟨h4,h5⟩:=aE h4;have h1:n=("extend":Str):=eqB h1;subst h1;show PS X _ (sT (zB Z.K "list" Cd _ _));rw[k.kk];exact oA (zg8 PySem.F.plainAttrs_list PySem.F.slot_list_extend PySem.F.type_list_extend RU ((dO o).E Γ Z _ X r _ k h6) (fQ ((dO e).E Γ Z _ X r _ k h5) pF (eQ h4)) (sX h2) (z8l (by rw[cv,h4];rfl) (show 1<20 by decide)) (hb.symm.trans h3) (jQ (eQ h4)) (qH rfl)) rfl) (λ_ _=>rfl) λ_ _ _ _ _ _ _ z=>z
 |pop o=>exact Wz.x (λΓ Z X r st k kx hp hr h=>by obtain⟨c,hv,h9⟩:=aK h;obtain⟨p,rfl⟩:=oV hv;obtain⟨⟨x,n,es,b⟩,hm,h8⟩:=aK h9;obtain⟨ap,cp,rfl,hb⟩:=jZ hm;obtain⟨h0,h6,h7⟩:=aY h8;obtain⟨h1,h2,h3⟩:=aY h0;cases fO h7;have h1:n=("pop":Str):=eqB h1;subst h1;show PS X _ (sT (vI Z.K "list" qD _));rw[k.kk];exact oA (zin PySem.F.plainAttrs_list PySem.F.slot_list_pop PySem.F.type_list_pop K8 ((dO o).E Γ Z _ X r _ k h6) (sX h2) (hb.symm.trans h3)) rfl) (λ_ _=>rfl) λ_ _ _ _ _ _ _ z=>z
 |ret e=>exact Wz.x (λΓ Z X r st k kx hp hr h=>by obtain⟨o,hv,h9⟩:=aK h;obtain⟨p,rfl⟩:=AX hv;obtain⟨v,rfl,h8⟩:=aK h9;exact Es ((dO e).E Γ Z _ X r _ k h8)) (λ_ _=>rfl) λ_ _ _ _ _ _ _ z=>z
 |ifS c a b ia ib=>exact Wz.x (λΓ Z X r st k kx hp hr h=>by obtain⟨v,hv,h9⟩:=aK h;obtain⟨p,rfl⟩:=AY hv;obtain⟨h1,h2,h3⟩:=aY h9;exact Kq ((dO c).T Γ Z _ X r _ k h1).1 (ia.L Γ Z X r _ k kx (λz=>hp (rV z)) (λz=>hr (rV z)) h2) (ib.L Γ Z X r _ k kx (λz=>hp (rW z)) (λz=>hr (rW z)) h3)) (λ_ _=>rfl) λ_ _ _ _ _ _ _ z=>z
 |bD t it b ib=>exact Wz.x (λΓ Z X r st k kx hp hr h=>by obtain⟨eA,h⟩:=aE h;obtain⟨⟨t',i,B,o⟩,hv,h9⟩:=aK h;obtain⟨p,rfl⟩:=rN hv;obtain⟨h1,h2,h3,h4⟩:=bK h9;obtain⟨h5,h6,h7⟩:=aY h1;cases fO h4;show PS X _ (jJ (tDW Z.K _) (tDG Z.K _) _);rw[k.kk];exact z9x (hp rfl) (k.ck.calm eA) ((all it).W Γ.g X r _ _ k.ck h6 h2) (yn k.ck h5) (ib.L Γ Z X r _ k kx (λ_=>hp rfl) (λ_=>hr rfl) h3) (wI h7 _)) (λ_ _=>rfl) λ_ _ _ _ _ _ _ z=>z
 |yE s=>exact Wz.x (λΓ Z X r st k kx hp hr h=>by show PS X _ (tDS Z.K _);rw[k.kk];exact(M5 s).R Γ.g X r st k.ck (hp rfl) h) (λ_ _=>rfl) λ_ _ _ _ _ _ _ z=>z
 |Ii o f e=>exact Wz.x (λΓ Z X r st k kx hp hr h=>by obtain⟨⟨ts,v⟩,hv,h9⟩:=aK h;obtain⟨p,rfl⟩:=oU hv;obtain⟨x,hx,h8⟩:=aK h9;cases fZ hx;obtain⟨⟨o',f',p'⟩,ho,h7⟩:=aK h8;cases AU ho;obtain⟨h1,h2,h3,h4⟩:=bK h7;have h1:f'=f:=eqB h1;subst h1;show PS X _ (Ic Z.K _ _ _);rw[k.kk];exact XQ ((dO o).E Γ Z _ X r _ k h3) ((dO e).E Γ Z _ X r _ k h4) (x6 (eQ h2) _ _ _)) (λ_ _=>rfl) λ_ _ _ _ _ _ _ z=>z
 |lZ t it b ib=>exact Wz.x (λΓ Z X r st k kx hp hr h=>by obtain⟨eA,h⟩:=aE h;obtain⟨⟨t',i,B,o⟩,hv,h9⟩:=aK h;obtain⟨p,rfl⟩:=rN hv;obtain⟨h1,h2,h3,h4⟩:=bK h9;obtain⟨h5,h7⟩:=aE h1;cases fO h4;show PS X _ (jJ (zf Z.K _) (tDG Z.K _) _);rw[k.kk];exact z9x (hp rfl) (k.ck.calm eA) (Kt ((dO it).E Γ Z _ X r _ k h2)) (yn k.ck h5) (ib.L Γ Z X r _ k kx (λ_=>hp rfl) (λ_=>hr rfl) h3) (wI h7 _)) (λ_ _=>rfl) λ_ _ _ _ _ _ _ z=>z
 |l' j it b ib=>exact Wz.x (λΓ Z X r st k kx hp hr h=>by obtain⟨eA,h⟩:=aE h;obtain⟨⟨t',i,B,o⟩,hv,h9⟩:=aK h;obtain⟨p,rfl⟩:=rN hv;obtain⟨h1,h2,h3,h4⟩:=bK h9;obtain⟨h5,h7⟩:=aE h1;cases fO h4;obtain⟨y,q,rfl,h5⟩:=iD h5;obtain⟨l1,l2,l3⟩:=k.ck.loc h5;show PS X _ (jJ (zf Z.K _) (pE _) _);rw[k.kk];exact z9x (hp rfl) (k.ck.calm eA) (Kt ((dO it).E Γ Z _ X r _ k h2)) (Ew (by rw[k.ck.hN];exact k.ck.nd) l1 l2 l3) (ib.L Γ Z X r _ k kx (λ_=>hp rfl) (λ_=>hr rfl) h3) (wI h7 _)) (λ_ _=>rfl) λ_ _ _ _ _ _ _ z=>z
 |hn c f h rest ih ir=>exact⟨λ_ _ _ _ _ _ _ _ _ h=>ff rfl h,λ_ _ _ _ _ _ _ _ _ h=>ff rfl h,w_hn ih ir⟩
section
variable {P:bx}{w:World}{K:W.Frag}{mg:Str->Option Value}{base:Heap}
theorem zsk {Z:Wc}{st:Stmt}(Fu:∃dV oc od kV doc pm an cdv ct osl,fd=W.fnOf x qual (z1a st) (z0o st) (z09 st) dV kV doc pm an cdv ct/\K.lookup f=some ⟨oc,od,.func fd,osl⟩/\W.codeIn K cdv qual=true)(Sc:FnScope Γ.g.N ps (z09 st))(hs:Γ.g.sc=z09 st)(hxc:Γ.g.xc=none)(dk:Dok Γ.g Z.Κ Z.Φ P w K mg base k)(zk:∀E,Zok Γ {Z with E:=E} (CXE P w base) P w K mg base k)(hxf:Γ.xf=none)(kf:Γ.fld=[]\/∀X,X.prog=P->X.w=w->X.K=K->X.mg=mg->X.base=base->Wfk Γ X k)(hc:wkL Γ s (z0o st)=true)
  (len:∀vs H Q E,sp vs H Q E->vs.length=ps.length) (run:∀vs H Q E,sp vs H Q E->wS {Z with E:=E} s {nx:=λ_ H'=>Q .bA H',rt:=Q} (start Γ.g.N vs) H):
  FnOk P w K mg base (CXE P w base) (k+1) f fd ps sp:=by
 obtain⟨dV,oc,od,kV,doc,pm,an,cdv,ct,osl,rfl,lk,hcd⟩:=Fu;refine zkj lk hcd Sc len λA outer s1 H vs Q E hr kH=>⟨_,(XY s).L Γ {Z with E:=E} (gL (CXE P w base) P w K mg base Γ.g.N qual (z09 st) f cdv A outer s1 H E) k _ ⟨zk E,⟨rfl,hs.symm,Sc.nd,λ_ _=>rfl,by rw[hs];exact Sc.kind,dk.free,dk.fns,dk.cst,dk.pP,λ_=>hr,λ_=>rfl,hr.units,λ_=>⟨rfl,rfl⟩,λ_ _ _ z=>(by cases z),λ_ _ z=>(by rw[hxc]at z;cases z),dk.xk⟩,λ_=>hr,λpins Y H1 s2 e s' I zz=>?_,(λf z=>by have z:Γ.xf=some f:=z;rw[hxf]at z;cases z),Ia⟩ (kf.elim (λe c fl z=>by rw[e]at z;cases z) λg=>g _ rfl rfl rfl rfl rfl) (λ_=>PassesOwn.leaving) (λ_ pins Y H1 s2 a C ob vs I q1 q2 q3 q4 q5 q6 q7=>?_) hc,run vs H Q E kH⟩
 ·obtain⟨a,C,dd,H',rfl,fl,q⟩:=zz;exact fl.leave (outer:=[]) I rfl rfl rfl λs3 fl=>⟨a,C,dd,H',rfl,fl,q⟩
 ·obtain⟨H2,s4,I2,n2⟩:=q2;refine zdb I ?_ q1 q3 q4 q5 q6 rfl rfl rfl λs3 fl=>⟨a,C,ob.dict,H1,rfl,fl,q7⟩;cases e:(gL (CXE P w base) P w K mg base Γ.g.N qual (z09 st) f cdv A outer s1 H E).s₀.heap.get? a with
  |none=>rfl
  |some o=>obtain⟨o',e'⟩:=I2.base.there a o e (by show a∉ [];simp);rw[n2]at e';cases e'
theorem Il {Z:Wc}{st:Stmt}(Fu:Fun K x qual st f fd)(Sc:FnScope Γ.g.N ps (z09 st))(hs:Γ.g.sc=z09 st)(hxc:Γ.g.xc=none)(dk:Dok Γ.g Z.Κ Z.Φ P w K mg base k)(zk:∀E,Zok Γ {Z with E:=E} (CXE P w base) P w K mg base k)(hxf:Γ.xf=none)(kf:Γ.fld=[]\/∀X,X.prog=P->X.w=w->X.K=K->X.mg=mg->X.base=base->Wfk Γ X k)(hc:wkL Γ s (z0o st)=true)
 (len:∀vs H Q E,sp vs H Q E->vs.length=ps.length) (run:∀vs H Q E,sp vs H Q E->wS {Z with E:=E} s {nx:=λ_ H'=>Q .bA H',rt:=Q} (start Γ.g.N vs) H):
 FnOk P w K mg base (CXE P w base) (k+1) f fd ps sp:=zsk ⟨_,Fu.ex⟩ Sc hs hxc dk zk hxf kf hc len run
end
abbrev rX:Ad->Prop:=λ_=>False
abbrev AnyB:Ad->Prop:=λ_=>True
abbrev F0 (H:Hp):Fm:=⟨H,λ_=>True,λ_=>none,True⟩
section
variable {K:W.Frag}{H H':Hp}
theorem Rep.old (r:Rep K H B v d):Rep K H (fR (F0 H)) v d:=(Rep.there _ r).weak λa h=>by
 cases a with
 |none=>exact trivial
 |some a=>exact⟨λz=>h.2 z,trivial⟩
theorem Dt (hl:Y.length=ρ.length)(h:∀(i:Nat) g (d:D),ρ[i]?=some (some (g,d))->g=G.od/\∃v B,Y[i]?=some (some v)/\Rep K H B v d):StOk K (F0 H) H Y ρ where
 ext:=Same.refl H
 aM:=λ_ _=>trivial
 own:=λa i e=>by cases e
 len:=hl
 sl:=λi g d e=>by obtain⟨rfl,v,B,e1,r⟩:=h i g d e;exact⟨v,e1,r.old⟩
end
namespace Ct
end Ct
end Mi
namespace Mi
open PySem PySem.Spec PyProof.Rows L2
structure rY where
 c:Str
 fl:Str
 B:Str
 cs:List (Str×Bool)
 st:Stmt
abbrev XD:=List Bool×List (Option (Option Value))×List (Option Bool)×List (Option (Bool×Option Value×Option Bool))×eh
def Oc (K:W.Frag)(A:Addr)(y:Str×Bool):Option (Bool×Option Value×Option Bool):=match W.nsIn K bz y.1 with
 |some (some (.ref E))=>some ((W.clsIn K E).isSome,W.typeIn K (.ref E),W.subIn K (.ref A) (.ref E))
 |_=>none
def tY (K:W.Frag)(r:rY):Option XD:=match W.nsIn K bz r.c,W.nsIn K bz r.B with
 |some (some (.ref A)),some (some (.ref D))=>(match K.lookup A with
  |some ⟨.type "type",_,.cls cd,_⟩=>(match W.nsIn K cd.ns "__init__"with
   |some (some (.ref f))=>(match K.lookup f with
    |some ⟨_,_,.func fd,_⟩=>some ([gD K A,cd.hasDict,W.isFn K (.ref f),W.codeIn K fd.code (r.c++"."++"__init__"),gD K D,(W.clsIn K A).isSome,W.keepIn K (.ref f)],
     [W.findIn K (.ref A) "__setattr__",W.findIn K (.ref A) r.fl,W.findIn K (.ref A) "__getattribute__",W.findIn K (.ref A) "__getattr__",W.findIn K (.ref A) "__class__"],
     [W.subIn K (.ref A) (.type "object"),W.subIn K (.ref A) (.type "BaseException"),W.subIn K (.ref A) (.type "ValueError"),W.subIn K (.ref A) (.ref D)],r.cs.map (Oc K A),fd)
    |_=>none)
   |_=>none)
  |_=>none)
 |_,_=>none
def Od (r:rY)(x:XD):XD:=([true,true,true,true,true,true,true],[some (some (.builtin "object.__setattr__")),some none,some (some (.builtin "BaseException.__getattribute__")),some none,some (some (.builtin "object.__class__"))],[some true,some true,some true,some true],r.cs.map (λy=>some (true,some (.type "type"),some y.2)),W.fnOf "__init__" (r.c++"."++"__init__") (z1a r.st) (z0o r.st) (z09 r.st) .none x.2.2.2.2.kwdefaults x.2.2.2.2.doc x.2.2.2.2.pyModule x.2.2.2.2.annotations x.2.2.2.2.code x.2.2.2.2.closureTuple)
def Oe (K:W.Frag)(g:Str×Int):Option Int:=match W.nsIn K bz g.1 with
 |some (some (.int n _))=>some n
 |_=>none
def KXq (K:fz->W.Frag)(rs:List rY)(gs:List (Str×Int)):Prop:=∀P,(rs.map (λr=>(tY (K P) r).isSome),rs.map (λr=>tY (K P) r),gs.map (Oe (K P)))=(rs.map (λ_=>true),rs.map (λr=>(tY (K P) r).map (Od r)),gs.map λg=>some g.2)
theorem KXq_r:KXq=KXq:=rfl
structure Of (K:W.Frag)(r:rY)(A D f:Addr)(fd:eh):Prop where
 ns:W.nsIn K bz r.c=some (some (.ref A))
 nb:W.nsIn K bz r.B=some (some (.ref D))
 xf:XF K A r.fl
 xa:XA K A
 xi:XI K A f
 fu:Fun K "__init__" (r.c++"."++"__init__") r.st f fd
 ed:gD K D=true
 sd:W.subIn K (.ref A) (.ref D)=some true
 sv:W.subIn K (.ref A) (.type "ValueError")=some true
 cs:∀y∈r.cs,∃E,W.nsIn K bz y.1=some (some (.ref E))/\(W.clsIn K E).isSome=true/\W.typeIn K (.ref E)=some (.type "type")/\W.subIn K (.ref A) (.ref E)=some y.2
theorem X0 {K:W.Frag}(h:(tY K r).isSome=true)(e:tY K r=(tY K r).map (Od r)):∃A D f fd,Of K r A D f fd:=by
 cases z:tY K r with
 |none=>rw[z]at h;cases h
 |some x=>
  rw[z]at e;have e:=vi e;unfold tY at z;split at z
  ·rename_i A D hA hD;split at z
   ·rename_i dd cd sl hl;split at z
    ·rename_i f hf;split at z
     ·rename_i oc od fd qC EU;have z:=vi z;rw[<-z]at e;obtain⟨e1,e⟩:=vj e;obtain⟨e2,e⟩:=vj e;obtain⟨e3,e⟩:=vj e;obtain⟨e4,e5⟩:=vj e;obtain⟨b1,e1⟩:=List.cons.inj e1;obtain⟨b2,e1⟩:=List.cons.inj e1;obtain⟨b3,e1⟩:=List.cons.inj e1;obtain⟨b4,e1⟩:=List.cons.inj e1;obtain⟨b5,e1⟩:=List.cons.inj e1;obtain⟨b6,e1⟩:=List.cons.inj e1;obtain⟨b7,_⟩:=List.cons.inj e1;obtain⟨c1,e2⟩:=List.cons.inj e2;obtain⟨c2,e2⟩:=List.cons.inj e2;obtain⟨c3,e2⟩:=List.cons.inj e2;obtain⟨c4,e2⟩:=List.cons.inj e2;obtain⟨c5,_⟩:=List.cons.inj e2;obtain⟨d1,e3⟩:=List.cons.inj e3;obtain⟨d2,e3⟩:=List.cons.inj e3;obtain⟨d3,e3⟩:=List.cons.inj e3;obtain⟨d4,_⟩:=List.cons.inj e3;refine⟨A,D,f,fd,hA,hD,⟨b1,λhW GZ y7 q=>by rw[hl]at q;cases q;exact b2,c1,c2,c3,c4,d1,d2⟩,⟨c5,c3,c4,d1,d2,?_,b6,b1⟩,⟨λhW GZ y7 q=>by rw[hl]at q;cases q;exact hf,b3⟩,⟨⟨oc,od,fd.kwdefaults,fd.doc,fd.pyModule,fd.annotations,fd.code,fd.closureTuple,qC,e5,EU,b4⟩,b7⟩,b5,d4,d3,λy hy=>?_⟩
      ·show(K.lookup A).map (·.cls)=_;rw[hl];rfl
      ·have q:=eg.mp e4 y hy;unfold Oc at q;split at q
       ·rename_i E hE;obtain⟨q1,q⟩:=vj (vi q);obtain⟨q2,q3⟩:=vj q;exact⟨E,hE,q1,q2,q3⟩
       ·cases q
     ·cases z
    ·cases z
   ·cases z
  ·cases z
theorem X1 {K:fz->W.Frag}(h:KXq K rs gs)(P:fz):(∀r∈rs,∃A D f fd,Of (K P) r A D f fd)/\∀g∈gs,∃t,W.nsIn (K P) bz g.1=some (some (.int g.2 t)):=by
 obtain⟨h1,h2⟩:=vj (h P);obtain⟨h2,h3⟩:=vj h2;refine⟨λr hr=>X0 (eg.mp h1 r hr) (eg.mp h2 r hr),λg hg=>?_⟩;have q:=eg.mp h3 g hg;unfold Oe at q;split at q
 ·rename_i n t e;cases q;exact⟨t,e⟩
 ·cases q
end Mi
name_quick tkxq for Mi.KXq by Mi.KXq_r
namespace Mi
open PySem PySem.Spec PyProof.Rows L2
end Mi
namespace Mi
open PySem PySem.Spec PyProof.Rows L2
section
variable {K:W.Frag}
theorem Reps.Im (h:H l=some (.lst zs))(r:Reps K H rX vs ds):Reps K (upd H l (.lst ys)) rX vs ds:=
 Reps.keep (λa o e z=>by
  rw[aL]
  ·exact e
  ·rintro rfl
   rw[h]at e;cases e;exact z.elim id id) (λ_ z=>z) _ r
theorem zl9 (r:Rep K H B v d)(hi:i<Y.length)
  (q:∀σ' w,σ'.length=Y.length->σ'[i]?=some (some w)->Rep K H AnyB w d->(∀j,j≠i->σ'[j]?=Y[j]?)->Q σ' H):tDG K (.nm i) v Y H Q:=by
 refine⟨ba Y.length none,F0 H,(.od,d),(ba Y.length none).set i (some (z2d (.od,d))),Dt (by rw[cf]) λj g d' e=>?_,r.old,rfl,λσ' F' so kp=>?_⟩
 ·rw[dq]at e;split at e<;>cases e
 ·have e1:((ba Y.length none).set i (some (z2d (G.od,d))))[i]?=some (some (z2d (G.od,d))):=by
   rw[cq];rw[cf];exact hi
  obtain⟨w,e2,r2⟩:=so.sl i _ _ e1;exact q σ' w kp.len e2 (r2.weak λ_ _=>trivial) λj hj=>kp.rest j (by simpa[tgIx]using hj)
theorem zw9 (r:Rep K H B v (.tuple [a,b]))(hi:i<Y.length)(hj:j<Y.length)(hij:i≠j)
  (q:∀σ' u w,σ'.length=Y.length->σ'[i]?=some (some u)->σ'[j]?=some (some w)->Rep K H AnyB u a->Rep K H AnyB w b->(∀k,k≠i->k≠j->σ'[k]?=Y[k]?)->Q σ' H):tDG K (.tp [i,j]) v Y H Q:=by
 have h9:∀g e,z2d (g,e)=(.od,e)\/z2d (g,e)=(.al,e):=λg e=>by cases g<;>first|exact .inl rfl|exact .inr rfl
 refine⟨ba Y.length none,F0 H,(.od,.tuple [a,b]),((ba Y.length none).set i (some (z2d (gJ a .od,a)))).set j (some (z2d (gJ b .od,b))),Dt (by rw[cf]) λj g d' e=>?_,r.old,rfl,λσ' F' so kp=>?_⟩
 ·rw[dq]at e;split at e<;>cases e
 ·have sl:∀k e g,(((ba Y.length none).set i (some (z2d (gJ a .od,a)))).set j (some (z2d (gJ b .od,b))))[k]?=some (some (z2d (g,e)))->∃v,σ'[k]?=some (some v)/\Rep K H AnyB v e:=fun k e g h=>by
   rcases h9 g e with h8|h8
   ·rw[h8]at h;obtain⟨v,e1,r1⟩:=so.sl k _ _ h;exact⟨v,e1,r1.weak λ_ _=>trivial⟩
   ·rw[h8]at h;obtain⟨v,e1,r1⟩:=so.sl k _ _ h;exact⟨v,e1,r1.weak λ_ _=>trivial⟩
  obtain⟨u,e1,r1⟩:=sl i a _ (by rw[ci (Ne.symm hij),cq];rw[cf];exact hi);obtain⟨w,e2,r2⟩:=sl j b _ (by rw[cq];rw[cu,cf];exact hj);exact q σ' u w kp.len e1 e2 r1 r2 λk h1 h2=>kp.rest k (by simpa[tgIx]using⟨h1,h2⟩)
end
section
variable {Z:Wc}{Y:L2.St}{H:Hp}{Q:VK}
theorem Og:StOk Z.K (F0 H) H Y (ba Y.length none):=Dt (by rw[cf]) λi g d e=>by rw[dq]at e;split at e<;>cases e
theorem yF (q:∀H',Same H H'->Q (.int n) H'):wE Z (.bV (.int n)) Y H Q:=⟨_,F0 H,(.fr,.int n),Og,rfl,λv H1 s1 r=>by cases r;exact q H1 s1⟩
theorem Du (hx:PyData.strOk x=true)(q:∀H',Same H H'->Q (.str x) H'):wE Z (.bV (.str x)) Y H Q:=⟨_,F0 H,(.fr,.str x),Og,rfl,λv H1 s1 r=>by cases r.1;exact q H1 s1⟩
theorem Oh {K:W.Frag}(rx:Rep K H B x dx)(ry:Rep K H B' y dy)(e:cmpD op dx dy=.ok b)(q:∀H',Same H H'->Q (.bl b) H'):qV K (mB (cmpD op)) x y H Q:=⟨B,B',dx,dy,.bool b,rx,ry,by show(cmpD op dx dy>>=λb=>Res.ok (PyData.bool b))=_;rw[e];rfl,λw H' s r=>by cases r;exact q H' s⟩
theorem X2 {K:W.Frag}(rx:Rep K H B x dx)(e:jB dx (.int i)=.ok d)(q:∀w,Rep K H B w d->Q w H):oJ K x (.int i) H Q:=⟨B,AnyB,dx,.int i,d,rx,rfl,e,q⟩
theorem Io (so:StOk Z.K (F0 H) H Y ρ)(e:aG Z.Κ Z.Φ c ρ=.ok (g,d))(q:∀v H',Same H H'->Rep Z.K H' AnyB v d->Q v H'):wE Z (.bV c) Y H Q:=⟨ρ,F0 H,(g,d),so,e,λv H' s r=>q v H' s (r.weak λ_ _=>trivial)⟩
theorem X3 (so:StOk Z.K (F0 H) H Y ρ)(e:eL Z.Κ Z.Φ c ρ=.ok b)(q:∀H',Same H H'->R b H'):wT Z (.tp c) Y H R:=⟨ρ,F0 H,b,so,e,q⟩
theorem X4 (q:wE Z a Y H λx H1=>wE Z b Y H1 λy H2=>oJ Z.K x y H2 Q):wE Z (.ix a b) Y H Q:=q
theorem yG (q:wE Z a Y H λx H1=>wE Z b Y H1 λy H2=>vH Z.K x y H2 Q):wE Z (.mY a b) Y H Q:=q
theorem X5 (q:wE Z a Y H λx H1=>wE Z b Y H1 λy H2=>qV Z.K (mB (cmpD op)) x y H2 Q):wE Z (.cmp op a b) Y H Q:=q
theorem cS (q:wE Z a Y H λx H1=>wA Z r Y H1 λxs H2=>R (x::xs) H2):wA Z (.cons a r) Y H R:=q
theorem gE (q:R [] H):wA Z .nil Y H R:=q
theorem cG (e:Y[i]?=some (some v))(q:Q v H):wE Z (.raw i) Y H Q:=⟨v,e,q⟩
theorem X6 (q:wE Z a Y H λx H1=>wE Z b Y H1 λy H2=>qV Z.K (mB (cmpD op)) x y H2 λz H3=>∃k,z=.bl k/\R k H3):wT Z (.tc op a b) Y H R:=q
theorem Oi (q:wA Z xs Y H λvs H1=>vs.length<=bc/\∀p,H1 p=none->Q (.ref p) (upd H1 p (.tup vs))):wE Z (.tup xs) Y H Q:=q
theorem oX (q:wA Z xs Y H λvs H1=>vs.length<=bc/\∀p,H1 p=none->Q (.ref p) (upd H1 p (.lst vs))):wE Z (.lst xs) Y H Q:=q
theorem Oj (q:wE Z it Y H (HY Z.K en λJ H1=>∀l,H1 l=none->∃P:Nat->Nat->List V->Hp->Prop,(∃m,P 0 m [] (upd H1 l (.lst [])))/\∀i m acc H2,P i m acc H2->(J.stop i H2/\Q (.ref l) H2)\/(J.go i H2/\acc.length<bc/\∃N:List V->Hp->Prop,(∀acc' H',N acc' H'->∃m',m'<m/\P (i+1) m' acc' H')/\∀x H3,J.iM i H2 x H3->tDG Z.K t x (eU nt js Y) H3 λdC H4=>gP (eU nt js Y) dC/\wT {Z with E:=λ_ _ _=>False,xf:=none} c dC H4 λb H5=>if b=true then wE {Z with E:=λ_ _ _=>False,xf:=none} e dC H5 λy H6=>H6 l=some (.lst acc)/\N (acc++[y]) (upd H6 l (.lst (acc++[y])))else N acc H5))):wE Z (.lc nt js N' t en it c e) Y H Q:=q
end
mutual
theorem tI:∀(d:ao) (n:Nat),aP n d=true->PyData.eqv d d=true
 |.none,_,_=>rfl
 |.bool b,_,_=>by cases b<;>rfl
 |.int i,_,_=>by rw[PyData.eqv];exact vn rfl
 |.str s,_,_=>by rw[PyData.eqv];exact beq_self_eq_true s
 |.tuple xs,0,h=>by cases h
 |.list xs,0,h=>by cases h
 |.tuple xs,n+1,h=>by rw[PyData.eqv];exact wR xs n h
 |.list xs,n+1,h=>by rw[PyData.eqv];exact wR xs n h
 |.dict es,n,h=>by cases n<;>cases h
theorem wR:∀(ds:List ao) (n:Nat),cR n ds=true->PyData.eqvAll ds ds=true
 | [],_,_=>rfl
 |d::ds,n,h=>by obtain⟨h1,h2⟩:=av.mp h;rw[PyData.eqvAll,tI d n h1,wR ds n h2];rfl
end
theorem Ip (h:aP 40 d=true):cmpD .NotEq d d=.ok false:=by show(if(aP 40 d&&aP 40 d)=true then Res.ok (!cQ d d)else Res.no)=_;rw[h,show cQ d d=true from tI d 40 h];rfl
end Mi
namespace Mk
open PySem Mi
def Bl:S:=(.seq (.ifS (.not (.and (.tv (.pI (.var 0) ["str"])) (.tv (.cmp .In (.var 0) (.tup (.cons (.str "for") (.cons (.str "against") .nil)))))))
 (.seq .bad
 .nil)
 .nil)
 .nil)
def rZ:Fn:=aS [] [] 1 Bl
def Bm:S:=(.seq (.drop (.call 0 "check_side" (.cons (.var 0) .nil)))
 (.seq (.ret (.oE (.tv (.cmp .Eq (.var 0) (.str "for"))) (.str "against") (.str "for")))
 .nil))
def mD:Fn:=aS [] [rZ] 1 Bm
def Bo:S:=(.seq (.drop (.call 0 "check_side" (.cons (.var 1) .nil)))
 (.seq (.ret (.oE (.tv (.cmp .Eq (.var 1) (.str "for"))) (.ix (.var 0) (.int 0)) (.ix (.var 0) (.int 1))))
 .nil))
def iW:Fn:=aS [] [rZ] 2 Bo
def wU:S:=(.seq (.asg (.nm 1) .fI)
 (.seq (.bD (.tp [2,3]) (.tv (.var 0))
 (.seq (.eK 1 (.var 2) (.bi "max" (.cons (.var 3) (.cons (.mt "get" (.var 1) (.cons (.var 2) (.cons (.int 0) .nil))) .nil))))
 .nil))
 (.seq (.ret (.eD "tuple" (.tv (.comp 1 [] ["pair"] (.nm 0) (.tv (.sortI 1)) (.tv (.cmp .Gt (.ix (.var 0) (.int 1)) (.int 0))) (.var 0)))))
 .nil)))
def mE:Fn:=aS [] [] 4 wU
def wV:S:=(.seq (.ret (.mt "get" (.eD "dict" (.tv (.var 0))) (.cons (.var 1) (.cons (.int 0) .nil)))) .nil)
def mF:Fn:=aS [] [] 2 wV
def wW:S:=(.seq (.asg (.nm 2) (.eD "dict" (.tv (.var 1))))
 (.seq (.ret (.comp 2 [2] ["name","amount","held"] (.tp [0,1]) (.tv (.var 0)) (.tv (.cmp .Gt (.var 1) (.mt "get" (.var 2) (.cons (.var 0) (.cons (.int 0) .nil))))) (.var 0)))
 .nil))
def kB:Fn:=aS [] [] 3 wW
def wY:S:=(.seq (.ret (.cmp .Eq (.call 0 "over" (.cons (.var 0) (.cons (.var 1) .nil))) (.lst .nil))) .nil)
def sE:Fn:=aS [] [kB] 2 wY
def wZ:S:=(.seq (.ifS (.not (.tv (.call 0 "within" (.cons (.var 2) (.cons (.call 1 "side_of" (.cons (.var 0) (.cons (.var 1) .nil))) .nil)))))
 (.seq .bad
 .nil)
 .nil)
 (.seq (.ret (.tup (.cons (.var 0) (.cons (.var 1) (.cons (.var 2) .nil)))))
 .nil))
def sG:Fn:=aS [] [sE,iW] 3 wZ
def xb:S:=(.seq (.ret (.call 0 "side_of" (.cons (.ix (.var 0) (.int 0)) (.cons (.call 1 "other_side" (.cons (.ix (.var 0) (.int 1)) .nil)) .nil)))) .nil)
def mG:Fn:=aS [] [iW,mD] 1 xb
def xg:S:=(.seq (.asg (.nm 2) (.ix (.var 0) (.int 1)))
 (.seq (.asg (.nm 3) (.call 0 "over" (.cons (.ix (.var 0) (.int 2)) (.cons (.call 2 "side_of" (.cons (.var 1) (.cons (.var 2) .nil))) .nil))))
 (.seq (.asg (.nm 4) (.call 0 "over" (.cons (.call 2 "side_of" (.cons (.var 1) (.cons (.call 3 "other_side" (.cons (.var 2) .nil)) .nil))) (.cons (.call 1 "opposed_of" (.cons (.var 0) .nil)) .nil))))
 (.seq (.ret (.bin .Add (.comp 1 [] ["name"] (.nm 0) (.tv (.var 3)) .nil (.tup (.cons (.str "less") (.cons (.var 0) .nil)))) (.comp 1 [] ["name"] (.nm 0) (.tv (.var 4)) .nil (.tup (.cons (.str "more") (.cons (.var 0) .nil))))))
 .nil))))
def sI:Fn:=aS [] [kB,mG,iW,mD] 5 xg
def Iq:S:=(.seq (.ret (.cmp .Eq (.call 0 "apart" (.cons (.var 0) (.cons (.var 1) .nil))) (.lst .nil))) .nil)
def xh:Fn:=aS [] [sI] 2 Iq
def Dv:S:=(.seq (.bD (.tp [2,3]) (.enum (.var 0))
 (.seq (.ifS (.tv (.call 0 "binds" (.cons (.var 3) (.cons (.var 1) .nil))))
 (.seq (.ret (.tup (.cons (.ix (.var 3) (.int 1)) (.cons (.var 2) .nil))))
 .nil)
 .nil)
 .nil))
 (.seq (.ret .bA)
 .nil))
def Ir:Fn:=aS [] [xh] 4 Dv
def Iu:S:=(.seq (.ret (.call 0 "ruling" (.cons (.var 0) (.cons (.var 1) (.cons (.call 1 "side_of" (.cons (.var 0) (.cons (.var 1) .nil))) .nil))))) .nil)
def Dw:Fn:=aS [] [sG,iW] 2 Iu
def Iv:S:=(.seq (.asg (.nm 2) (.comp 1 [] ["row"] (.nm 0) (.tv (.var 0)) (.tv (.cmp .Eq (.ix (.var 0) (.int 0)) (.str "fact"))) (.ix (.var 0) (.int 1))))
 (.seq (.ret (.eD "tuple" (.tv (.comp 1 [2] ["pair","facts"] (.nm 0) (.tv (.var 1)) (.tv (.cmp .In (.ix (.var 0) (.int 0)) (.var 1))) (.var 0)))))
 .nil))
def Dx:Fn:=aS [] [] 3 Iv
def Iw:S:=(.seq (.ret (.call 0 "greatest" (.cons (.comp 1 [2,1] ["name","words","thing"] (.nm 0) (.tv (.var 0)) .nil (.tup (.cons (.var 0) (.cons (.oE (.tv (.cmp .In (.var 0) (.var 1))) (.int 1) (.call 1 "degree" (.cons (.var 2) (.cons (.var 0) .nil)))) .nil)))) .nil))) .nil)
def Dy:Fn:=aS [] [mE,mF] 3 Iw
def Iy:S:=(.seq (.ret (.tup (.cons (.call 0 "pack_of" (.cons (.ix (.var 0) (.int 2)) (.cons (.var 1) (.cons (.var 2) .nil)))) (.cons (.call 0 "pack_of" (.cons (.ix (.var 0) (.int 3)) (.cons (.var 1) (.cons (.var 2) .nil)))) .nil)))) .nil)
def Dz:Fn:=aS [] [Dy] 3 Iy
def Iz:S:=(.seq (.ret (.bin .Mult (.bi "len" (.cons (.comp 1 [] ["row"] (.nm 0) (.tv (.var 0)) (.tv (.cmp .Eq (.ix (.var 0) (.int 0)) (.str "open"))) (.var 0)) .nil)) (.var 1))) .nil)
def DA:Fn:=aS [] [] 2 Iz
def Ol:S:=(.seq (.ifS (.tv (.cmp .Lt (.var 1) (.bi "len" (.cons (.var 0) .nil))))
 (.seq (.ret (.ix (.var 0) (.var 1)))
 .nil)
 .nil)
 (.seq (.ret (.int 0))
 .nil))
def Bp:Fn:=aS [] [] 2 Ol
def IA:S:=(.seq (.asg (.nm 2) (.bin .Add (.bin .Add (.bin .Mod (.var 0) (.int 1000000007)) (.bin .Mult (.int 31) (.var 1))) (.int 1)))
 (.seq (.ret (.bin .Mod (.bin .Mult (.bin .Mod (.bin .Mult (.var 2) (.var 2)) (.int 2147483629)) (.bin .Add (.var 1) (.int 7))) (.int 2147483647)))
 .nil))
def z4u:Fn:=aS [] [] 3 IA
def Om:S:=(.seq (.ifS (.tv (.var 1))
 (.seq (.ret (.bin .Mod (.var 0) (.int 3)))
 .nil)
 .nil)
 (.seq (.ret (.ix (.lst (.cons (.bin .Mod (.var 0) (.int 3)) (.cons (.bin .Mod (.bin .Mult (.bin .Mult (.var 0) (.int 48271)) (.int 1442695040888963407)) (.bin .Add (.bin .Pow (.int 10) (.int 30)) (.int 1))) .nil))) (.bin .Mod (.bin .FloorDiv (.var 0) (.int 3)) (.int 2))))
 .nil))
def yH:Fn:=aS [] [] 2 Om
def DB:S:=(.seq (.asg (.nm 3) (.lst .nil))
 (.seq (.bD (.tp [4,5]) (.enum (.var 0))
 (.seq (.asg (.nm 6) (.call 0 "_law_degree" (.cons (.call 1 "_law_mix" (.cons (.var 1) (.cons (.bin .Add (.int 3) (.var 4)) .nil))) (.cons (.var 2) .nil))))
 (.seq (.ifS (.tv (.cmp .Gt (.var 6) (.int 0)))
 (.seq (.mut "append" 3 (.cons (.tup (.cons (.var 5) (.cons (.var 6) .nil))) .nil))
 .nil)
 .nil)
 .nil)))
 (.seq (.ret (.eD "tuple" (.tv (.var 3))))
 .nil)))
def zax:Fn:=aS [] [yH,z4u] 7 DB
def IB:S:=(.seq (.bD (.tp [2,3]) (.tv (.var 0))
 (.seq (.ifS (.tv (.cmp .Eq (.comp 1 [2,3] ["_law_more","_law_name","_law_count"] (.nm 0) (.tv (.var 1)) (.and (.tv (.cmp .Eq (.ix (.var 0) (.int 0)) (.var 1))) (.tv (.cmp .GtE (.ix (.var 0) (.int 1)) (.var 2)))) (.var 0)) (.lst .nil)))
 (.seq (.ret (.bl false))
 .nil)
 .nil)
 .nil))
 (.seq (.ret (.bl true))
 .nil))
def tZ:Fn:=aS [] [] 4 IB
def IC:S:=(.seq (.asg (.nm 2) (.bi "int" (.cons (.cmp .Eq (.ix (.var 0) (.int 1)) (.str "against")) .nil)))
 (.seq (.ret (.and (.call 0 "_law_within" (.cons (.ix (.var 0) (.int 2)) (.cons (.ix (.var 1) (.var 2)) .nil))) (.call 0 "_law_within" (.cons (.ix (.var 1) (.bin .Sub (.int 1) (.var 2))) (.cons (.ix (.ix (.var 0) (.int 0)) (.bin .Sub (.int 1) (.var 2))) .nil)))))
 .nil))
def Bq:Fn:=aS [] [tZ] 3 IC
def ID:S:=(.seq (.ifS (.tv (.cmp .Eq (.ix (.var 0) (.int 1)) (.ix (.var 1) (.int 1))))
 (.seq (.ret (.bl false))
 .nil)
 .nil)
 (.seq (.asg (.nm 2) (.bi "int" (.cons (.cmp .Eq (.ix (.var 0) (.int 1)) (.str "against")) .nil)))
 (.seq (.ret (.and (.call 0 "_law_within" (.cons (.ix (.var 1) (.int 2)) (.cons (.ix (.ix (.var 0) (.int 0)) (.bin .Sub (.int 1) (.var 2))) .nil))) (.call 0 "_law_within" (.cons (.ix (.var 0) (.int 2)) (.cons (.ix (.ix (.var 1) (.int 0)) (.var 2)) .nil)))))
 .nil)))
def Br:Fn:=aS [] [tZ] 3 ID
def DC:S:=(.seq (.asg (.nm 4) (.lst .nil))
 (.seq (.bD (.nm 5) (.fM (.cons (.bin .Mod (.call 0 "_law_cell_at" (.cons (.var 0) (.cons (.int 1) .nil))) (.int 6)) .nil))
 (.seq (.asg (.nm 6) (.call 0 "_law_cell_at" (.cons (.var 0) (.cons (.bin .Add (.int 10) (.var 5)) .nil))))
 (.seq (.asg (.nm 7) (.tup (.cons (.call 3 "_law_pack" (.cons (.var 1) (.cons (.var 6) (.cons (.var 3) .nil)))) (.cons (.call 3 "_law_pack" (.cons (.var 2) (.cons (.call 2 "_law_mix" (.cons (.var 6) (.cons (.int 20) .nil))) (.cons (.var 3) .nil)))) .nil))))
 (.seq (.asg (.nm 8) (.bin .Mod (.call 2 "_law_mix" (.cons (.var 6) (.cons (.int 21) .nil))) (.int 2)))
 (.seq (.asg (.nm 9) (.eD "tuple" (.tv (.comp 2 [6] ["_law_j","_law_pair","_law_cell"] (.tp [0,1]) (.enum (.ix (.var 7) (.var 8))) (.tv (.cmp .Eq (.bin .Mod (.call 2 "_law_mix" (.cons (.var 2) (.cons (.bin .Add (.int 22) (.var 0)) .nil))) (.int 2)) (.int 0))) (.var 1)))))
 (.seq (.asg (.nm 10) (.tup (.cons (.var 7) (.cons (.ix (.lst (.cons (.str "for") (.cons (.str "against") .nil))) (.var 8)) (.cons (.var 9) .nil)))))
 (.seq (.ifS (.tv (.cmp .NotIn (.bl true) (.comp 1 [10] ["_law_other","_law_one"] (.nm 0) (.tv (.var 4)) .nil (.call 1 "_law_against" (.cons (.var 1) (.cons (.var 0) .nil))))))
 (.seq (.mut "append" 4 (.cons (.var 10) .nil))
 .nil)
 .nil)
 .nil)))))))
 (.seq (.ret (.var 4))
 .nil)))
def IE:Fn:=aS [] [Bp,Br,z4u,zax] 11 DC
def IF:S:=(.seq (.bD (.nm 2) (.tv (.var 0))
 (.seq (.ifS (.tv (.call 0 "_law_binds" (.cons (.var 2) (.cons (.var 1) .nil))))
 (.seq (.ret (.ix (.var 2) (.int 1)))
 .nil)
 .nil)
 .nil))
 (.seq (.ret .bA)
 .nil))
def kP:Fn:=aS [] [Bq] 3 IF
def IG:S:=(.seq (.asg (.nm 1) (.int 1))
 (.seq (.bD (.nm 2) (.fM (.cons (.var 0) .nil))
 (.seq (.asg (.nm 1) (.bin .Mult (.var 1) (.int 2)))
 .nil))
 (.seq (.ret (.var 1))
 .nil)))
def yI:Fn:=aS [] [] 3 IG
def Bt:S:=(.seq (.asg (.nm 3) (.comp 1 [2,0] ["_law_k","_law_code","_law_cases"] (.nm 0) (.fM (.cons (.bi "len" (.cons (.var 0) .nil)) .nil)) .nil (.cmp .Eq (.bin .Mod (.bin .FloorDiv (.var 1) (.call 1 "_law_two" (.cons (.bin .Sub (.bin .Sub (.bi "len" (.cons (.var 2) .nil)) (.int 1)) (.var 0)) .nil))) (.int 2)) (.int 0))))
 (.seq (.bD (.nm 4) (.fM (.cons (.bi "len" (.cons (.var 0) .nil)) .nil))
 (.seq (.ifS (.and (.tv (.jA true (.ix (.var 1) (.var 4)))) (.tv (.cmp .NotEq (.ix (.var 3) (.var 4)) (.cmp .Eq (.ix (.var 1) (.var 4)) (.str "for")))))
 (.seq (.ret .bA)
 .nil)
 .nil)
 (.seq (.bD (.nm 5) (.fM (.cons (.bi "len" (.cons (.var 0) .nil)) .nil))
 (.seq (.asg (.nm 6) (.and (.call 0 "_law_within" (.cons (.ix (.ix (.var 0) (.var 4)) (.int 0)) (.cons (.ix (.ix (.var 0) (.var 5)) (.int 0)) .nil))) (.call 0 "_law_within" (.cons (.ix (.ix (.var 0) (.var 5)) (.int 1)) (.cons (.ix (.ix (.var 0) (.var 4)) (.int 1)) .nil)))))
 (.seq (.ifS (.and (.tv (.var 6)) (.and (.tv (.ix (.var 3) (.var 4))) (.not (.tv (.ix (.var 3) (.var 5))))))
 (.seq (.ret .bA)
 .nil)
 .nil)
 .nil)))
 .nil)))
 (.seq (.ret (.var 3))
 .nil)))
def DD:Fn:=aS [] [tZ,yI] 7 Bt
def DE:S:=(.seq (.asg (.nm 3) (.eD "list" (.tv (.var 2))))
 (.seq (.asg (.nm 4) (.lst .nil))
 (.seq (.bD (.tp [5,6]) (.enum (.var 0))
 (.seq (.ifS (.tv (.jA false (.call 0 "_law_side" (.cons (.var 3) (.cons (.var 6) .nil)))))
 (.seq (.asg (.nm 7) (.ix (.lst (.cons (.str "against") (.cons (.str "for") .nil))) (.bi "int" (.cons (.ix (.var 1) (.var 5)) .nil))))
 (.seq (.asg (.nm 8) (.tup (.cons (.var 6) (.cons (.var 7) (.cons (.ix (.var 6) (.bi "int" (.cons (.cmp .Eq (.var 7) (.str "against")) .nil))) .nil)))))
 (.seq (.mut "append" 4 (.cons (.tup (.cons (.str "cruel") (.cons (.var 5) (.cons (.var 8) .nil)))) .nil))
 (.seq (.mut "append" 3 (.cons (.var 8) .nil))
 .nil))))
 .nil)
 .nil))
 (.seq (.ret (.tup (.cons (.var 4) (.cons (.comp 1 [] ["_law_holding"] (.nm 0) (.tv (.var 1)) .nil (.rep (.cons (.str "cruel") .nil) (.bi "int" (.cons (.var 0) .nil)))) .nil))))
 .nil))))
def IH:Fn:=aS [] [kP] 9 DE
section
variable {R C:Type}(bi:R->C->Bool)(sd:R->Bool)(full:C->Bool->R)(st:C->C->Bool)
def bnd:List R->C->Option Bool
 | [],_=>none
 |r::rs,c=>if bi r c then some (sd r)else bnd rs c
structure Bk:Prop where
 sf:∀c b,sd (full c b)=b
 t1:∀c c',bi (full c true) c'=st c c'
 t2:∀c c',bi (full c false) c'=st c' c
 rf:∀c,st c c=true
 up:∀r c c',sd r=true->bi r c=true->st c c'=true->bi r c'=true
 dn:∀r c c',sd r=false->bi r c=true->st c' c=true->bi r c'=true
def Cons (l:List R):Prop:=∀r∈l,∀r'∈l,∀c,bi r c=true->bi r' c=true->sd r=sd r'
def z1u (book:List R)(c:C)(x:List R×List Bool):List (List R×List Bool):=
 match bnd bi sd (book++x.1) c with
 |some s=>[(x.1,x.2++[s])]
 |none=>[(x.1++[full c true],x.2++[true]),(x.1++[full c false],x.2++[false])]
def kC (book:List R)(cs:List C):List (List R×List Bool):=cs.foldl (λl c=>l.flatMap (z1u bi sd full book c)) [([],[])]
def bits:Nat->List (List Bool)
 |0=>[[]]
 |m+1=>(bits m).flatMap λd=>[d++[true],d++[false]]
def eZ (book:List R)(o:List R)(p:C×Bool):List R:=if bnd bi sd (book++o) p.1=none then o++[full p.1 p.2]else o
def aZ (book:List R)(cs:List C)(d:List Bool):List R:=(cs.zip d).foldl (eZ bi sd full book) []
def okR (book:List R)(cs:List C)(d:List Bool):Prop:=(∀p∈cs.zip d,∀s,bnd bi sd book p.1=some s->p.2=s)/\∀p∈cs.zip d,∀q∈cs.zip d,st p.1 q.1=true->p.2=true->q.2=true
variable {bi sd full st}
theorem DF {l:List R}{c:C}{s:Bool}(h:bnd bi sd l c=some s):∃r∈l,bi r c=true/\sd r=s:=by
 induction l with
 |nil=>cases h
 |cons r l ih=>
  unfold bnd at h;by_cases e:bi r c=true
  ·rw[vg e]at h;cases h;exact⟨r,.head _,e,rfl⟩
  ·rw[vh e]at h;obtain⟨r',h1,h2⟩:=ih h;exact⟨r',.tail _ h1,h2⟩
theorem DG {l:List R}{c:C}:bnd bi sd l c=none↔∀r∈l,bi r c=false:=by
 induction l with
 |nil=>exact⟨λ_ r h=>(by cases h),λ_=>rfl⟩
 |cons r l ih=>
  unfold bnd;by_cases e:bi r c=true
  ·rw[vg e];exact⟨λh=>(by cases h),λh=>by rw[h r (.head _)]at e;cases e⟩
  ·rw[vh e,ih];refine⟨λh r' hr=>?_,λh r' hr=>h r' (.tail _ hr)⟩;rcases ak.mp hr with rfl|hr
   ·exact m9.mpr e
   ·exact h r' hr
theorem DH {l:List R}{c:C}{r:R}(h:Cons bi sd l)(hr:r∈l)(e:bi r c=true):bnd bi sd l c=some (sd r):=by
 cases hb:bnd bi sd l c with
 |none=>rw[DG.mp hb r hr]at e;cases e
 |some s=>obtain⟨r',h1,h2,h3⟩:=DF hb;rw[<-h3,h r' h1 r hr c h2 e]
theorem X7 (k:Bk bi sd full st){l:List R}{c:C}{b:Bool}(h:Cons bi sd l)(hn:bnd bi sd l c=none):Cons bi sd (l++[full c b]):=by
 have hn:=DG.mp hn
 have one:∀r∈l,∀x,bi r x=true->bi (full c b) x=true->sd r=b:=λr hr x h1 h2=>by
  cases b with
  |true=>
   rw[k.t1]at h2;cases hs:sd r with
   |true=>rfl
   |false=>have:=k.dn r x c hs h1 h2;rw[hn r hr]at this;cases this
  |false=>
   rw[k.t2]at h2;cases hs:sd r with
   |false=>rfl
   |true=>have:=k.up r x c hs h1 h2;rw[hn r hr]at this;cases this
 intro r hr r' mH x h1 h2;rcases bo.mp hr with hr|hr<;>rcases bo.mp mH with mH|mH
 ·exact h r hr r' mH x h1 h2
 ·rw[am.mp mH]at h2 ⊢;rw[one r hr x h1 h2,k.sf]
 ·rw[am.mp hr]at h1 ⊢;rw[one r' mH x h2 h1,k.sf]
 ·rw[am.mp hr,am.mp mH]
theorem xl {α β:Type}{a:List α}{b:List β}{x:α}{y:β}(h:b.length=a.length):(a++[x]).zip (b++[y])=a.zip b++[(x,y)]:=by rw[List.zip_append h.symm];rfl
theorem DI {book:List R}{cs:List C}{d:List Bool}{c:C}{b:Bool}(h:d.length=cs.length):aZ bi sd full book (cs++[c]) (d++[b])=eZ bi sd full book (aZ bi sd full book cs d) (c,b):=by unfold aZ;rw[xl h,la];rfl
structure Gd (bi:R->C->Bool)(sd:R->Bool)(full:C->Bool->R)(book:List R)(cs:List C)(d:List Bool):Prop where
 co:Cons bi sd (book++aZ bi sd full book cs d)
 DJ:∀p∈cs.zip d,∃r∈book++aZ bi sd full book cs d,bi r p.1=true/\sd r=p.2
 of:∀r∈aZ bi sd full book cs d,∃p∈cs.zip d,r=full p.1 p.2
theorem zby (k:Bk bi sd full st){book:List R}{cs:List C}{d:List Bool}{c:C}(hl:d.length=cs.length)(g:Gd bi sd full book cs d)(ok:okR bi sd st book cs d):
  (∀b,okR bi sd st book (cs++[c]) (d++[b])↔∀s,bnd bi sd (book++aZ bi sd full book cs d) c=some s->b=s)/\∀b,okR bi sd st book (cs++[c]) (d++[b])->Gd bi sd full book (cs++[c]) (d++[b]):=by
 have main:∀b,okR bi sd st book (cs++[c]) (d++[b])↔∀s,bnd bi sd (book++aZ bi sd full book cs d) c=some s->b=s:=λb=>by
  unfold okR;rw[xl hl];constructor
  ·rintro⟨h1,h2⟩ s e
   obtain⟨r,hr,e1,e2⟩:=DF e;rcases bo.mp hr with hr|hr
   ·have co:Cons bi sd book:=λr hr r' mH=>g.co r (bu _ hr) r' (bu _ mH);exact h1 (c,b) (ay _ (.head _)) s (by rw[<-e2];exact DH co hr e1)
   ·obtain⟨p,hp,rfl⟩:=g.of r hr;rw[k.sf]at e2;cases s with
    |true=>rw[e2,k.t1]at e1;exact h2 p (bu _ hp) (c,b) (ay _ (.head _)) e1 e2
    |false=>
     rw[e2,k.t2]at e1;cases hb:b with
     |false=>rfl
     |true=>have:=h2 (c,b) (ay _ (.head _)) p (bu _ hp) e1 hb;rw[e2]at this;cases this
  ·intro h;refine⟨λp hp s e=>?_,λp hp q hq e1 e2=>?_⟩
   ·rcases bo.mp hp with hp|hp
    ·exact ok.1 p hp s e
    ·cases am.mp hp;obtain⟨r,hr,f1,f2⟩:=DF e;exact h s (by rw[<-f2];exact DH g.co (bu _ hr) f1)
   ·rcases bo.mp hp with hp|hp<;>rcases bo.mp hq with hq|hq
    ·exact ok.2 p hp q hq e1 e2
    ·cases am.mp hq;obtain⟨r,hr,f1,f2⟩:=g.DJ p hp;have:=k.up r p.1 c (f2.trans e2) f1 e1;exact(h _ (DH g.co hr this)).trans (f2.trans e2)
    ·cases am.mp hp;obtain⟨r,hr,f1,f2⟩:=g.DJ q hq;cases hb:q.2 with
     |true=>rfl
     |false=>have:=k.dn r q.1 c (f2.trans hb) f1 e1;have:=h _ (DH g.co hr this);rw[f2.trans hb]at this;have e2:b=true:=e2;rw[e2]at this;cases this
    ·cases am.mp hp;cases am.mp hq;exact e2
 refine⟨main,λb hb=>?_⟩;have hb:=(main b).mp hb;cases e:bnd bi sd (book++aZ bi sd full book cs d) c with
 |none=>
  have ed:aZ bi sd full book (cs++[c]) (d++[b])=aZ bi sd full book cs d++[full c b]:=by rw[DI hl];exact vg e
  refine⟨by rw[ed,<-d8];exact X7 k g.co e,λp hp=>?_,λr hr=>?_⟩
  ·rw[xl hl]at hp;rw[ed];rcases bo.mp hp with hp|hp
   ·obtain⟨r,hr,f⟩:=g.DJ p hp;exact⟨r,by rw[<-d8];exact bu _ hr,f⟩
   ·cases am.mp hp;refine⟨full c b,ay _ (ay _ (.head _)),?_,k.sf c b⟩;cases b with
    |true=>rw[k.t1];exact k.rf c
    |false=>rw[k.t2];exact k.rf c
  ·rw[ed]at hr;rw[xl hl];rcases bo.mp hr with hr|hr
   ·obtain⟨p,hp,f⟩:=g.of r hr;exact⟨p,bu _ hp,f⟩
   ·exact⟨(c,b),ay _ (.head _),am.mp hr⟩
 |some s=>
  have ed:aZ bi sd full book (cs++[c]) (d++[b])=aZ bi sd full book cs d:=by rw[DI hl];exact vh (by rw[e];intro z;cases z)
  refine⟨by rw[ed];exact g.co,λp hp=>?_,λr hr=>?_⟩
  ·rw[xl hl]at hp;rw[ed];rcases bo.mp hp with hp|hp
   ·exact g.DJ p hp
   ·cases am.mp hp;obtain⟨r,hr,f1,f2⟩:=DF e;exact⟨r,hr,f1,f2.trans (hb s e).symm⟩
  ·rw[ed]at hr;rw[xl hl];obtain⟨p,hp,f⟩:=g.of r hr;exact⟨p,bu _ hp,f⟩
theorem Bu:∀(m:Nat) (d:List Bool),d∈bits m->d.length=m
 |0,d,h=>by cases am.mp h;rfl
 |m+1,d,h=>by
  obtain⟨e,he,h⟩:=ez.mp h;rcases ak.mp h with rfl|h
  ·rw[au,Bu m e he];rfl
  ·rw[am.mp h,au,Bu m e he];rfl
theorem Oq {book:List R}{cs:List C}{d:List Bool}{c:C}{b:Bool}(hl:d.length=cs.length)(h:okR bi sd st book (cs++[c]) (d++[b])):okR bi sd st book cs d:=by unfold okR at h;rw[xl hl]at h;exact⟨λp hp=>h.1 p (bu _ hp),λp hp q hq=>h.2 p (bu _ hp) q (bu _ hq)⟩
theorem zlk (k:Bk bi sd full st){book:List R}(hb:Cons bi sd book)(D:List C->List Bool->Bool)(hD:∀cs d,D cs d=true↔okR bi sd st book cs d):∀(n:Nat) (cs:List C),cs.length=n->
  kC bi sd full book cs=((bits n).filter (D cs)).map (λd=>(aZ bi sd full book cs d,d))/\∀d∈bits n,okR bi sd st book cs d->Gd bi sd full book cs d:=by
 intro n
 induction n with
 |zero=>
  intro cs h;cases cs with
  |cons c cs=>cases h
  |nil=>
   have o:okR bi sd st book ([]:List C) []:=⟨λp hp=>(by cases hp),λp hp=>(by cases hp)⟩;refine⟨?_,λd hd _=>?_⟩
   ·show[([],[])]=(([[]]:List (List Bool)).filter (D [])).map _;rw[d6,vg ((hD _ _).mpr o)];rfl
   ·cases am.mp hd;exact⟨by rw[show aZ bi sd full book ([]:List C) []=[]from rfl,cr];exact hb,λp hp=>(by cases hp),λr hr=>(by cases hr)⟩
 |succ n ih=>
  intro II h;obtain⟨cs,c,rfl⟩:∃cs c,II=cs++[c]:=⟨II.dropLast,II.getLast (λz=>by rw[z]at h;cases h),(List.dropLast_concat_getLast _).symm⟩;rw[au]at h;have hn:cs.length=n:=by have:cs.length+1=n+1:=h;omega
  obtain⟨h1,h2⟩:=ih cs hn;have len:∀d∈bits n,d.length=cs.length:=λd hd=>(Bu n d hd).trans hn.symm;refine⟨?_,λd0 X8 ok=>?_⟩
  ·have e:kC bi sd full book (cs++[c])=(kC bi sd full book cs).flatMap (z1u bi sd full book c):=by unfold kC;rw[la];rfl
   rw[e,h1]
   have go:∀l:List (List Bool),(∀d∈l,d∈bits n)->((l.filter (D cs)).map λd=>(aZ bi sd full book cs d,d)).flatMap (z1u bi sd full book c)=((l.flatMap λd=>[d++[true],d++[false]]).filter (D (cs++[c]))).map λd=>(aZ bi sd full book (cs++[c]) d,d):=by
    intro l hl
    induction l with
    |nil=>rfl
    |cons d l il=>
     have il:=il λd hd=>hl d (.tail _ hd);have hd:=hl d (.head _);have hlen:=len d hd;rw[im,j9,bp,<-il,d6];by_cases ok:okR bi sd st book cs d
     ·rw[vg ((hD _ _).mpr ok),bh,im];refine congrArg (·++_) ?_;obtain⟨m1,m2⟩:=zby k (c:=c) hlen (h2 d hd ok) ok;unfold z1u;cases e:bnd bi sd (book++aZ bi sd full book cs d) c with
      |some s=>
       have y:∀b,D (cs++[c]) (d++[b])=(b==s):=λb=>by
        rw[j4,hD,m1,e];constructor
        ·intro z;rw[z s rfl];exact beq_self_eq_true _
        ·intro z s' e';cases e';exact eq_of_beq z
       have du:∀b,aZ bi sd full book (cs++[c]) (d++[b])=aZ bi sd full book cs d:=λb=>by rw[DI hlen];exact vh (by rw[e];intro z;cases z)
       cases s
       ·rw[d6,vh (by rw[y];decide),d6,vg (by rw[y];rfl)];show _=[(_,_)];rw[du]
       ·rw[d6,vg (by rw[y];rfl),d6,vh (by rw[y];decide)];show _=[(_,_)];rw[du]
      |none=>
       have y:∀b,D (cs++[c]) (d++[b])=true:=λb=>(hD _ _).mpr ((m1 b).mpr λs z=>by rw[e]at z;cases z);have du:∀b,aZ bi sd full book (cs++[c]) (d++[b])=aZ bi sd full book cs d++[full c b]:=λb=>by rw[DI hlen];exact vg e
       rw[d6,vg (y true),d6,vg (y false)];show _=[(_,_),(_,_)];rw[du,du]
     ·rw[vh λz=>ok ((hD _ _).mp z)];have no:∀b,¬D (cs++[c]) (d++[b])=true:=λb z=>ok (Oq hlen ((hD _ _).mp z));rw[d6,vh (no true),d6,vh (no false)];rfl
   exact go (bits n) λ_ h=>h
  ·obtain⟨d,hd,z⟩:=ez.mp X8;have hlen:=len d hd
   obtain⟨b,rfl⟩:∃b,d0=d++[b]:=by
    rcases ak.mp z with rfl|z
    ·exact⟨true,rfl⟩
    ·exact⟨false,am.mp z⟩
   have o:=Oq hlen ok;exact(zby k hlen (h2 d hd o) o).2 b ok
end
theorem X9 {Κ:List D}{Φ:List Fn}{l:P}{ρ:Rho}{i:Nat}{g:G}(h:ρ[i]?=some (some (g,.dict (en l))))(hl:l.length<64):aG Κ Φ (.sortI i) ρ=.ok (.fr,.list ((pQ l).map pr)):=by rw[Xg];rw[h];dsimp only;rw[Nr,WR,WT,Nq,Nu];simp only[hl,decide_true,Bool.and_self,if_true]
def uA (acc:P)(l:P):P:=l.foldl (λa p=>put a p.1 (max p.2 (look a p.1))) acc
theorem IJ:∀(l:P) (acc:P),(ks acc).Nodup->(ks (uA acc l)).Nodup
 | [],_,h=>h
 |p::l,acc,h=>IJ l _ (Hu _ _ _ h)
theorem Ot (n:Str):∀(l acc:P),look (uA acc l) n=l.foldl (λm p=>if p.1=n then max p.2 m else m) (look acc n)
 | [],_=>rfl
 |p::l,acc=>by
  have h3:uA acc (p::l)=uA (put acc p.1 (max p.2 (look acc p.1))) l:=rfl;rw[h3,Ot n l,pc,WN];split
  ·rename_i e;rw[e]
  ·rfl
def gr (l:P):P:=(pQ (uA [] l)).filter λp=>decide (0<p.2)
def up (l:P):P:=(pQ l).filter λp=>decide (0<p.2)
theorem Ou (n:Str):∀(l:P),(ks l).Nodup->bM (l.filter λp=>decide (0<p.2)) n=(bM l n).filter λv=>decide (0<v)
 | [],_=>rfl
 |p::l,nd=>by
  rw[ks,bh,bg]at nd;have ih:=Ou n l nd.2;by_cases h:0<p.2
  ·rw[kt (by simpa using h),bM,bM];by_cases e:p.1=n
   ·rw[vg e,vg e];show _=if decide (0<p.2)=true then some p.2 else none
    rw[vg (vn h)]
   ·rw[vh e,vh e];exact ih
  ·rw[ku (by simpa using h),ih,bM];by_cases e:p.1=n
   ·rw[vg e,tQ (e▸nd.1)];show none=if decide (0<p.2)=true then some p.2 else none
    rw[vh (by simpa using h)]
   ·rw[vh e]
theorem X' {l:P}(nd:(ks l).Nodup):PK (up l):=⟨(HC nd).filter _,λp hp=>by simpa using(g7.mp hp).2⟩
theorem Ya {l:P}(nd:(ks l).Nodup)(n:Str):look (up l) n=max (look l n) 0:=by
 unfold look up;rw[Ou n _ (Ny (HC nd)),WU (Hz l) nd];cases h:bM l n with
 |none=>rfl
 |some v=>
  show Option.getD (if _ then _ else _) 0=max v 0;by_cases h:0<v
  ·rw[vg (by simpa using h)];show v=_;omega
  ·rw[vh (by simpa using h)];show 0=_;omega
theorem Yb (l:P):PK (gr l):=X' (IJ l [] gf)
theorem Ov {l m:P}(nd:(ks l).Nodup)(h:∀k∈ks l,k∈ks m):l.length<=m.length:=by have:=Nj nd h;simpa[ks]using this
theorem xm {a b:P}(hb:PK b):kB [pk a,pk b]=.ok (.fr,.list ((a.filter λp=>decide (look b p.1<p.2)).map λp=>.str p.1)):=by unfold kB;refine dQ ?_;unfold wW;refine bU (NR (yw (aD rfl) rfl (NH _ hb.nd) (Hx b)) (Nr b)) ?_;exact bQ (NS (λi z=>by cases z) (z1e (m:=pr) (xs:=a) (λp=>decide (look b p.1<p.2)) (λp=>.str p.1) (cI (v_var rfl (cP a)).1 rfl) rfl (λp=>[some (.al,.str p.1),some (.al,.int p.2),some (.al,.dict (en b))]) (λp _=>rfl) (λp _=>aR (cY (aD rfl) (wL (aD rfl) (aF (aD rfl) (aF aN.e aW)) (HJ _ _) rfl).e rfl).e rfl) (λp _ _=>v_var rfl rfl)))
theorem eq_nil (xs:List D)(h:cR 39 xs=true):cmpD .Eq (.list xs) (.list [])=.ok xs.isEmpty:=by show(if(aP 40 (.list xs)&&aP 40 (.list []))=true then Res.ok (cQ (.list xs) (.list []))else .no)=_;rw[vg (by show(cR 39 xs&&true)=true;rw[h];rfl)];cases xs<;>simp[cQ,PyData.eqv,PyData.eqvAll]
theorem Yc (l:P):cR 39 (l.map λp=>PyData.str p.1)=true:=kJ.mpr λx hx=>by obtain⟨p,_,rfl⟩:=bf.mp hx;rfl
def wi (a b:P):Bool:=(a.filter λp=>decide (look b p.1<p.2)).isEmpty
theorem IK {a b:P}(hb:PK b):sE [pk a,pk b]=.ok (.fr,.bool (wi a b)):=by unfold sE;refine dQ ?_;unfold wY;refine bQ (dN (cY (eG (aF (aD rfl) (aF (aD rfl) aW)) rfl (xm hb)) (Ev.of (gX dF)) ?_));rw[eq_nil _ (Yc _)];unfold wi;rw[i9]
theorem DK (ha:PK a)(hb:PK b):wi a b=true↔∀n,look a n<=look b n:=by
 unfold wi;rw[ln,lb];constructor
 ·intro h n;by_cases hn:n∈ks a
  ·obtain⟨v,e⟩:=Nh hn;have:=h _ (tR e);have e2:look a n=v:=by unfold look;rw[e];rfl
   simp at this;rw[e2];omega
  ·have :look a n=0:=by unfold look;rw[tQ hn];rfl
   rw[this];exact hb.kN n
 ·intro h p hp;have:=h p.1;rw[ha.cB hp]at this;simp;omega
def sd (b:Bool):Str:=if b then "for"else "against"
def own (b:Bool)(f a:P):P:=if b then f else a
def mI (b:Bool)(f a:P):P:=if b then a else f
def jE (f a:P):D:=.tuple [pk f,pk a]
def rl (b:Bool)(f a r:P):D:=.tuple [jE f a,.str (sd b),pk r]
theorem xo (f a:P):aU (jE f a)=true:=by show imms [pk f,pk a]=true;rw[imms,imms,cP,cP];rfl
theorem Ow (b:Bool)(f a r:P):aU (rl b f a r)=true:=by show imms [jE f a,.str (sd b),pk r]=true;rw[imms,imms,imms,xo,cP];rfl
theorem Yd (b:Bool):rZ [.str (sd b)]=.ok (.fr,.none):=by cases b<;>rfl
theorem Ox (b:Bool):mD [.str (sd b)]=.ok (.fr,.str (sd (!b))):=by cases b<;>rfl
theorem Ye (h:Ev Κ Φ t ρ d):aT Κ Φ (.drop t) ρ=.ok (.nx ρ):=by obtain⟨g,h⟩:=h;show(aG Κ Φ t ρ>>=λ_=>Res.ok (Out.nx ρ))=_;rw[h];rfl
theorem Bv (b:Bool)(f a:P):iW [jE f a,.str (sd b)]=.ok (.fr,pk (own b f a)):=by
 refine dQ (bU (Ye (eG (aF (aD rfl) aW) rfl (Yd b))) ?_);cases b with
 |true=>exact bQ (dN (HR (k:=true) (aR (cY (aD rfl) dR.e rfl).e rfl) (λ_=>aJ (aD rfl) aN.e rfl (cP f)) (y:=pk f) λz=>by cases z))
 |false=>exact bQ (dN (HR (k:=false) (aR (cY (aD rfl) dR.e rfl).e rfl) (x:=pk a) nofun λ_=>aJ (aD rfl) aN.e rfl (cP a)))
theorem DL (b:Bool)(f a:P):own (!b) f a=mI b f a:=by cases b<;>rfl
theorem Yf (b:Bool)(f a r:P):mG [rl b f a r]=.ok (.fr,pk (mI b f a)):=by unfold mG;refine dQ ?_;unfold xb;rw[<-DL];exact bQ (dN (eX (aF (aJ (d:=jE f a) (aD rfl) aN.e rfl (xo f a)).e (aF (eG (aF (aJ (d:=.str (sd b)) (aD rfl) aN.e rfl rfl).e aW) rfl (Ox b)) aW)) rfl (Bv (!b) f a) (cP _)))
def ov (a b:P):List Str:=(a.filter λp=>decide (look b p.1<p.2)).map (·.1)
theorem Yg (a b:P):((a.filter λp=>decide (look b p.1<p.2)).map λp=>PyData.str p.1)=(ov a b).map .str:=by unfold ov;rw[dz];rfl
theorem Oy (a b:P):(ov a b).isEmpty=wi a b:=by unfold ov wi;rw[i9]
def yJ (x:Str)(n:Str):D:=.tuple [.str x,.str n]
theorem IL {b:Bool}{f a r f' a':P}(hf:PK f)(ha:PK a)(Oz:PK f')(AD:PK a')(hr:r.length<=60)(l1:f'.length<=60)(l2:a'.length<=60):sI [rl b f a r,jE f' a']=.ok (.fr,.list ((ov r (own b f' a')).map (yJ "less")++(ov (mI b f' a') (mI b f a)).map (yJ "more"))):=by
 unfold sI;refine dQ ?_;unfold xg;have ho:PK (own b f' a'):=by cases b<;>assumption
 have hp:PK (mI b f a):=by cases b<;>assumption
 have lo:(mI b f' a').length<=60:=by cases b<;>assumption
 have e1:=xm (a:=r) ho;have e2:=xm (a:=mI b f' a') hp;rw[Yg]at e1 e2;refine bU (j' (aJ (d:=.str (sd b)) (aD rfl) aN.e rfl rfl)) ?_;refine bU (tU (NQ (aF (aJ (d:=pk r) (aD rfl) aN.e rfl (cP r)).e (aF (eG (aF (aD rfl) (aF (aD rfl) aW)) rfl (Bv b f' a')) aW)) rfl e1) (tT _)) ?_;refine bU (tU (NQ (aF (eG (aF (aD rfl) (aF (eG (aF (aD rfl) aW) rfl (Ox b)) aW)) rfl (by rw[Bv,DL])) (aF (eG (aF (aD rfl) aW) rfl (Yf b f a r)) aW)) rfl e2) (tT _)) ?_;have cp:∀(ρ:Rho) (i:Nat) (x:Str) (ns:List Str),ρ[i]?=some (some (.fr,.list (ns.map .str)))->aG [] [kB,mG,iW,mD] (.comp 1 [] ["name"] (.nm 0) (.tv (.var i)) .nil (.tup (.cons (.str x) (.cons (.var 0) .nil)))) ρ=.ok (.fr,.list (ns.map (yJ x))):=λρ i x ns hi=>by have:=z1e (Κ:=[]) (Φ:=[kB,mG,iW,mD]) (ρ:=ρ) (nt:=1) (js:=[]) (N':=["name"]) (tg:=.nm 0) (it:=.tv (.var i)) (cond:=.nil) (elt:=.tup (.cons (.str x) (.cons (.var 0) .nil))) (m:=PyData.str) (xs:=ns) (w:=(.al,ns.map .str)) (λ_=>true) (yJ x) (cI (g:=.al) (x:=.list (ns.map .str)) (by rw[iF];rw[hi];rfl) rfl) rfl (λn=>[some (.al,.str n)]) (λn _=>rfl) (λn _=>rS) (λn _ _=>lY (bJ dR (bJ (v_var rfl rfl) dF)));rw[dr.mpr λ_ _=>rfl]at this;exact this
 have Yh:(ov r (own b f' a')).length<=60:=by unfold ov;rw[ac];exact cg (lg _ _) hr
 have Yi:(ov (mI b f' a') (mI b f a)).length<=60:=by unfold ov;rw[ac];exact cg (lg _ _) lo
 refine bQ (NS (λi z=>by cases z) (Ba (Ev.of (cp _ 3 "less" (ov r (own b f' a')) rfl)) (Ev.of (cp _ 4 "more" (ov (mI b f' a') (mI b f a)) rfl)) (add_list (by rw[ac,ac];omega)) (qK.mpr λz hz=>?_)));rcases(bo.mp hz)with hz|hz
 ·obtain⟨n,_,rfl⟩:=bf.mp hz;rfl
 ·obtain⟨n,_,rfl⟩:=bf.mp hz;rfl
theorem Yj {α:Type}(xs ys:List α):(xs++ys).isEmpty=(xs.isEmpty&&ys.isEmpty):=by cases xs<;>simp
def bi (b:Bool)(f a r f' a':P):Bool:=wi r (own b f' a')&&wi (mI b f' a') (mI b f a)
theorem Yk (x y:Str)(xs ys:List Str):cR 39 (xs.map (yJ x)++ys.map (yJ y))=true:=kJ.mpr λz hz=>by
 rcases(bo.mp hz)with hz|hz
 ·obtain⟨n,_,rfl⟩:=bf.mp hz;rfl
 ·obtain⟨n,_,rfl⟩:=bf.mp hz;rfl
theorem Yl {b:Bool}{f a r f' a':P}(hf:PK f)(ha:PK a)(Oz:PK f')(AD:PK a')(hr:r.length<=60)(l1:f'.length<=60)(l2:a'.length<=60):xh [rl b f a r,jE f' a']=.ok (.fr,.bool (bi b f a r f' a')):=by unfold xh;refine dQ ?_;unfold Iq;refine bQ (dN (cY (eG (aF (aD rfl) (aF (aD rfl) aW)) rfl (IL hf ha Oz AD hr l1 l2)) (Ev.of (gX dF)) ?_));rw[eq_nil _ (Yk _ _ _ _)];unfold bi;rw[Yj,i9,i9,Oy,Oy]
theorem IM (h:0<b)(h2:b<2 ^ 200):dD .FloorDiv (.int a) (.int b)=.ok (.int (a/b)):=by show(if _ then _ else _)=_;rw[vg ⟨h,h2⟩]
theorem sJ (ha:Ev Κ Φ a ρ x)(hb:Oo Κ Φ b ρ i)(hc:Oo Κ Φ c ρ j)(h:zO x i j=.ok d):Ev Κ Φ (.sl a b c) ρ d:=by obtain⟨g1,ha⟩:=ha;unfold Oo at hb hc;exact⟨_,by rw[HN];rw[ha,Res.aC,hb,Res.aC,hc,Res.aC];dsimp only;rw[h,Res.aC]⟩
def Nx (I:Rho->Prop)(z:Res Out):Prop:=∃aQ,z=.ok (.nx aQ)/\I aQ
theorem oY (hi:aU d=true):eE (.nm j) (gJ d g,d) ρ=.ok (ρ.set j (some (.al,d))):=by rw[mX hi];rfl
theorem IP {β:Type}(m:β->D){xs:List β}{i:Int}(d:β)(h0:0<=i)(h1:i<xs.length):jB (.list (xs.map m)) (.int i)=.ok (m (xs.getD i.toNat d)):=by
 show Res.iZ (dM (xs.map m) i)=_;rw[NI _ i (m d) h0 (by rw[ac];exact h1)]
 congr 1
 have:i.toNat<xs.length:=by omega
 rw[bd,bd,bj,aw this];rfl
theorem sM {β:Type}{m:β->D}(h:∀x,aU (m x)=true)(xs:List β):imms (xs.map m)=true:=qK.mpr λx hx=>by obtain⟨p,_,rfl⟩:=bf.mp hx;exact h p
theorem mJ (h:aU d=true):cZ (some (.al,d))=some (.al,d):=by show(if aU d=true then some (G.al,d)else none)=_;rw[vg h]
theorem OA {β:Type}{m:β->D}{Q:Res Out->Prop}(I:List β->Rho->Prop):∀xs pre ρ,(∀rP x post ρ,pre++xs=rP++x::post->I rP ρ->(∃aQ,f (m x) ρ=.ok (.nx aQ)/\I (rP++[x]) aQ)\/∃g d,f (m x) ρ=.ok (.rt g d)/\Q (.ok (.rt g d)))->I pre ρ->(∃aQ,dE f (xs.map m) ρ=.ok (.nx aQ)/\I (pre++xs) aQ)\/∃g d,dE f (xs.map m) ρ=.ok (.rt g d)/\Q (.ok (.rt g d))
 | [],pre,ρ,_,h=>.inl ⟨ρ,rfl,by rw[cr];exact h⟩
 |x::xs,pre,ρ,hf,h=>by
  rcases hf pre x xs ρ rfl h with⟨aQ,e,h'⟩|⟨g,d,e,q⟩
  ·have e2:pre++x::xs=(pre++[x])++xs:=by simp
   rcases OA I xs (pre++[x]) aQ (λa b c r hh=>hf a b c r (e2.trans hh)) h' with⟨cF,e3,h3⟩|⟨g,d,e3,q⟩
   ·exact .inl ⟨cF,by rw[bh];show(match f (m x) ρ with|.ok (.nx aQ)=>dE f (xs.map m) aQ|.ok (.rt g d)=>.ok (.rt g d)|.exc e=>.exc e|.no=>.no)=_;rw[e];exact e3,by rw[e2];exact h3⟩
   ·exact .inr ⟨g,d,by rw[bh];show(match f (m x) ρ with|.ok (.nx aQ)=>dE f (xs.map m) aQ|.ok (.rt g d)=>.ok (.rt g d)|.exc e=>.exc e|.no=>.no)=_;rw[e];exact e3,q⟩
  ·exact .inr ⟨g,d,by rw[bh];show(match f (m x) ρ with|.ok (.nx aQ)=>dE f (xs.map m) aQ|.ok (.rt g d)=>.ok (.rt g d)|.exc e=>.exc e|.no=>.no)=_;rw[e],q⟩
theorem ze6 {Q:Res Out->Prop}{β:Type}{m:β->D}{xs:List β}(h:evF Κ Φ it ρ=.ok (g,xs.map m,ρ1))(I:List β->Rho->Prop)(h0:I [] ρ1)
  (hf:∀pre x post ρ,xs=pre++x::post->I pre ρ->∃cF,eE t' (gJ (m x) g,m x) ρ=.ok cF/\(Nx (I (pre++[x])) (aT Κ Φ p cF)\/∃g d,aT Κ Φ p cF=.ok (.rt g d)/\Q (.ok (.rt g d)))) (hk:∀aQ,I xs aQ->Q (aT Κ Φ rest aQ)):Q (aT Κ Φ (.seq (.bD t' it p) rest) ρ):=by
 rcases OA (f:=λx ρ1=>eE t' (gJ x g,x) ρ1>>=λcF=>aT Κ Φ p cF) I xs [] ρ1 (λpre x post ρ hx hI=>by
  obtain⟨cF,e,hh⟩:=hf pre x post ρ hx hI;rcases hh with⟨aQ,h1,h2⟩|⟨g',d,h1,h2⟩
  ·exact .inl ⟨aQ,by rw[e,Res.aC,h1],h2⟩
  ·exact .inr ⟨g',d,by rw[e,Res.aC,h1],h2⟩) h0 with⟨aQ,e,i⟩|⟨g',d,e,q⟩
 ·rw[bU (Dp h e) rfl];exact hk aQ i
 ·rw[bQ (Dp h e)];exact q
theorem IQ {α:Type}{xs:List α}{x:α×Nat}(h:x∈xs.zipIdx):xs[x.2]?=some x.1:=List.mem_zipIdx_iff_getElem?.mp h
theorem uB {a b c:P}(ha:PK a)(hb:PK b)(hc:PK c)(h1:wi a b=true)(h2:wi b c=true):wi a c=true:=(DK ha hc).mpr λn=>Int.le_trans ((DK ha hb).mp h1 n) ((DK hb hc).mp h2 n)
theorem IS {a:P}(ha:PK a):wi a a=true:=(DK ha ha).mpr λ_=>ul _
theorem xp (hf:PK f)(ha:PK a):PK (own b f a):=by cases b<;>assumption
def mr (p:Bool×P×P×P):D:=rl p.1 p.2.1 p.2.2.1 p.2.2.2
theorem Ym (p:Bool×P×P×P):aU (mr p)=true:=Ow _ _ _ _
theorem IT {Φ:List Fn}{ρ:Rho}{i:Nat}{g:G}{p:Bool×P×P×P}(h:ρ[i]?=some (some (g,mr p))):Vv [] Φ (.ix (.var i) (.int 1)) ρ (.str (sd p.1)):=aJ (aD h) aN.e rfl rfl
theorem Yn (b:Bool)(f a:P):jB (jE f a) (.int (if b then 0 else 1))=.ok (pk (own b f a)):=by cases b<;>rfl
theorem xq (a b:Str):cQ (.str a) (.str b)=decide (a=b):=by
 show(a==b)=_;by_cases h:a=b
 ·rw[vn h,h];exact beq_self_eq_true b
 ·rw[vo h];exact beq_false_of_ne h
theorem DM (n:Nat)(ws:List Str):cR n (ws.map .str)=true:=kJ.mpr λx hx=>by obtain⟨w,_,rfl⟩:=bf.mp hx;cases n<;>rfl
theorem OB (w:Str)(ws:List Str):cmpD .In (.str w) (.list (ws.map .str))=.ok (decide (w∈ws)):=by
 show(if(aP 40 (.str w)&&cR 40 (ws.map .str))=true then Res.ok ((ws.map PyData.str).any λy=>cQ y (.str w))else .no)=_;rw[DM,show aP 40 (.str w)=true from rfl,List.any_map];show Res.ok _=_
 congr 1
 apply j4.mpr;rw[List.any_eq_true,decide_eq_true_iff];refine⟨λ⟨x,h1,h2⟩=>?_,λh=>⟨w,h,?_⟩⟩
 ·have h2:cQ (.str x) (.str w)=true:=h2;rw[xq]at h2;exact vm h2▸h1
 ·show cQ (.str w) (.str w)=true;rw[xq];exact vn rfl
def tS (a:List Str):D:=.tuple (a.map .str)
theorem xr (a:List Str):aU (tS a)=true:=tT a
theorem Yo (l:P)(hl:l.length<64):mE [.list (l.map pr)]=.ok (.fr,pk (gr l)):=by
 unfold mE;refine dQ ?_;unfold wU;refine bU (NR Xl rfl) ?_;refine zkt (m:=pr) (xs:=l) (Be rfl rfl rfl) (λa ρ=>∃u v,ρ=[some (.od,.list (l.map pr)),some (.fr,.dict (en a)),u,v]/\(ks a).Nodup/\∀k∈ks a,k∈ks l) (λa p=>put a p.1 (max p.2 (look a p.1))) [] ⟨none,none,rfl,gf,λ_ h=>by cases h⟩ ?_ ?_
 ·rintro a p ρ hp ⟨u,v,rfl,nd,hs⟩
  refine⟨_,bU (Xo (l:=a) (n:=p.1) (v:=max p.2 (look a p.1)) (gY (aF (aD rfl) (aF (wL (aD rfl) (aF (aD rfl) (aF aN.e aW)) (HJ _ _) rfl).e aW)) (W5 _ _) rfl) (aD rfl) rfl nd (by have:=Ov nd hs;omega)) eY,_,_,rfl,Hu _ _ _ nd,λk hk=>?_⟩;rcases(Ht _ _ _ _).mp hk with rfl|hk
  ·exact bf.mpr ⟨p,hp,rfl⟩
  ·exact hs k hk
 ·rintro ρ ⟨u,v,rfl,nd,hs⟩
  refine bQ (dN (yu (Ev.of (z1e (m:=pr) (xs:=pQ (uA [] l)) (λp=>decide (0<p.2)) pr (cI (X9 (l:=uA [] l) rfl (by have:=Ov nd hs;exact j8 this hl)) rfl) rfl (λp=>[some (.al,pr p)]) (λp _=>rfl) (λp _=>aR (cY (aJ (aD rfl) aN.e rfl rfl).e aN.e rfl).e rfl) (λp _ _=>v_var rfl rfl))) rfl rfl (cP _)))
theorem Yp {al:P}(h:PK al)(n:Str):mF [pk al,.str n]=.ok (.fr,.int (look al n)):=by unfold mF;refine dQ ?_;unfold wV;exact bQ (dN (wL (Ev.of (yw (aD rfl) rfl (NH _ h.nd) (Hx al))) (aF (aD rfl) (aF aN.e aW)) (HJ _ _) rfl))
def vv (wd:List Str)(al:P)(n:Str):Int:=if n∈wd then 1 else look al n
def nv (wd:List Str)(al:P)(ns:List Str):P:=ns.map λn=>(n,vv wd al n)
theorem OC {al:P}(h:PK al)(wd ns:List Str)(hl:ns.length<=8):Dy [tS ns,pk al,.list (wd.map .str)]=.ok (.fr,pk (gr (nv wd al ns))):=by
 unfold Dy;refine dQ ?_;unfold Iw
 have hc:=z1e (Κ:=[]) (Φ:=[mE,mF]) (ρ:=[some (.od,tS ns),some (.od,pk al),some (.od,.list (wd.map .str))]) (nt:=1) (js:=[2,1]) (N':=["name","words","thing"]) (tg:=.nm 0) (it:=.tv (.var 0)) (cond:=.nil) (elt:=.tup (.cons (.var 0) (.cons (.oE (.tv (.cmp .In (.var 0) (.var 1))) (.int 1) (.call 1 "degree" (.cons (.var 2) (.cons (.var 0) .nil)))) .nil))) (m:=PyData.str) (xs:=ns) (λ_=>true) (λn=>pr (n,vv wd al n)) (cI (v_var rfl (xr ns)).1 rfl) rfl (λn=>[some (.al,.str n),some (.od,.list (wd.map .str)),some (.od,pk al)]) (λ_ _=>rfl) (λ_ _=>rS) λn _ _=>by
  have hi:=HR (Κ:=[]) (Φ:=[mE,mF]) (ρ:=[some (.al,.str n),some (.od,.list (wd.map .str)),some (.od,pk al)]) (c:=.tv (.cmp .In (.var 0) (.var 1))) (a:=.int 1) (b:=.call 1 "degree" (.cons (.var 2) (.cons (.var 0) .nil))) (aR (cY (aD rfl) (aD rfl) (OB n wd)).e rfl) (λ_=>aN) λ_=>eX (aF (aD rfl) (aF (aD rfl) aW)) rfl (Yp h n) rfl
  have e:(if truth (.bool (decide (n∈wd)))=true then PyData.int 1 else .int (look al n))=.int (vv wd al n):=by
   unfold vv;by_cases hn:n∈wd
   ·rw[vg hn,vn hn];rfl
   ·rw[vh hn,vo hn];rfl
  rw[e]at hi;exact lY (bJ (v_var rfl rfl) (bJ hi dF))
 rw[dr.mpr (λ_ _=>rfl),show(ns.map λn=>pr (n,vv wd al n))=(nv wd al ns).map pr by unfold nv;rw[dz];rfl]at hc;exact bQ (dN (eX (aF (Ev.of hc) aW) rfl (Yo _ (by unfold nv;rw[ac];omega)) (cP _)))
theorem xu {Φ:List Fn}{ρ:Rho}{t u:C}{b:Bool}{f a:P}(h:Ev [] Φ t ρ (jE f a))(h2:Ev [] Φ u ρ (.int (if b then 0 else 1))):Vv [] Φ (.ix t u) ρ (pk (own b f a)):=aJ h h2 (Yn b f a) (cP _)
theorem IU (b:Bool):dD .Sub (.int 1) (.int (if b then 0 else 1))=.ok (.int (if !b then 0 else 1)):=by cases b<;>rfl
theorem Yq {b:Bool}{f a r:P}(hf:PK f)(ha:PK a)(h:wi r (own b f a)=true):sG [jE f a,.str (sd b),pk r]=.ok (.fr,rl b f a r):=by unfold sG;refine dQ ?_;unfold wZ;refine Dq (z9 (aR (eX (aF (aD rfl) (aF (eG (aF (aD rfl) (aF (aD rfl) aW)) rfl (Bv b f a)) aW)) rfl (IK (xp hf ha)) rfl).e rfl)) (by rw[h];rfl) ?_;exact bQ (dN (lY (bJ (v_var rfl (xo _ _)) (bJ (v_var rfl rfl) (bJ (v_var rfl (cP _)) dF)))))
def OD (fs:List Str)(th:P):P:=th.filter λp=>decide (p.1∈fs)
theorem Yr {Φ:List Fn}{ρ:Rho}{it:C}{g:G}{fs:List Str}{th:P}{j:Nat}(h:evW [] Φ it ρ=.ok (g,th.map pr))(hj:toAl (ρ.getD j none)=some (.al,.list (fs.map .str))\/toAl (ρ.getD j none)=some (.od,.list (fs.map .str)))(N':List Str):aG [] Φ (.comp 1 [j] N' (.nm 0) it (.tv (.cmp .In (.ix (.var 0) (.int 0)) (.var 1))) (.var 0)) ρ=.ok (.fr,.list ((OD fs th).map pr)):=by obtain⟨g',hj⟩:∃g',toAl (ρ.getD j none)=some (g',.list (fs.map .str)):=hj.elim (λz=>⟨_,z⟩) λz=>⟨_,z⟩;exact z1e (Κ:=[]) (Φ:=Φ) (ρ:=ρ) (nt:=1) (js:=[j]) (N':=N') (tg:=.nm 0) (it:=it) (cond:=.tv (.cmp .In (.ix (.var 0) (.int 0)) (.var 1))) (elt:=.var 0) (m:=pr) (xs:=th) (λp=>decide (p.1∈fs)) pr h rfl (λp=>[some (.al,pr p),some (g',.list (fs.map .str))]) (λp _=>by show Res.ok _=_;rw[bh,hj];rfl) (λp _=>aR (cY (aJ (d:=.str p.1) (aD rfl) aN.e rfl rfl).e (aD rfl) (OB _ _)).e rfl) λp _ _=>v_var rfl (Dd p)
abbrev Q2:={p:P//PK p/\p.length<=2}
abbrev Cs:=Q2×Q2
abbrev Ru:=Bool×Q2×Q2×Q2
def cD (c:Cs):D:=jE c.1.1 c.2.1
def ruD (r:Ru):D:=mr (r.1,r.2.1.1,r.2.2.1.1,r.2.2.2.1)
def biR (r:Ru)(c:Cs):Bool:=bi r.1 r.2.1.1 r.2.2.1.1 r.2.2.2.1 c.1.1 c.2.1
def stC (c c':Cs):Bool:=wi c.1.1 c'.1.1&&wi c'.2.1 c.2.1
def sdR (r:Ru):Bool:=r.1
def mZ (c:Cs)(b:Bool):Ru:=(b,c.1,c.2,if b then c.1 else c.2)
theorem gZ (r:Ru):aU (ruD r)=true:=Ym _
theorem nB (c:Cs):aU (cD c)=true:=xo _ _
theorem yK:Bk biR sdR mZ stC where
 sf:=λ_ _=>rfl
 t1:=λ_ _=>rfl
 t2:=λc c'=>Bool.and_comm _ _
 rf:=λc=>by unfold stC;rw[IS c.1.2.1,IS c.2.2.1];rfl
 up:=λr c c' hs h1 h2=>by obtain⟨b,f,a,q⟩:=r;cases(show b=true from hs);obtain⟨x1,x2⟩:=av.mp h1;obtain⟨y1,y2⟩:=av.mp h2;exact av.mpr ⟨uB q.2.1 c.1.2.1 c'.1.2.1 x1 y1,uB c'.2.2.1 c.2.2.1 a.2.1 y2 x2⟩
 dn:=λr c c' hs h1 h2=>by obtain⟨b,f,a,q⟩:=r;cases(show b=false from hs);obtain⟨x1,x2⟩:=av.mp h1;obtain⟨y1,y2⟩:=av.mp h2;exact av.mpr ⟨uB q.2.1 c.2.2.1 c'.2.2.1 x1 y2,uB c'.1.2.1 c.1.2.1 f.2.1 y1 x2⟩
theorem Ys (r:Ru)(c:Cs):xh [ruD r,cD c]=.ok (.fr,.bool (biR r c)):=Yl r.2.1.2.1 r.2.2.1.2.1 c.1.2.1 c.2.2.1 (cg r.2.2.2.2.2 (by decide)) (cg c.1.2.2 (by decide)) (cg c.2.2.2 (by decide))
def xw (k:Nat):Option Bool->D
 |none=>.none
 |some s=>.tuple [.str (sd s),.int k]
theorem Yt (k:Nat)(o:Option Bool):aU (xw k o)=true:=by cases o<;>rfl
theorem OE {R C:Type}{bi:R->C->Bool}{sd:R->Bool}{pre post:List R}{r:R}{c:C}(h:∀y∈pre,bi y c=false)(hr:bi r c=true):bnd bi sd (pre++r::post) c=some (sd r):=by
 induction pre with
 |nil=>exact vg hr
 |cons y pre ih=>show(if bi y c=true then _ else _)=_;rw[vh (by rw[h y (.head _)];decide)];exact ih λz hz=>h z (.tail _ hz)
theorem Yu {Κ:List D}{Φ:List Fn}{ρ:Rho}{i:Nat}{rs:List Ru}(h:ρ[i]?=some (some (.od,.list (rs.map ruD))))(hl:rs.length<=100):evF Κ Φ (.enum (.var i)) ρ=.ok (.al,rs.zipIdx.map λx=>.tuple [.int x.2,ruD x.1],ρ):=by
 have e:aG Κ Φ (.var i) ρ=.ok (.od,.list (rs.map ruD)):=by rw[iF];rw[h];rfl
 rw[HV e rfl (HW (sM gZ rs) (by rw[ac];omega)),yx]
theorem Yv {rs:List Ru}{c:Cs}(hl:rs.length<=100):∃k,Ir [.list (rs.map ruD),cD c]=.ok (.fr,xw k (bnd biR sdR rs c)):=by
 suffices h:∃k,aT [] [xh] Dv [some (.od,.list (rs.map ruD)),some (.od,cD c),none,none]=.ok (.rt .fr (xw k (bnd biR sdR rs c))) by obtain⟨k,h⟩:=h;exact⟨k,dQ h⟩
 let Q:Res Out->Prop:=λz=>∃k,z=.ok (.rt .fr (xw k (bnd biR sdR rs c)))
 show Q _;unfold Dv;refine ze6 (m:=λx:Ru×Nat=>.tuple [.int x.2,ruD x.1]) (xs:=rs.zipIdx) (Yu rfl hl) (λpre ρ=>(∀y∈pre,biR y.1 c=false)/\∃u2 u3,ρ=[some (.od,.list (rs.map ruD)),some (.od,cD c),u2,u3]) ⟨(λ_ h=>by cases h),none,none,rfl⟩ ?_ ?_
 ·rintro pre x post ρ hx ⟨hn,u2,u3,rfl⟩
  refine⟨_,wM rfl (gZ x.1),?_⟩;have ht:Tt [] [xh] (.tv (.call 0 "binds" (.cons (.var 3) (.cons (.var 1) .nil)))) [some (.od,.list (rs.map ruD)),some (.od,cD c),some (.al,.int x.2),some (.al,ruD x.1)] (biR x.1 c):=aR (eX (aF (aD rfl) (aF (aD rfl) aW)) rfl (Ys x.1 c) rfl).e rfl;cases hb:biR x.1 c with
  |true=>
   refine .inr ⟨.fr,xw x.2 (some x.1.1),bQ (iG ht (λ_=>bQ (dN (lY (bJ (IT (p:=(x.1.1,x.1.2.1.1,x.1.2.2.1.1,x.1.2.2.2.1)) rfl) (bJ (v_var rfl rfl) dF))))) λz=>by rw[hb]at z;cases z),x.2,?_⟩;have e:rs=pre.map (·.1)++x.1::post.map (·.1):=by have:rs.zipIdx.map (·.1)=(pre++x::post).map (·.1):=congrArg _ hx;rw[jx,bp,bh]at this;exact this
   rw[e,OE (λy hy=>by obtain⟨z,hz,rfl⟩:=bf.mp hy;exact hn z hz) hb];rfl
  |false=>
   refine .inl ⟨_,bU (iG ht (λz=>by rw[hb]at z;cases z) λ_=>eY) eY,λy hy=>?_,_,_,rfl⟩;rcases bo.mp hy with z|z
   ·exact hn y z
   ·rw[am.mp z];exact hb
 ·rintro ρ ⟨hn,u2,u3,rfl⟩
  refine⟨0,?_⟩;have e:bnd biR sdR rs c=none:=DG.mpr λr hr=>by rw[<-jx 0 rs]at hr;obtain⟨z,hz,rfl⟩:=bf.mp hr;exact hn z hz
  rw[e];exact bQ (dN Dj)
theorem Yw (c:Cs)(b:Bool):Dw [cD c,.str (sd b)]=.ok (.fr,ruD (mZ c b)):=by
 have e:ruD (mZ c b)=rl b c.1.1 c.2.1 (own b c.1.1 c.2.1):=by cases b<;>rfl
 unfold Dw;refine dQ ?_;unfold Iu;rw[e];exact bQ (dN (eX (aF (aD rfl) (aF (aD rfl) (aF (eG (aF (aD rfl) (aF (aD rfl) aW)) rfl (Bv b c.1.1 c.2.1)) aW))) rfl (Yq c.1.2.1 c.2.2.1 (IS (xp c.1.2.1 c.2.2.1))) (Ow _ _ _ _)))
def fo2:List Str:=["fa","fb"]
def GA (ga:List Str):Prop:=ga=[("ga":Str)]\/ga=[("ga":Str),"gb"]
def kE (ga:List Str):D:=.tuple [.str "open",.str "cruel",tS fo2,tS ga]
def sN (ga:List Str):Option Str->D
 |some n=>.tuple [.str "fact",.str n]
 |none=>kE ga
def uC (ga:List Str):List (Option Str):=(fo2++ga).map some++[none]
def dA (ga:List Str):List D:=(uC ga).map (sN ga)
theorem Yx (ga:List Str):aU (kE ga)=true:=by show imms [.str "open",.str "cruel",tS fo2,tS ga]=true;rw[imms,imms,imms,imms,imms,xr,xr];rfl
theorem Bw (ga:List Str)(o:Option Str):aU (sN ga o)=true:=by
 cases o with
 |none=>exact Yx ga
 |some n=>rfl
structure Wf (ga:List Str)(c:Cs):Prop where
 f:∀p∈c.1.1,p.1∈fo2
 a:∀p∈c.2.1,p.1∈ga
theorem IV {ga:List Str}(h:GA ga){n:Str}(hn:n∈ga):n="ga"\/n="gb":=by
 rcases h with rfl|rfl
 ·exact .inl (am.mp hn)
 ·rcases ak.mp hn with h|h
  ·exact .inl h
  ·exact .inr (am.mp h)
theorem IW {n:Str}(hn:n∈fo2):n="fa"\/n="fb":=by
 rcases ak.mp hn with h|h
 ·exact .inl h
 ·exact .inr (am.mp h)
def dY (c:Cs):P:=c.1.1++c.2.1
theorem Yy {ga:List Str}(hg:GA ga){c:Cs}(w:Wf ga c):PK (dY c) where
 sd:=List.pairwise_append.mpr ⟨c.1.2.1.sd,c.2.2.1.sd,λx hx y hy=>by rcases IW (w.f x hx)with e|e<;>rcases IV hg (w.a y hy)with e'|e'<;>(rw[e,e'];show _<_;decide)⟩
 pos:=λp hp=>(bo.mp hp).elim (c.1.2.1.pos p) (c.2.2.1.pos p)
theorem IX (n:Str):∀(a b:P),bM (a++b) n=(bM a n).or (bM b n)
 | [],b=>rfl
 |p::a,b=>by
  show bM (p::(a++b)) n=_;rw[bM,bM];by_cases e:p.1=n
  ·rw[vg e,vg e];rfl
  ·rw[vh e,vh e];exact IX n a b
theorem Yz {ga:List Str}(hg:GA ga){c:Cs}(w:Wf ga c){n:Str}(hn:n∈fo2):look (dY c) n=look c.1.1 n:=by unfold look dY;rw[IX,tQ (l:=c.2.1) (λz=>by obtain⟨p,hp,e⟩:=bf.mp z;rcases IV hg (w.a p hp)with h|h<;>rcases IW hn with h'|h'<;>(rw[e,h']at h;exact absurd h (by decide+kernel)))];cases bM c.1.1 n<;>rfl
theorem YA {ga:List Str}(hg:GA ga){c:Cs}(w:Wf ga c){n:Str}(hn:n∈ga):look (dY c) n=look c.2.1 n:=by unfold look dY;rw[IX,tQ (l:=c.1.1) (λz=>by obtain⟨p,hp,e⟩:=bf.mp z;rcases IV hg hn with h'|h'<;>rcases IW (w.f p hp)with h|h<;>(rw[e,h']at h;exact absurd h (by decide+kernel)))];cases bM c.2.1 n<;>rfl
theorem YB {l:P}{ns:List Str}(h:∀p∈l,p.1∈ns){n:Str}(hn:n∉ns):look l n=0:=by unfold look;rw[tQ λz=>by obtain⟨p,hp,rfl⟩:=bf.mp z;exact hn (h p hp)];rfl
theorem IY (th:P)(n:Str):∀(ns:List Str) (m:Int),ns.Nodup->0<=m->(nv [] th ns).foldl (λm p=>if p.1=n then max p.2 m else m) m=if n∈ns then max (look th n) m else m
 | [],m,_,_=>rfl
 |x::ns,m,nd,h=>by
  obtain⟨h1,h2⟩:=bg.mp nd;show(nv [] th ns).foldl _ (if x=n then max (look th x) m else m)=_;by_cases e:x=n
  ·subst e;rw[vg rfl,IY th x ns _ h2 (by omega),vh h1,vg az]
  ·rw[vh e,IY th n ns m h2 h];by_cases hn:n∈ns
   ·rw[vg hn,vg (bn _ hn)]
   ·rw[vh hn,vh λz=>(ak.mp z).elim (λz=>e z.symm) hn]
theorem OF {th q:P}{ns:List Str}(nd:ns.Nodup)(hq:PK q)(h1:∀n∈ns,look th n=look q n)(h2:∀p∈q,p.1∈ns):gr (nv [] th ns)=q:=by
 refine PK.ext (Yb _) hq λn=>?_;have e:look (gr (nv [] th ns)) n=max (look (uA [] (nv [] th ns)) n) 0:=Ya (IJ _ [] gf) n;rw[e,Ot,show look [] n=0 from rfl,IY th n ns 0 nd (ul 0)];have:=hq.kN n;by_cases hn:n∈ns
 ·rw[vg hn,h1 n hn];omega
 ·rw[vh hn,YB h2 hn];rfl
theorem OG {ga:List Str}(h:GA ga):ga.Nodup/\ga.length<=8:=by
 rcases h with rfl|rfl
 ·exact⟨bg.mpr ⟨(λz=>by cases z),gf⟩,by decide⟩
 ·exact⟨bg.mpr ⟨λz=>absurd (am.mp z) (by decide+kernel),bg.mpr ⟨(λz=>by cases z),gf⟩⟩,by decide⟩
theorem YC:fo2.Nodup:=bg.mpr ⟨λz=>absurd (am.mp z) (by decide+kernel),bg.mpr ⟨(λz=>by cases z),gf⟩⟩
theorem YD {ga:List Str}(hg:GA ga){c:Cs}(w:Wf ga c):Dz [kE ga,pk (dY c),.list []]=.ok (.fr,cD c):=by have h:=Yy hg w;have e1:=OC h [] fo2 (by decide);have e2:=OC h [] ga (OG hg).2;rw[OF YC c.1.2.1 (λn hn=>Yz hg w hn) w.f]at e1;rw[OF (OG hg).1 c.2.2.1 (λn hn=>YA hg w hn) w.a]at e2;unfold Dz;refine dQ ?_;unfold Iy;exact bQ (dN (lY (bJ (eX (aF (aJ (d:=tS fo2) (aD rfl) aN.e rfl (xr _)).e (aF (aD rfl) (aF (aD rfl) aW))) rfl e1 (cP _)) (bJ (eX (aF (aJ (d:=tS ga) (aD rfl) aN.e rfl (xr _)).e (aF (aD rfl) (aF (aD rfl) aW))) rfl e2 (cP _)) dF))))
theorem YE (ns:List Str):(ns.map some++[none]).filter qv=ns.map some:=by rw[j9,dr.mpr λx hx=>by obtain⟨n,_,rfl⟩:=bf.mp hx;rfl];exact cr _
theorem YF (ns:List Str):(ns.map some++[none]).filter qx=[none]:=by rw[j9,lb.mpr λx hx=>by obtain⟨n,_,rfl⟩:=bf.mp hx;exact ce];rfl
theorem YG {ga:List Str}{c:Cs}(w:Wf ga c):Dx [.list (dA ga),pk (dY c)]=.ok (.fr,pk (dY c)):=by
 unfold Dx;refine dQ ?_;unfold Iv
 have h1:=z1e (Κ:=[]) (Φ:=[]) (ρ:=[some (.od,.list (dA ga)),some (.od,pk (dY c)),none]) (nt:=1) (js:=[]) (N':=["row"]) (tg:=.nm 0) (it:=.tv (.var 0)) (cond:=.tv (.cmp .Eq (.ix (.var 0) (.int 0)) (.str "fact"))) (elt:=.ix (.var 0) (.int 1)) (m:=sN ga) (xs:=uC ga) qv (λo=>.str (o.getD "cruel")) (cI (g:=.od) (x:=.list (dA ga)) (by rw[iF];rfl) rfl) rfl (λo=>[some (.al,sN ga o)]) (λo _=>by rw[mX (Bw ga o)];rfl) (λo _=>by
  cases o with
  |none=>exact aR (k:=false) (cY (aJ (d:=.str "open") (aD rfl) aN.e rfl rfl).e dR.e (k:=false) (by rfl)).e rfl
  |some n=>exact aR (k:=true) (cY (aJ (d:=.str "fact") (aD rfl) aN.e rfl rfl).e dR.e (k:=true) (by rfl)).e rfl) λo _ _=>by
  cases o with
  |none=>exact aJ (d:=.str "cruel") (aD rfl) aN.e rfl rfl
  |some n=>exact aJ (d:=.str n) (aD rfl) aN.e rfl rfl
 rw[show(uC ga).filter qv=(fo2++ga).map some from YE _,dz]at h1;have h1:aG [] [] _ _=.ok (.fr,.list ((fo2++ga).map .str)):=h1;refine bU (tU h1 (tT _)) ?_;have h2:=Yr (Φ:=[]) (ρ:=[some (.od,.list (dA ga)),some (.od,pk (dY c)),some (.fr,.list ((fo2++ga).map .str))]) (it:=.tv (.var 1)) (fs:=fo2++ga) (th:=dY c) (j:=2) (cI (v_var rfl (cP _)).1 rfl) (.inl rfl) ["pair","facts"];have e:OD (fo2++ga) (dY c)=dY c:=dr.mpr λp hp=>vn (bo.mpr ((bo.mp hp).imp (w.f p) (w.a p)));rw[e]at h2;exact bQ (dN (yu (w:=(true,(dY c).map pr)) (Ev.of h2) rfl rfl (cP _)))
theorem YH {ga:List Str}{n:Nat}(hn:n<=6):DA [.list (dA ga),.int n]=.ok (.fr,.int n):=by
 unfold DA;refine dQ ?_;unfold Iz
 have h1:=z1e (Κ:=[]) (Φ:=[]) (ρ:=[some (.od,.list (dA ga)),some (.od,.int n)]) (nt:=1) (js:=[]) (N':=["row"]) (tg:=.nm 0) (it:=.tv (.var 0)) (cond:=.tv (.cmp .Eq (.ix (.var 0) (.int 0)) (.str "open"))) (elt:=.var 0) (m:=sN ga) (xs:=uC ga) qx (sN ga) (cI (g:=.od) (x:=.list (dA ga)) (by rw[iF];rfl) rfl) rfl (λo=>[some (.al,sN ga o)]) (λo _=>by rw[mX (Bw ga o)];rfl) (λo _=>by
  cases o with
  |none=>exact aR (k:=true) (cY (aJ (d:=.str "open") (aD rfl) aN.e rfl rfl).e dR.e (k:=true) (by rfl)).e rfl
  |some n=>exact aR (k:=false) (cY (aJ (d:=.str "fact") (aD rfl) aN.e rfl rfl).e dR.e (k:=false) (by rfl)).e rfl) λo _ _=>v_var rfl (Bw ga o)
 rw[show(uC ga).filter qx=[none]from YF _]at h1;refine bQ (dN (cJ (d:=.int n) (gY (d:=.int 1) (aF (Ev.of h1) aW) rfl rfl).e (aD rfl) ?_ rfl));show(if(-(2 ^ 64)<(1:Int)/\(1:Int)<2 ^ 64)\/(-(2 ^ 64)<(n:Int)/\(n:Int)<2 ^ 64)then Res.ok (PyData.int (1*n))else .no)=_;rw[vg (.inl (by decide)),Int.one_mul]
theorem yL (xs:List Int){k:Int}(h0:0<=k):∃v,Bp [.list (xs.map .int),.int k]=.ok (.fr,.int v):=by
 have hc:Tt [] [] (.tv (.cmp .Lt (.var 1) (.bi "len" (.cons (.var 0) .nil)))) [some (.od,.list (xs.map .int)),some (.od,.int k)] (decide (k<xs.length)):=aR (cY (aD rfl) (gY (d:=.int xs.length) (aF (aD rfl) aW) (by show Res.ok (PyData.int ((xs.map PyData.int).length:Nat))=_;rw[ac]) rfl).e rfl).e rfl;cases hk:decide (k<xs.length)with
 |true=>exact⟨_,dQ (HX hc hk (bQ (dN (aJ (aD rfl) (aD rfl) (NJ h0 (vm hk)) rfl))))⟩
 |false=>exact⟨0,dQ (Dq hc hk (bQ (dN aN)))⟩
theorem DN (c:Int){k:Int}(h0:0<=k)(h1:k<=100):∃m,(0<=m/\m<2147483647)/\z4u [.int c,.int k]=.ok (.fr,.int m):=by
 generalize ha:c%1000000007+31*k+1=a;have hp:(0:Int)<=a/\a<2000000000:=by rw[<-ha];have:=fm c (b:=1000000007) (by decide);have:=gv c (b:=1000000007) (by decide);omega
 refine⟨a*a%2147483629*(k+7)%2147483647,⟨fm _ (by decide),gv _ (by decide)⟩,dQ ?_⟩;unfold IA;refine bU (j' (d:=.int a) (by rw[<-ha];exact cJ (cJ (cJ (aD rfl) aN.e (lX (by decide)) rfl).e (cJ aN.e (aD rfl) (NK (by decide)) rfl).e rfl rfl).e aN.e rfl rfl)) ?_;exact bQ (dN (cJ (cJ (cJ (cJ (aD rfl) (aD rfl) (NK ⟨by omega,by omega⟩) rfl).e aN.e (lX (by decide)) rfl).e (cJ (aD rfl) aN.e rfl rfl).e (Di ⟨by omega,by omega⟩) rfl).e aN.e (lX (by decide)) rfl))
theorem YI {c:Int}(h0:0<=c)(h1:c<2147483647)(b:Bool):∃n,0<=n/\yH [.int c,.bool b]=.ok (.fr,.int n):=by
 have h3:∀{ρ:Rho},ρ[0]?=some (some (.od,.int c))->Vv [] [] (.bin .Mod (.var 0) (.int 3)) ρ (.int (c%3)):=λh=>cJ (aD h) aN.e (lX (by decide)) rfl;cases b with
 |true=>exact⟨c%3,fm _ (by decide),dQ (HX (k:=true) (aR (aD rfl) rfl) rfl (bQ (dN (h3 rfl))))⟩
 |false=>
  let z:Int:=c*48271*1442695040888963407%1000000000000000000000000000001
  have hz:0<=z:=fm _ (by decide);have r:=fm (c/3) (b:=2) (by decide);have r2:=gv (c/3) (b:=2) (by decide);have e:jB (.list ([c%3,z].map .int)) (.int (c/3%2))=.ok (.int ([c%3,z].getD (c/3%2).toNat 0)):=NJ r (by show _<(2:Int);omega);refine⟨[c%3,z].getD (c/3%2).toNat 0,?_,dQ (Dq (k:=false) (aR (aD rfl) rfl) rfl (bQ (dN (aJ (x:=.list ([c%3,z].map .int)) (Ev.of (gX (bJ (h3 rfl) (bJ (cJ (cJ (cJ (aD rfl) aN.e (Di (by decide)) rfl).e aN.e (Di (by decide)) rfl).e (cJ (d:=.int 1000000000000000000000000000001) Xr.e aN.e rfl rfl).e (lX (by decide)) rfl) dF)))) (cJ (cJ (aD rfl) aN.e (IM (by decide) (by decide)) rfl).e aN.e (lX (by decide)) rfl).e e rfl))))⟩;have:(c/3%2).toNat=0\/(c/3%2).toNat=1:=by omega
  rcases this with q|q<;>rw[q]
  ·exact fm _ (by decide)
  ·exact hz
theorem YJ {Κ:List D}{Φ:List Fn}{ρ:Rho}{i:Nat}{ns:List Str}{g:G}(h:ρ[i]?=some (some (.od,.list (ns.map .str))))(hl:ns.length<=100):evF Κ Φ (.enum (.var i)) ρ=.ok (.al,ns.zipIdx.map λx=>.tuple [.int x.2,.str x.1],ρ):=by
 have e:aG Κ Φ (.var i) ρ=.ok (.od,.list (ns.map .str)):=by rw[iF];rw[h];rfl
 rw[HV e rfl (HW (tT ns) (by rw[ac];omega)),yx]
theorem OH {ns:List Str}(hl:ns.length<=2)(hs:ns.Pairwise sl)(c:Int)(b:Bool):∃q:Q2,(∀p∈q.1,p.1∈ns)/\zax [.list (ns.map .str),.int c,.bool b]=.ok (.fr,pk q.1):=by
 suffices h:∃q:P,(∀p∈q,p.1∈ns)/\PK q/\q.length<=2/\aT [] [yH,z4u] DB [some (.od,.list (ns.map .str)),some (.od,.int c),some (.od,.bool b),none,none,none,none]=.ok (.rt .fr (pk q)) by obtain⟨q,h1,h2,h3,h4⟩:=h;exact⟨⟨q,h2,h3⟩,h1,dQ h4⟩
 let Q:Res Out->Prop:=λz=>∃q:P,(∀p∈q,p.1∈ns)/\PK q/\q.length<=2/\z=.ok (.rt .fr (pk q))
 show Q _;unfold DB;refine kA (tU (gX dF) rfl) ?_;refine zhs (m:=λx:Str×Nat=>.tuple [.int x.2,.str x.1]) (xs:=ns.zipIdx) (YJ (g:=.od) rfl (by omega)) (λpre ρ=>∃q:P,(q.map (·.1)).Sublist (pre.map (·.1))/\(∀p∈q,0<p.2)/\∃u4 u5 u6,ρ=[some (.od,.list (ns.map .str)),some (.od,.int c),some (.od,.bool b),some (.fr,.list (q.map pr)),u4,u5,u6]) ⟨[],.refl _,λ_ h=>(by cases h),_,_,_,rfl⟩ ?_ ?_
 ·rintro pre x post ρ hx ⟨q,s,hp,u4,u5,u6,rfl⟩
  have hk:x.2<2:=by have:=aq.mp (IQ (show x∈ns.zipIdx by rw[hx];exact ay _ az));exact cb this.1 hl
  obtain⟨m,⟨m0,m1⟩,em⟩:=DN c (k:=3+x.2) (by omega) (by omega);obtain⟨n,n0,en⟩:=YI m0 m1 b;have e1:aT [] [yH,z4u] (.asg (.nm 6) (.call 0 "_law_degree" (.cons (.call 1 "_law_mix" (.cons (.var 1) (.cons (.bin .Add (.int 3) (.var 4)) .nil))) (.cons (.var 2) .nil)))) [some (.od,.list (ns.map .str)),some (.od,.int c),some (.od,.bool b),some (.fr,.list (q.map pr)),some (.al,.int x.2),some (.al,.str x.1),u6]=.ok (.nx [some (.od,.list (ns.map .str)),some (.od,.int c),some (.od,.bool b),some (.fr,.list (q.map pr)),some (.al,.int x.2),some (.al,.str x.1),some (.al,.int n)]):=j' (eX (aF (eG (aF (aD rfl) (aF (cJ aN.e (aD rfl) rfl rfl).e aW)) rfl em) (aF (aD rfl) aW)) rfl en rfl);have ht:Tt [] [yH,z4u] (.tv (.cmp .Gt (.var 6) (.int 0))) [some (.od,.list (ns.map .str)),some (.od,.int c),some (.od,.bool b),some (.fr,.list (q.map pr)),some (.al,.int x.2),some (.al,.str x.1),some (.al,.int n)] (decide (0<n)):=aR (cY (aD rfl) aN.e rfl).e rfl
  have hql:q.length<=2:=by
   have h1:=s.length_le;rw[ac,ac]at h1;have h2:pre.length<=ns.zipIdx.length:=by rw[hx,au];omega
   rw[f8]at h2;omega
  by_cases hn:0<n
  ·refine⟨_,_,wM rfl rfl,bU e1 (bU (iG ht (λ_=>bU (Dm (x:=pr (x.1,n)) (lY (bJ (v_var rfl rfl) (bJ (v_var rfl rfl) dF))) rfl (by rw[ac];omega)) eY) λz=>by rw[vn hn]at z;cases z) eY),q++[(x.1,n)],?_,λp IZ=>?_,_,_,_,by rw[bp];rfl⟩
   ·rw[bp,bp];exact s.append (.refl _)
   ·rcases bo.mp IZ with z|z
    ·exact hp p z
    ·rw[am.mp z];exact hn
  ·refine⟨_,_,wM rfl rfl,bU e1 (bU (iG ht (λz=>by rw[vo hn]at z;cases z) λ_=>eY) eY),q,?_,hp,_,_,_,rfl⟩;rw[bp];exact s.trans (List.sublist_append_left _ _)
 ·rintro ρ ⟨q,s,hp,u4,u5,u6,rfl⟩
  rw[jx]at s;refine⟨q,λp IZ=>s.subset (List.mem_map_of_mem IZ),⟨?_,hp⟩,?_,?_⟩
  ·have :=hs.sublist s;exact nh.mp this
  ·have h1:=s.length_le;rw[ac]at h1;omega
  ·exact bQ (dN (yu (w:=(true,q.map pr)) (aD rfl) rfl (Dg _ _) (cP q)))
theorem OI {a b:P}:wi a b=a.all λp=>!decide (look b p.1<p.2):=by
 unfold wi
 induction a with
 |nil=>rfl
 |cons p a ih=>
  rw[d6,cv,<-ih];by_cases h:look b p.1<p.2
  ·rw[vg (vn h),vn h];rfl
  ·rw[vh (by rw[vo h];decide),vo h];rfl
def I0 (b:P)(p:Str×Int):P:=b.filter λq=>decide (q.1=p.1)&&decide (q.2 ≥ p.2)
theorem YK {b:P}(hb:PK b){p:Str×Int}(hp:0<p.2):(I0 b p).isEmpty=decide (look b p.1<p.2):=by
 rw[j4,decide_eq_true_iff,ln];unfold I0;rw[lb];constructor
 ·intro h;by_cases z:look b p.1<p.2
  ·exact z
  ·unfold look at z ⊢;cases e:bM b p.1 with
   |none=>rw[e]at z;exact absurd hp z
   |some v=>rw[e]at z;have z:¬v<p.2:=z;exact absurd (h _ (tR e)) (by simp;omega)
 ·intro h q hq z;obtain⟨z1,z2⟩:=av.mp z;have z1:=vm z1;have z2:=vm z2;have:=A8 hb.nd hq;unfold look at h;rw[<-z1,this]at h;have h:q.2<p.2:=h;omega
theorem YL (l:P):cR 39 (l.map pr)=true:=kJ.mpr λx hx=>by obtain⟨p,_,rfl⟩:=bf.mp hx;rfl
theorem yM {a b:P}(ha:PK a)(hb:PK b):tZ [pk a,pk b]=.ok (.fr,.bool (wi a b)):=by
 unfold tZ;refine dQ ?_
 let Q:Res Out->Prop:=λz=>z=.ok (.rt .fr (.bool (wi a b)))
 show Q _;unfold IB;refine ze6 (m:=pr) (xs:=a) (Xp rfl (by decide) (cP a) rfl) (λpre ρ=>(∀p∈pre,¬look b p.1<p.2)/\∃u2 u3,ρ=[some (.od,pk a),some (.od,pk b),u2,u3]) ⟨(λ_ h=>by cases h),none,none,rfl⟩ ?_ ?_
 ·rintro pre p post ρ hx ⟨hn,u2,u3,rfl⟩
  have hm:p∈a:=by rw[hx];exact ay _ az
  refine⟨_,wM rfl rfl,?_⟩;have hc:=z1e (Κ:=[]) (Φ:=[]) (ρ:=[some (.od,pk a),some (.od,pk b),some (.al,.str p.1),some (.al,.int p.2)]) (nt:=1) (js:=[2,3]) (N':=["_law_more","_law_name","_law_count"]) (tg:=.nm 0) (it:=.tv (.var 1)) (cond:=.and (.tv (.cmp .Eq (.ix (.var 0) (.int 0)) (.var 1))) (.tv (.cmp .GtE (.ix (.var 0) (.int 1)) (.var 2)))) (elt:=.var 0) (m:=pr) (xs:=b) (λq=>decide (q.1=p.1)&&decide (q.2 ≥ p.2)) pr (cI (v_var rfl (cP b)).1 rfl) rfl (λq=>[some (.al,pr q),some (.al,.str p.1),some (.al,.int p.2)]) (λq _=>rfl) (λq _=>Bd (aR (cY (k:=decide (q.1=p.1)) (aJ (d:=.str q.1) (aD rfl) aN.e rfl rfl).e (aD rfl) (by show Res.ok _=_;exact congrArg Res.ok (xq q.1 p.1))).e rfl) λ_=>aR (cY (k:=decide (q.2 ≥ p.2)) (aJ (d:=.int q.2) (aD rfl) aN.e rfl rfl).e (aD rfl) rfl).e rfl) λq _ _=>v_var rfl (Dd q);have ht:Tt [] [] (.tv (.cmp .Eq (.comp 1 [2,3] ["_law_more","_law_name","_law_count"] (.nm 0) (.tv (.var 1)) (.and (.tv (.cmp .Eq (.ix (.var 0) (.int 0)) (.var 1))) (.tv (.cmp .GtE (.ix (.var 0) (.int 1)) (.var 2)))) (.var 0)) (.lst .nil))) [some (.od,pk a),some (.od,pk b),some (.al,.str p.1),some (.al,.int p.2)] (decide (look b p.1<p.2)):=by refine aR (cY (k:=decide (look b p.1<p.2)) (Ev.of hc) (Ev.of (gX dF)) ?_).e rfl;rw[show(List.filter (λq=>decide (q.1=p.1)&&decide (q.2 ≥ p.2)) b)=I0 b p from rfl,eq_nil _ (YL _),i9,YK hb (ha.pos p hm)]
  by_cases h:look b p.1<p.2
  ·refine .inr ⟨.fr,.bool false,bQ (iG ht (λ_=>bQ (dN rR)) λz=>by rw[vn h]at z;cases z),?_⟩;show _=_;have e:wi a b=false:=by rw[OI,hx,List.all_append,cv,vn h];exact Bool.and_false _
   rw[e]
  ·refine .inl ⟨_,bU (iG ht (λz=>by rw[vo h]at z;cases z) λ_=>eY) eY,λy hy=>?_,_,_,rfl⟩;rcases bo.mp hy with z|z
   ·exact hn y z
   ·rw[am.mp z];exact h
 ·rintro ρ ⟨hn,u2,u3,rfl⟩
  have e:wi a b=true:=by rw[OI];exact b8.mpr λp hp=>by rw[vo (hn p hp)];rfl
  show aT _ _ _ _=_;rw[e];exact bQ (dN rR)
theorem YM (b:Bool):lI "int" [.bool (decide ((sd b)=("against":Str)))]=.ok (.int (if b then 0 else 1)):=by cases b<;>rfl
theorem Ja {Φ:List Fn}{ρ:Rho}{t:C}{b:Bool}(h:Ev [] Φ t ρ (.str (sd b))):Vv [] Φ (.bi "int" (.cons (.cmp .Eq t (.str "against")) .nil)) ρ (.int (if b then 0 else 1)):=gY (aF (cY (k:=decide (sd b=("against":Str))) h dR.e (by show Res.ok _=_;exact congrArg Res.ok (xq _ _))).e aW) (YM b) rfl
theorem YN (r:Ru)(c:Cs):Bq [ruD r,cD c]=.ok (.fr,.bool (biR r c)):=by
 obtain⟨b,f,a,q⟩:=r;have e:biR (b,f,a,q) c=(wi q.1 (own b c.1.1 c.2.1)&&wi (own (!b) c.1.1 c.2.1) (own (!b) f.1 a.1)):=by unfold biR bi;rw[DL,DL]
 unfold Bq;refine dQ ?_;unfold IC;refine bU (j' (Ja (b:=b) (aJ (d:=.str (sd b)) (aD rfl) aN.e rfl rfl).e)) ?_;rw[e];exact bQ (dN (v_and (eX (aF (aJ (d:=pk q.1) (aD rfl) aN.e rfl (cP _)).e (aF (xu (b:=b) (aD rfl) (aD rfl)).e aW)) rfl (yM q.2.1 (xp c.1.2.1 c.2.2.1)) rfl).e λ_=>eX (aF (xu (b:=!b) (aD rfl) (cJ aN.e (aD rfl) (IU b) rfl).e).e (aF (xu (b:=!b) (aJ (d:=jE f.1 a.1) (aD rfl) aN.e rfl (xo _ _)).e (cJ aN.e (aD rfl) (IU b) rfl).e).e aW)) rfl (yM (xp c.1.2.1 c.2.2.1) (xp f.2.1 a.2.1)) rfl))
def agR (r s:Ru):Bool:=!(r.1==s.1)&&(wi s.2.2.2.1 (own (!r.1) r.2.1.1 r.2.2.1.1)&&wi r.2.2.2.1 (own r.1 s.2.1.1 s.2.2.1.1))
theorem YO (b c:Bool):decide (sd b=sd c)=(b==c):=by cases b<;>cases c<;>rfl
theorem YQ (r s:Ru):Br [ruD r,ruD s]=.ok (.fr,.bool (agR r s)):=by
 obtain⟨b,f,a,q⟩:=r;obtain⟨b',f',a',q'⟩:=s;unfold Br;refine dQ ?_;unfold ID;have ht:Tt [] [tZ] (.tv (.cmp .Eq (.ix (.var 0) (.int 1)) (.ix (.var 1) (.int 1)))) [some (.od,ruD (b,f,a,q)),some (.od,ruD (b',f',a',q')),none] (b==b'):=aR (cY (aJ (d:=.str (sd b)) (aD rfl) aN.e rfl rfl).e (aJ (d:=.str (sd b')) (aD rfl) aN.e rfl rfl).e (by show Res.ok _=_;rw[xq,YO])).e rfl;have e:agR (b,f,a,q) (b',f',a',q')=(!(b==b')&&(wi q'.1 (own (!b) f.1 a.1)&&wi q.1 (own b f'.1 a'.1))):=rfl;rw[e];cases h:b==b' with
 |true=>exact HX ht h (bQ (dN rR))
 |false=>refine Dq ht h ?_;rw[show((!false)&&(wi q'.1 (own (!b) f.1 a.1)&&wi q.1 (own b f'.1 a'.1)))=(wi q'.1 (own (!b) f.1 a.1)&&wi q.1 (own b f'.1 a'.1))from rfl];refine bU (j' (Ja (b:=b) (aJ (d:=.str (sd b)) (aD rfl) aN.e rfl rfl).e)) ?_;exact bQ (dN (v_and (eX (aF (aJ (d:=pk q'.1) (aD rfl) aN.e rfl (cP _)).e (aF (xu (b:=!b) (aJ (d:=jE f.1 a.1) (aD rfl) aN.e rfl (xo _ _)).e (cJ aN.e (aD rfl) (IU b) rfl).e).e aW)) rfl (yM q'.2.1 (xp f.2.1 a.2.1)) rfl).e λ_=>eX (aF (aJ (d:=pk q.1) (aD rfl) aN.e rfl (cP _)).e (aF (xu (b:=b) (aJ (d:=jE f'.1 a'.1) (aD rfl) aN.e rfl (xo _ _)).e (aD rfl)).e aW)) rfl (yM q.2.1 (xp f'.2.1 a'.2.1)) rfl))
theorem YR {l:List Ru}(h:∀r∈l,∀s∈l,agR r s=false):Cons biR sdR l:=λr hr s hs c h1 h2=>by
 have z:=h r hr s hs;by_cases e:r.1=s.1
 ·exact e
 ·exfalso;obtain⟨b,f,a,q⟩:=r;obtain⟨b',f',a',q'⟩:=s;have e:b≠b':=e;have z:(!(b==b')&&(wi q'.1 (own (!b) f.1 a.1)&&wi q.1 (own b f'.1 a'.1)))=false:=z;obtain⟨x1,x2⟩:=av.mp h1;obtain⟨y1,y2⟩:=av.mp h2;have w:wi q'.1 (own (!b) f.1 a.1)=true/\wi q.1 (own b f'.1 a'.1)=true:=by cases b<;>cases b'<;>first|exact absurd rfl e|exact⟨uB q'.2.1 c.1.2.1 f.2.1 y1 x2,uB q.2.1 c.2.2.1 a'.2.1 x1 y2⟩|exact⟨uB q'.2.1 c.2.2.1 a.2.1 y1 x2,uB q.2.1 c.1.2.1 f'.2.1 x1 y2⟩
  rw[w.1,w.2,show(b==b')=false from beq_false_of_ne e]at z;cases z
theorem YS (r s:Ru):agR r s=agR s r:=by obtain⟨b,f,a,q⟩:=r;obtain⟨b',f',a',q'⟩:=s;show(!(b==b')&&(wi q'.1 (own (!b) f.1 a.1)&&wi q.1 (own b f'.1 a'.1)))=(!(b'==b)&&(wi q.1 (own (!b') f'.1 a'.1)&&wi q'.1 (own b' f.1 a.1)));cases b<;>cases b'<;>first|rfl|(show(true&&(_&&_))=(true&&(_&&_));exact congrArg (true&& ·) (Bool.and_comm _ _))
def sdD:Option Bool->D
 |none=>.none
 |some s=>.str (sd s)
theorem Jb (o:Option Bool):aU (sdD o)=true:=by cases o<;>rfl
theorem OJ {rs:List Ru}{c:Cs}:kP [.list (rs.map ruD),cD c]=.ok (.fr,sdD (bnd biR sdR rs c)):=by
 unfold kP;refine dQ ?_
 let Q:Res Out->Prop:=λz=>z=.ok (.rt .fr (sdD (bnd biR sdR rs c)))
 show Q _;unfold IF;refine ze6 (m:=ruD) (xs:=rs) (Be rfl rfl rfl) (λpre ρ=>(∀y∈pre,biR y c=false)/\∃u2,ρ=[some (.od,.list (rs.map ruD)),some (.od,cD c),u2]) ⟨(λ_ h=>by cases h),none,rfl⟩ ?_ ?_
 ·rintro pre x post ρ hx ⟨hn,u2,rfl⟩
  refine⟨_,oY (gZ x),?_⟩;have ht:Tt [] [Bq] (.tv (.call 0 "_law_binds" (.cons (.var 2) (.cons (.var 1) .nil)))) [some (.od,.list (rs.map ruD)),some (.od,cD c),some (.al,ruD x)] (biR x c):=aR (eX (aF (aD rfl) (aF (aD rfl) aW)) rfl (YN x c) rfl).e rfl;cases hb:biR x c with
  |true=>refine .inr ⟨.fr,.str (sd x.1),bQ (iG ht (λ_=>bQ (dN (aJ (d:=.str (sd x.1)) (aD rfl) aN.e rfl rfl))) λz=>by rw[hb]at z;cases z),?_⟩;show _=_;rw[hx,OE hn hb];rfl
  |false=>
   refine .inl ⟨_,bU (iG ht (λz=>by rw[hb]at z;cases z) λ_=>eY) eY,λy hy=>?_,_,rfl⟩;rcases bo.mp hy with z|z
   ·exact hn y z
   ·rw[am.mp z];exact hb
 ·rintro ρ ⟨hn,u2,rfl⟩
  show aT _ _ _ _=_;rw[DG.mpr hn];exact bQ (dN Dj)
theorem OK {n:Nat}(hn:n<=6):yI [.int n]=.ok (.fr,.int ((2 ^ n:Nat):Int)):=by
 unfold yI;refine dQ ?_
 let Q:Res Out->Prop:=λz=>z=.ok (.rt .fr (.int ((2 ^ n:Nat):Int)))
 show Q _;unfold IG;refine kA (j' aN) ?_;refine zhs (m:=λ(i:Nat)=>PyData.int i) (xs:=cn n) (HU (aF (aD rfl) aW) (yt (by omega) (by omega))) (λpre ρ=>∃u2,ρ=[some (.od,.int n),some (.al,.int ((2 ^ pre.length:Nat):Int)),u2]) ⟨_,rfl⟩ ?_ ?_
 ·rintro pre x post ρ hx ⟨u2,rfl⟩
  refine⟨_,_,oY rfl,bU (j' (cJ (aD rfl) aN.e (Di (by decide)) rfl)) eY,some (.al,.int x),?_⟩;show[some (G.od,PyData.int n),some (G.al,.int (((2 ^ pre.length:Nat):Int)*2)),some (.al,.int x)]=_;rw[au,show pre.length+ [x].length=pre.length+1 from rfl,o8];rfl
 ·rintro ρ ⟨u2,rfl⟩
  rw[d9];exact bQ (dN (v_var rfl rfl))
theorem YT:fo2.Pairwise sl:=c9.mpr ⟨λy hy=>by rw[am.mp hy];show _<_;decide,gj _ _⟩
theorem YU {ga:List Str}(h:GA ga):ga.Pairwise sl:=by
 rcases h with rfl|rfl
 ·exact gj _ _
 ·exact c9.mpr ⟨λy hy=>by rw[am.mp hy];show _<_;decide,gj _ _⟩
theorem OL {ga:List Str}(h:GA ga):ga.length<=2:=by rcases h with rfl|rfl<;>decide
theorem zbw {ga:List Str}(hg:GA ga){Φ:List Fn}{ρ:Rho}{tf ta tc ts:C}{i j:Nat}{c:Int}{b:Bool}(hp:Φ[i]?=some zax)(hm:Φ[j]?=some z4u)(hf:Ev [] Φ tf ρ (.list (fo2.map .str)))(ha:Ev [] Φ ta ρ (.list (ga.map .str)))(hc:Ev [] Φ tc ρ (.int c))(hs:Ev [] Φ ts ρ (.bool b)):
  ∃q:Cs,Wf ga q/\Vv [] Φ (.tup (.cons (.call i "_law_pack" (.cons tf (.cons tc (.cons ts .nil)))) (.cons (.call i "_law_pack" (.cons ta (.cons (.call j "_law_mix" (.cons tc (.cons (.int 20) .nil))) (.cons ts .nil)))) .nil))) ρ (cD q):=by
 obtain⟨f,f1,f2⟩:=OH (ns:=fo2) (by decide) YT c b;obtain⟨m,_,em⟩:=DN c (k:=20) (by decide) (by decide);obtain⟨a,a1,a2⟩:=OH (OL hg) (YU hg) m b;exact⟨(f,a),⟨f1,a1⟩,lY (bJ (eX (aF hf (aF hc (aF hs aW))) hp f2 (cP _)) (bJ (eX (aF ha (aF (eG (aF hc (aF aN.e aW)) hm em) (aF hs aW))) hp a2 (cP _)) dF))⟩
theorem YV {q:Q2}{l:P}(h:l.Sublist q.1):PK l/\l.length<=2:=⟨⟨q.2.1.sd.sublist h,λp hp=>q.2.1.pos p (h.subset hp)⟩,cg h.length_le q.2.2⟩
theorem YW (bs:List Bool):((bs.map PyData.bool).any λy=>cQ y (.bool true))=bs.any id:=by
 rw[List.any_map]
 congr 1
 funext b
 cases b<;>rfl
theorem YX (bs:List Bool):cmpD .NotIn (.bool true) (.list (bs.map .bool))=.ok (!bs.any id):=by
 have e:inD (.bool true) (.list (bs.map .bool))=.ok (bs.any id):=by show(if(aP 40 (.bool true)&&cR 40 (bs.map .bool))=true then Res.ok ((bs.map PyData.bool).any λy=>cQ y (.bool true))else .no)=_;have h:(aP 40 (.bool true)&&cR 40 (bs.map .bool))=true:=av.mpr ⟨rfl,kJ.mpr λx hx=>by obtain⟨b,_,rfl⟩:=bf.mp hx;rfl⟩;rw[vg h,YW]
 show(inD (.bool true) (.list (bs.map .bool))>>=λb=>Res.ok (!b))=_;rw[e];rfl
abbrev Φb:List Fn:=[Bp,Br,z4u,zax]
theorem YY {ρ:Rho}{i:Nat}{c:Int}(h:Ev [] Φb (.var i) ρ (.int c)):∃b:Bool,Vv [] Φb (.bin .Mod (.call 2 "_law_mix" (.cons (.var i) (.cons (.int 21) .nil))) (.int 2)) ρ (.int (if b then 0 else 1)):=by
 obtain⟨m,_,em⟩:=DN c (k:=21) (by decide) (by decide);have v:Vv [] Φb (.bin .Mod (.call 2 "_law_mix" (.cons (.var i) (.cons (.int 21) .nil))) (.int 2)) ρ (.int (m%2)):=cJ (eG (aF h (aF aN.e aW)) rfl em) aN.e (lX (by decide)) rfl;have:m%2=0\/m%2=1:=by omega
 rcases this with e|e
 ·exact⟨true,by rw[e]at v;exact v⟩
 ·exact⟨false,by rw[e]at v;exact v⟩
theorem YZ (b:Bool):jB (.list [.str "for",.str "against"]) (.int (if b then 0 else 1))=.ok (.str (sd b)):=by cases b<;>rfl
theorem zo9 {ρ:Rho}{c:Int}{q:Cs}{b:Bool}(h6:toAl (ρ.getD 6 none)=some (.al,.int c))(h7:Ev [] Φb (.var 7) ρ (cD q))(h8:Ev [] Φb (.var 8) ρ (.int (if b then 0 else 1))):
  ∃r:Q2,Vv [] Φb (.eD "tuple" (.tv (.comp 2 [6] ["_law_j","_law_pair","_law_cell"] (.tp [0,1]) (.enum (.ix (.var 7) (.var 8))) (.tv (.cmp .Eq (.bin .Mod (.call 2 "_law_mix" (.cons (.var 2) (.cons (.bin .Add (.int 22) (.var 0)) .nil))) (.int 2)) (.int 0))) (.var 1)))) ρ (pk r.1):=by
 let o:Q2:=if b then q.1 else q.2
 have eo:own b q.1.1 q.2.1=o.1:=by cases b<;>rfl
 have hm:∀j:Nat,∃m:Int,j<=60->z4u [.int c,.int (22+j)]=.ok (.fr,.int m):=λj=>by
  by_cases h:j<=60
  ·obtain⟨m,_,em⟩:=DN c (k:=22+j) (by omega) (by omega);exact⟨m,λ_=>em⟩
  ·exact⟨0,λz=>(h z).elim⟩
 obtain⟨mf,Y0⟩:=Classical.axiomOfChoice hm;have hx:Vv [] Φb (.ix (.var 7) (.var 8)) ρ (pk o.1):=by rw[<-eo];exact xu h7 h8
 have hw:evW [] Φb (.enum (.ix (.var 7) (.var 8))) ρ=.ok (.al,o.1.zipIdx.map λx=>.tuple [.int x.2,pr x.1]):=by rw[CW (x:=pk o.1) hx.e (Xq (by rw[ac];have:=o.2.2;omega)),yx]
 have hc:=z1e (Κ:=[]) (Φ:=Φb) (ρ:=ρ) (nt:=2) (js:=[6]) (N':=["_law_j","_law_pair","_law_cell"]) (tg:=.tp [0,1]) (it:=.enum (.ix (.var 7) (.var 8))) (cond:=.tv (.cmp .Eq (.bin .Mod (.call 2 "_law_mix" (.cons (.var 2) (.cons (.bin .Add (.int 22) (.var 0)) .nil))) (.int 2)) (.int 0))) (elt:=.var 1) (m:=λx:(Str×Int)×Nat=>.tuple [.int x.2,pr x.1]) (xs:=o.1.zipIdx) (λx=>decide (mf x.2%2=0)) (λx=>pr x.1) hw rfl (λx=>[some (.al,.int x.2),some (.al,pr x.1),some (.al,.int c)]) (λx _=>by show eE (.tp [0,1]) _ [none,none,toAl (ρ.getD 6 none)]=_;rw[h6];exact wM rfl (Dd x.1)) (λx hx=>aR (cY (k:=decide (mf x.2%2=0)) (cJ (eG (aF (aD rfl) (aF (cJ aN.e (aD rfl) rfl rfl).e aW)) rfl (Y0 x.2 (by have:=(aq.mp (IQ hx)).1;have:=o.2.2;omega))) aN.e (lX (by decide)) rfl).e aN.e (by show Res.ok _=_;exact congrArg Res.ok (NL _ _))).e rfl) λx _ _=>v_var rfl (Dd x.1)
 let l:P:=(o.1.zipIdx.filter λx=>decide (mf x.2%2=0)).map (·.1)
 have hs:l.Sublist o.1:=by have:=(List.filter_sublist (p:=λx:(Str×Int)×Nat=>decide (mf x.2%2=0)) (l:=o.1.zipIdx)).map (·.1);rw[jx]at this;exact this
 have e:(o.1.zipIdx.filter λx=>decide (mf x.2%2=0)).map (λx=>pr x.1)=l.map pr:=by show _=((o.1.zipIdx.filter λx=>decide (mf x.2%2=0)).map (·.1)).map pr;rw[dz];rfl
 rw[e]at hc;exact⟨⟨l,YV hs⟩,yu (w:=(true,l.map pr)) (Ev.of hc) rfl (Dg _ _) (cP _)⟩
theorem Y1 (xs:List Int){ga:List Str}(hg:GA ga)(b:Bool):∃rs:List Ru,rs.length<=6/\(∀r∈rs,∀s∈rs,agR r s=false)/\IE [.list (xs.map .int),.list (fo2.map .str),.list (ga.map .str),.bool b]=.ok (.fr,.list (rs.map ruD)):=by
 suffices h:∃rs:List Ru,rs.length<=6/\(∀r∈rs,∀s∈rs,agR r s=false)/\aT [] Φb DC [some (.od,.list (xs.map .int)),some (.od,.list (fo2.map .str)),some (.od,.list (ga.map .str)),some (.od,.bool b),none,none,none,none,none,none,none]=.ok (.rt .fr (.list (rs.map ruD))) by obtain⟨rs,h1,h2,h3⟩:=h;exact⟨rs,h1,h2,dQ h3⟩
 let Q:Res Out->Prop:=λz=>∃rs:List Ru,rs.length<=6/\(∀r∈rs,∀s∈rs,agR r s=false)/\z=.ok (.rt .fr (.list (rs.map ruD)))
 show Q _;unfold DC;obtain⟨v1,e1⟩:=yL xs (k:=1) (by decide);have n0:0<=v1%6:=fm _ (by decide);have n6:v1%6<6:=gv _ (by decide);refine kA (tU (gX dF) rfl) ?_;refine zhs (m:=λ(i:Nat)=>PyData.int i) (xs:=cn (v1%6).toNat) (HU (aF (cJ (d:=.int (v1%6)) (eG (aF (aD rfl) (aF aN.e aW)) rfl e1) aN.e (lX (by decide)) rfl).e aW) (yt n0 (by omega))) (λpre ρ=>∃rs:List Ru,rs.length<=pre.length/\(∀r∈rs,∀s∈rs,agR r s=false)/\∃u5 u6 u7 u8 u9 uF,ρ=[some (.od,.list (xs.map .int)),some (.od,.list (fo2.map .str)),some (.od,.list (ga.map .str)),some (.od,.bool b),some (.fr,.list (rs.map ruD)),u5,u6,u7,u8,u9,uF]) ⟨[],ag _,(λ_ h=>by cases h),_,_,_,_,_,_,rfl⟩ ?_ ?_
 ·rintro pre k post ρ hx ⟨rs,hl,hr,u5,u6,u7,u8,u9,uF,rfl⟩
  have hk:pre.length<6:=by have:=congrArg uf hx;rw[d9,au,bv]at this;omega
  obtain⟨c,ec⟩:=yL xs (k:=10+k) (by omega);obtain⟨q,wq,vq⟩:=zbw hg (Φ:=Φb) (ρ:=[some (.od,.list (xs.map .int)),some (.od,.list (fo2.map .str)),some (.od,.list (ga.map .str)),some (.od,.bool b),some (.fr,.list (rs.map ruD)),some (.al,.int k),some (.al,.int c),u7,u8,u9,uF]) (tf:=.var 1) (ta:=.var 2) (tc:=.var 6) (ts:=.var 3) (i:=3) (j:=2) (c:=c) (b:=b) rfl rfl (aD rfl) (aD rfl) (aD rfl) (aD rfl);obtain⟨s,vs⟩:=YY (ρ:=[some (.od,.list (xs.map .int)),some (.od,.list (fo2.map .str)),some (.od,.list (ga.map .str)),some (.od,.bool b),some (.fr,.list (rs.map ruD)),some (.al,.int k),some (.al,.int c),some (.al,cD q),u8,u9,uF]) (i:=6) (c:=c) (aD rfl);obtain⟨r,vr⟩:=zo9 (ρ:=[some (.od,.list (xs.map .int)),some (.od,.list (fo2.map .str)),some (.od,.list (ga.map .str)),some (.od,.bool b),some (.fr,.list (rs.map ruD)),some (.al,.int k),some (.al,.int c),some (.al,cD q),some (.al,.int (if s then 0 else 1)),u9,uF]) (c:=c) (q:=q) (b:=s) rfl (aD rfl) (aD rfl)
  let one:Ru:=(s,q.1,q.2,r)
  have v10:Vv [] Φb (.tup (.cons (.var 7) (.cons (.ix (.lst (.cons (.str "for") (.cons (.str "against") .nil))) (.var 8)) (.cons (.var 9) .nil)))) [some (.od,.list (xs.map .int)),some (.od,.list (fo2.map .str)),some (.od,.list (ga.map .str)),some (.od,.bool b),some (.fr,.list (rs.map ruD)),some (.al,.int k),some (.al,.int c),some (.al,cD q),some (.al,.int (if s then 0 else 1)),some (.al,pk r.1),uF] (ruD one):=lY (bJ (v_var rfl (nB q)) (bJ (aJ (Ev.of (gX (bJ dR (bJ dR dF)))) (aD rfl) (YZ s) rfl) (bJ (v_var rfl (cP _)) dF)));have ht:Tt [] Φb (.tv (.cmp .NotIn (.bl true) (.comp 1 [10] ["_law_other","_law_one"] (.nm 0) (.tv (.var 4)) .nil (.call 1 "_law_against" (.cons (.var 1) (.cons (.var 0) .nil)))))) [some (.od,.list (xs.map .int)),some (.od,.list (fo2.map .str)),some (.od,.list (ga.map .str)),some (.od,.bool b),some (.fr,.list (rs.map ruD)),some (.al,.int k),some (.al,.int c),some (.al,cD q),some (.al,.int (if s then 0 else 1)),some (.al,pk r.1),some (.al,ruD one)] (!(rs.map (agR one)).any id):=by have hc:=z1e (Κ:=[]) (Φ:=Φb) (ρ:=[some (.od,.list (xs.map .int)),some (.od,.list (fo2.map .str)),some (.od,.list (ga.map .str)),some (.od,.bool b),some (.fr,.list (rs.map ruD)),some (.al,.int k),some (.al,.int c),some (.al,cD q),some (.al,.int (if s then 0 else 1)),some (.al,pk r.1),some (.al,ruD one)]) (nt:=1) (js:=[10]) (N':=["_law_other","_law_one"]) (tg:=.nm 0) (it:=.tv (.var 4)) (cond:=.nil) (elt:=.call 1 "_law_against" (.cons (.var 1) (.cons (.var 0) .nil))) (m:=ruD) (xs:=rs) (λ_=>true) (λx=>.bool (agR one x)) (cI (g:=.al) (x:=.list (rs.map ruD)) (by rw[iF];rfl) rfl) rfl (λx=>[some (.al,ruD x),some (.al,ruD one)]) (λx _=>oY (gZ x)) (λ_ _=>rS) λx _ _=>eX (aF (aD rfl) (aF (aD rfl) aW)) rfl (YQ one x) rfl;rw[dr.mpr λ_ _=>rfl,show(rs.map λx=>PyData.bool (agR one x))=(rs.map (agR one)).map .bool by rw[dz];rfl]at hc;exact aR (cY rR.e (Ev.of hc) (YX _)).e rfl
  have st:=λ{p:S} {z:Res Out} (h:aT [] Φb p _=z)=>bU (j' (i:=6) (t:=.call 0 "_law_cell_at" (.cons (.var 0) (.cons (.bin .Add (.int 10) (.var 5)) .nil))) (d:=.int c) (ρ:=[some (.od,.list (xs.map .int)),some (.od,.list (fo2.map .str)),some (.od,.list (ga.map .str)),some (.od,.bool b),some (.fr,.list (rs.map ruD)),some (.al,.int k),u6,u7,u8,u9,uF]) (eX (aF (aD rfl) (aF (cJ aN.e (aD rfl) rfl rfl).e aW)) rfl ec rfl)) (bU (j' (i:=7) vq) (bU (j' (i:=8) vs) (bU (j' (i:=9) vr) (bU (j' (i:=10) v10) h))));cases ha:(rs.map (agR one)).any id with
  |true=>exact⟨_,_,oY rfl,st (bU (iG ht (λz=>by rw[ha]at z;cases z) λ_=>eY) eY),rs,by rw[au];omega,hr,_,_,_,_,_,_,rfl⟩
  |false=>
   refine⟨_,_,oY rfl,st (bU (iG ht (λ_=>bU (Dm (x:=ruD one) (v_var rfl (gZ one)) rfl (by rw[ac];omega)) eY) λz=>by rw[ha]at z;cases z) eY),rs++[one],by rw[au,au];exact qa hl 1,?_,some (.al,.int k),some (.al,.int c),some (.al,cD q),some (.al,.int (if s then 0 else 1)),some (.al,pk r.1),some (.al,ruD one),?_⟩
   ·have no:∀x∈rs,agR one x=false:=fun x hx=>by
     cases h:agR one x with
     |false=>rfl
     |true=>rw[List.any_eq_true.mpr ⟨true,bf.mpr ⟨x,hx,h⟩,rfl⟩]at ha;cases ha
    have self:agR one one=false:=by unfold agR;rw[beq_self_eq_true];rfl
    intro x hx y hy;rcases bo.mp hx with hx|hx<;>rcases bo.mp hy with hy|hy
    ·exact hr x hx y hy
    ·rw[am.mp hy,YS];exact no x hx
    ·rw[am.mp hx];exact no y hy
    ·rw[am.mp hx,am.mp hy];exact self
   ·show List.map cZ _=_;rw[bp];show[some (G.od,_),some (G.od,_),some (G.od,_),some (G.od,_),some (G.fr,_),cZ (some (.al,.int k)),cZ (some (.al,.int c)),cZ (some (.al,cD q)),cZ (some (.al,.int (if s then 0 else 1))),cZ (some (.al,pk r.1)),cZ (some (.al,ruD one))]=_;rw[mJ (nB q),mJ (cP _),mJ (gZ one),mJ rfl,mJ rfl,mJ rfl];rfl
 ·rintro ρ ⟨rs,hl,hr,u5,u6,u7,u8,u9,uF,rfl⟩
  rw[d9]at hl;exact⟨rs,by omega,hr,bQ (z90 rfl)⟩
def aI (n code:Nat):List Bool:=(cn n).map λk=>decide (code/2 ^ (n-1-k)%2=0)
theorem OM (n code:Nat):(aI n code).length=n:=by unfold aI;rw[ac,d9]
theorem ON (n c:Nat)(b:Nat)(hb:b<2):aI (n+1) (2*c+b)=aI n c++[decide (b=0)]:=by
 unfold aI;rw[j6,bp]
 congr 1
 ·refine ju λk hk=>?_;have hk:=gp.mp hk;have e:n+1-1-k=(n-1-k)+1:=by omega
  rw[e,o8,tw (2 ^ (n-1-k)) 2,<-Nat.div_div_eq_div_mul,show(2*c+b)/2=c by omega]
 ·show[decide ((2*c+b)/2 ^ (n+1-1-n)%2=0)]=_;rw[show n+1-1-n=0 by omega,Nat.pow_zero,Nat.div_one,show(2*c+b)%2=b by omega]
theorem OO:∀m:Nat,cn (2*m)=(cn m).flatMap λc=>[2*c,2*c+1]
 |0=>rfl
 |m+1=>by rw[show 2*(m+1)=2*m+1+1 by omega,j6,j6,OO m,j6,jy,d8];rfl
theorem OP:∀n:Nat,bits n=(cn (2 ^ n)).map (aI n)
 |0=>rfl
 |n+1=>by
  show(bits n).flatMap _=_;rw[OP n,o8,tw,OO,List.map_flatMap,List.flatMap_map]
  congr 1
  funext c
  show[aI n c++[true],aI n c++[false]]=[aI (n+1) (2*c),aI (n+1) (2*c+1)];have h0:aI (n+1) (2*c)=aI n c++[decide ((0:Nat)=0)]:=ON n c 0 (by decide);have h1:=ON n c 1 (by decide);rw[h0,h1];rfl
theorem oZ {β:Type}(m:β->D){xs:List β}{k:Nat}(h:k<xs.length):jB (.list (xs.map m)) (.int k)=.ok (m xs[k]):=by rw[IP m xs[k] (by omega) (by omega)];rw[fi,bd,aw h];rfl
theorem pS {α β:Type}{a:List α}{b:List β}(hl:b.length=a.length){p:α×β}:p∈a.zip b↔∃(k:Nat) (h:k<a.length),p=(a[k],b[k]'(hl▸h)):=by
 constructor
 ·intro h;obtain⟨k,hk,e⟩:=List.mem_iff_getElem.mp h;rw[jp]at e;have:k<a.length:=by rw[l9]at hk;omega
  exact⟨k,this,e.symm⟩
 ·rintro⟨k,h,rfl⟩
  have hz:k<(a.zip b).length:=by rw[l9];omega
  have:=dh hz
  rwa [jp]at this
abbrev mK:List Fn:=[tZ,yI]
theorem Y2 (a b:Bool):cmpD .NotEq (.bool a) (.bool b)=.ok (!(a==b)):=by cases a<;>cases b<;>rfl
theorem OQ (s:Bool):decide (sd s=("for":Str))=s:=by cases s<;>rfl
def uG (rs:List Ru)(c:Cs)(b:Bool):Bool:=match bnd biR sdR rs c with|none=>true|some s=>b==s
def uH (c c':Cs)(b b':Bool):Bool:=!(stC c c'&&(b&& !b'))
theorem Y3 {rs:List Ru}{cs:List Cs}{d:List Bool}(hl:d.length=cs.length):okR biR sdR stC rs cs d↔∀k (h:k<cs.length),uG rs cs[k] (d[k]'(hl▸h))=true/\∀j (h':j<cs.length),uH cs[k] cs[j] (d[k]'(hl▸h)) (d[j]'(hl▸h'))=true:=by
 constructor
 ·rintro⟨h1,h2⟩ k hk
  refine⟨?_,λj hj=>?_⟩
  ·unfold uG;have:=h1 _ ((pS hl).mpr ⟨k,hk,rfl⟩);cases e:bnd biR sdR rs cs[k]with
   |none=>rfl
   |some s=>exact beq_iff_eq.mpr (this s e)
  ·have :=h2 _ ((pS hl).mpr ⟨k,hk,rfl⟩) _ ((pS hl).mpr ⟨j,hj,rfl⟩);unfold uH;cases e:stC cs[k] cs[j]with
   |false=>rfl
   |true=>
    cases e2:d[k]'(hl▸hk)with
    |false=>rfl
    |true=>have:d[j]'(hl▸hj)=true:=this e e2;rw[this];rfl
 ·intro h;refine⟨λp hp s e=>?_,λp hp q hq e1 e2=>?_⟩
  ·obtain⟨k,hk,rfl⟩:=(pS hl).mp hp;have:=(h k hk).1;unfold uG at this;rw[e]at this;exact vp this
  ·obtain⟨k,hk,rfl⟩:=(pS hl).mp hp;obtain⟨j,hj,rfl⟩:=(pS hl).mp hq;have:=(h k hk).2 j hj;unfold uH at this;have e1:stC cs[k] cs[j]=true:=e1;have e2:d[k]'(hl▸hk)=true:=e2;show d[j]'(hl▸hj)=true;rw[e1,e2]at this;cases z:d[j]'(hl▸hj)with
   |true=>rfl
   |false=>rw[z]at this;cases this
theorem zml {rs:List Ru}{cs:List Cs}(hl:cs.length<=6){code:Nat}(hc:code<=64):
  (okR biR sdR stC rs cs (aI cs.length code)/\DD [.list (cs.map cD),.list (cs.map λc=>sdD (bnd biR sdR rs c)),.int code]=.ok (.fr,.list ((aI cs.length code).map .bool)))\/(¬okR biR sdR stC rs cs (aI cs.length code)/\DD [.list (cs.map cD),.list (cs.map λc=>sdD (bnd biR sdR rs c)),.int code]=.ok (.fr,.none)):=by
 generalize hd:aI cs.length code=d;have dl:d.length=cs.length:=by rw[<-hd,OM]
 have Jc:=Y3 (rs:=rs) dl
 suffices h:(okR biR sdR stC rs cs d/\aT [] mK Bt [some (.od,.list (cs.map cD)),some (.od,.list (cs.map λc=>sdD (bnd biR sdR rs c))),some (.od,.int code),none,none,none,none]=.ok (.rt .fr (.list (d.map .bool))))\/(¬okR biR sdR stC rs cs d/\aT [] mK Bt [some (.od,.list (cs.map cD)),some (.od,.list (cs.map λc=>sdD (bnd biR sdR rs c))),some (.od,.int code),none,none,none,none]=.ok (.rt .fr .none)) by
  rcases h with⟨h1,h2⟩|⟨h1,h2⟩
  ·exact .inl ⟨h1,dQ h2⟩
  ·exact .inr ⟨h1,dQ h2⟩
 let Q:Res Out->Prop:=λz=>(okR biR sdR stC rs cs d/\z=.ok (.rt .fr (.list (d.map .bool))))\/(¬okR biR sdR stC rs cs d/\z=.ok (.rt .fr .none))
 show Q _;unfold Bt;have hlen:∀{Φ:List Fn} {ρ:Rho} {i:Nat} {g:G},ρ[i]?=some (some (g,.list (cs.map cD)))->Vv [] Φ (.bi "len" (.cons (.var i) .nil)) ρ (.int cs.length):=λh=>gY (aF (aD h) aW) (by show Res.ok (PyData.int ((cs.map cD).length:Nat))=_;rw[ac]) rfl;have Bz:∀{ρ:Rho},ρ[0]?=some (some (.od,.list (cs.map cD)))->evF [] mK (.fM (.cons (.bi "len" (.cons (.var 0) .nil)) .nil)) ρ=.ok (.fr,(cn cs.length).map λ(i:Nat)=>.int i,ρ):=λh=>by have:=yt (n:=(cs.length:Int)) (by omega) (by omega);rw[fi]at this;exact HU (aF (hlen h).e aW) this
 have uI:=z1e (Κ:=[]) (Φ:=mK) (ρ:=[some (.od,.list (cs.map cD)),some (.od,.list (cs.map λc=>sdD (bnd biR sdR rs c))),some (.od,.int code),none,none,none,none]) (nt:=1) (js:=[2,0]) (N':=["_law_k","_law_code","_law_cases"]) (tg:=.nm 0) (it:=.fM (.cons (.bi "len" (.cons (.var 0) .nil)) .nil)) (cond:=.nil) (elt:=.cmp .Eq (.bin .Mod (.bin .FloorDiv (.var 1) (.call 1 "_law_two" (.cons (.bin .Sub (.bin .Sub (.bi "len" (.cons (.var 2) .nil)) (.int 1)) (.var 0)) .nil))) (.int 2)) (.int 0)) (m:=λ(i:Nat)=>PyData.int i) (xs:=cn cs.length) (λ_=>true) (λk=>.bool (decide (code/2 ^ (cs.length-1-k)%2=0))) (Dl (aF (hlen rfl).e aW) (by have :=yt (n:=(cs.length:Int)) (by omega) (by omega);rw[fi]at this;exact this)) rfl (λk=>[some (.al,.int k),some (.od,.int code),some (.od,.list (cs.map cD))]) (λk _=>rfl) (λ_ _=>rS) λk hk _=>by
  have hk:=gp.mp hk;have e2:=OK (n:=cs.length-1-k) (by omega);have v1:Vv [] mK (.bin .Sub (.bin .Sub (.bi "len" (.cons (.var 2) .nil)) (.int 1)) (.var 0)) [some (.al,.int k),some (.od,.int code),some (.od,.list (cs.map cD))] (.int ((cs.length-1-k:Nat):Int)):=by have:Vv [] mK (.bin .Sub (.bin .Sub (.bi "len" (.cons (.var 2) .nil)) (.int 1)) (.var 0)) [some (.al,.int k),some (.od,.int code),some (.od,.list (cs.map cD))] (.int ((cs.length:Int)-1-k)):=cJ (cJ (hlen rfl).e aN.e rfl rfl).e (aD rfl) rfl rfl;rw[show(cs.length:Int)-1-k=((cs.length-1-k:Nat):Int) by omega]at this;exact this
  have p0:0<2 ^ (cs.length-1-k):=Nat.pow_pos (by decide);have p1:2 ^ (cs.length-1-k)<=2 ^ 6:=l5 (by decide) (by omega);have v2:Vv [] mK (.bin .Mod (.bin .FloorDiv (.var 1) (.call 1 "_law_two" (.cons (.bin .Sub (.bin .Sub (.bi "len" (.cons (.var 2) .nil)) (.int 1)) (.var 0)) .nil))) (.int 2)) [some (.al,.int k),some (.od,.int code),some (.od,.list (cs.map cD))] (.int ((code/2 ^ (cs.length-1-k)%2:Nat):Int)):=cJ (cJ (d:=.int ((code:Int)/((2 ^ (cs.length-1-k):Nat):Int))) (aD rfl) (eG (aF v1.e aW) rfl e2) (IM (by omega) (by have:((2 ^ (cs.length-1-k):Nat):Int)<=((2 ^ 6:Nat):Int):=Int.ofNat_le.mpr p1;exact Int.lt_of_le_of_lt this (by decide))) rfl).e aN.e (lX (by decide)) rfl;refine cY v2.e aN.e ?_;show Res.ok _=_;rw[NL]
  congr 1
  exact decide_eq_decide.mpr (by omega)
 rw[dr.mpr λ_ _=>rfl,show((cn cs.length).map λk=>PyData.bool (decide (code/2 ^ (cs.length-1-k)%2=0)))=d.map .bool by rw[<-hd];unfold aI;rw[dz];rfl]at uI;refine kA (tU uI (qK.mpr λx hx=>by obtain⟨b,_,rfl⟩:=bf.mp hx;rfl)) ?_;have dk:∀{Φ:List Fn} {ρ:Rho} {k:Nat} {i:Nat} (h:k<cs.length),ρ[3]?=some (some (.fr,.list (d.map .bool)))->ρ[i]?=some (some (.al,.int k))->Vv [] Φ (.ix (.var 3) (.var i)) ρ (.bool (d[k]'(dl▸h))):=λh h3 hi=>aJ (aD h3) (aD hi) (oZ .bool (dl▸h)) rfl;have sk:∀{Φ:List Fn} {ρ:Rho} {k:Nat} (h:k<cs.length),ρ[1]?=some (some (.od,.list (cs.map λc=>sdD (bnd biR sdR rs c))))->ρ[4]?=some (some (.al,.int k))->Vv [] Φ (.ix (.var 1) (.var 4)) ρ (sdD (bnd biR sdR rs cs[k])):=λh h3 hi=>aJ (aD h3) (aD hi) (oZ (λc=>sdD (bnd biR sdR rs c)) h) (Jb _);have ck:∀{Φ:List Fn} {ρ:Rho} {k:Nat} {i:Nat} (h:k<cs.length),ρ[0]?=some (some (.od,.list (cs.map cD)))->ρ[i]?=some (some (.al,.int k))->Vv [] Φ (.ix (.var 0) (.var i)) ρ (cD cs[k]):=λh h3 hi=>aJ (aD h3) (aD hi) (oZ cD h) (nB _);refine ze6 (m:=λ(i:Nat)=>PyData.int i) (xs:=cn cs.length) (Bz rfl) (λpre ρ=>(∀k∈pre,∀h:k<cs.length,uG rs cs[k] (d[k]'(dl▸h))=true/\∀j (h':j<cs.length),uH cs[k] cs[j] (d[k]'(dl▸h)) (d[j]'(dl▸h'))=true)/\∃u4 u5 u6,ρ=[some (.od,.list (cs.map cD)),some (.od,.list (cs.map λc=>sdD (bnd biR sdR rs c))),some (.od,.int code),some (.fr,.list (d.map .bool)),u4,u5,u6]) ⟨(λ_ h=>by cases h),_,_,_,rfl⟩ ?_ ?_
 ·rintro pre k post ρ hx ⟨hn,u4,u5,u6,rfl⟩
  have hk:k<cs.length:=gp.mp (by rw[hx];exact ay _ az);refine⟨_,oY rfl,?_⟩
  have ht:Tt [] mK (.and (.tv (.jA true (.ix (.var 1) (.var 4)))) (.tv (.cmp .NotEq (.ix (.var 3) (.var 4)) (.cmp .Eq (.ix (.var 1) (.var 4)) (.str "for"))))) [some (.od,.list (cs.map cD)),some (.od,.list (cs.map λc=>sdD (bnd biR sdR rs c))),some (.od,.int code),some (.fr,.list (d.map .bool)),some (.al,.int k),u5,u6] (!uG rs cs[k] (d[k]'(dl▸hk))):=by
   have h1:=sk (Φ:=mK) (ρ:=[some (.od,.list (cs.map cD)),some (.od,.list (cs.map λc=>sdD (bnd biR sdR rs c))),some (.od,.int code),some (.fr,.list (d.map .bool)),some (.al,.int k),u5,u6]) hk rfl rfl;unfold uG;cases e:bnd biR sdR rs cs[k]with
   |none=>rw[e]at h1;exact Bd (k:=false) (aR (Bc h1.e).e rfl) (k':=true) λz=>by cases z
   |some s=>rw[e]at h1;show Tt [] mK _ _ (true&& !(d[k]'(dl▸hk)==s));exact Bd (k:=true) (aR (Bc h1.e).e rfl) λ_=>aR (cY (dk (Φ:=mK) hk rfl rfl).e (cY (k:=s) h1.e dR.e (by show Res.ok (cQ (.str (sd s)) (.str "for"))=_;rw[xq,OQ])).e (Y2 (d[k]'(dl▸hk)) s)).e rfl
  cases hg:uG rs cs[k] (d[k]'(dl▸hk))with
  |false=>refine .inr ⟨.fr,.none,bQ (iG ht (λ_=>bQ (dN Dj)) λz=>by rw[hg]at z;cases z),.inr ⟨λz=>?_,rfl⟩⟩;have:=(Jc.mp z k hk).1;rw[hg]at this;cases this
  |true=>
   let Q2:Res Out->Prop:=λz=>Nx (λρ=>(∀k'∈pre++[k],∀h:k'<cs.length,uG rs cs[k'] (d[k']'(dl▸h))=true/\∀j (h':j<cs.length),uH cs[k'] cs[j] (d[k']'(dl▸h)) (d[j]'(dl▸h'))=true)/\∃u4 u5 u6,ρ=[some (.od,.list (cs.map cD)),some (.od,.list (cs.map λc=>sdD (bnd biR sdR rs c))),some (.od,.int code),some (.fr,.list (d.map .bool)),u4,u5,u6]) z\/∃g dd,z=.ok (.rt g dd)/\Q (.ok (.rt g dd))
   show Q2 _;refine kA (iG ht (λz=>by rw[hg]at z;cases z) λ_=>eY) ?_;refine ze6 (m:=λ(i:Nat)=>PyData.int i) (xs:=cn cs.length) (Bz rfl) (λBA ρ=>(∀j∈BA,∀h':j<cs.length,uH cs[k] cs[j] (d[k]'(dl▸hk)) (d[j]'(dl▸h'))=true)/\∃u5 u6,ρ=[some (.od,.list (cs.map cD)),some (.od,.list (cs.map λc=>sdD (bnd biR sdR rs c))),some (.od,.int code),some (.fr,.list (d.map .bool)),some (.al,.int k),u5,u6]) ⟨(λ_ h=>by cases h),_,_,rfl⟩ ?_ ?_
   ·rintro BA j OR ρ GS ⟨hn',u5,u6,rfl⟩
    have hj:j<cs.length:=gp.mp (by rw[GS];exact ay _ az);refine⟨_,oY rfl,?_⟩;have e1:aT [] mK (.asg (.nm 6) (.and (.call 0 "_law_within" (.cons (.ix (.ix (.var 0) (.var 4)) (.int 0)) (.cons (.ix (.ix (.var 0) (.var 5)) (.int 0)) .nil))) (.call 0 "_law_within" (.cons (.ix (.ix (.var 0) (.var 5)) (.int 1)) (.cons (.ix (.ix (.var 0) (.var 4)) (.int 1)) .nil))))) [some (.od,.list (cs.map cD)),some (.od,.list (cs.map λc=>sdD (bnd biR sdR rs c))),some (.od,.int code),some (.fr,.list (d.map .bool)),some (.al,.int k),some (.al,.int j),u6]=.ok (.nx [some (.od,.list (cs.map cD)),some (.od,.list (cs.map λc=>sdD (bnd biR sdR rs c))),some (.od,.int code),some (.fr,.list (d.map .bool)),some (.al,.int k),some (.al,.int j),some (.al,.bool (stC cs[k] cs[j]))]):=j' (v_and (eX (aF (aJ (d:=pk cs[k].1.1) (ck hk rfl rfl).e aN.e rfl (cP _)).e (aF (aJ (d:=pk cs[j].1.1) (ck hj rfl rfl).e aN.e rfl (cP _)).e aW)) rfl (yM cs[k].1.2.1 cs[j].1.2.1) rfl).e λ_=>eX (aF (aJ (d:=pk cs[j].2.1) (ck hj rfl rfl).e aN.e rfl (cP _)).e (aF (aJ (d:=pk cs[k].2.1) (ck hk rfl rfl).e aN.e rfl (cP _)).e aW)) rfl (yM cs[j].2.2.1 cs[k].2.2.1) rfl);have OS:Tt [] mK (.and (.tv (.var 6)) (.and (.tv (.ix (.var 3) (.var 4))) (.not (.tv (.ix (.var 3) (.var 5)))))) [some (.od,.list (cs.map cD)),some (.od,.list (cs.map λc=>sdD (bnd biR sdR rs c))),some (.od,.int code),some (.fr,.list (d.map .bool)),some (.al,.int k),some (.al,.int j),some (.al,.bool (stC cs[k] cs[j]))] (stC cs[k] cs[j]&&(d[k]'(dl▸hk)&& !d[j]'(dl▸hj))):=Bd (aR (aD rfl) rfl) λ_=>Bd (aR (dk hk rfl rfl).e rfl) λ_=>z9 (aR (dk hj rfl rfl).e rfl);cases hg2:(stC cs[k] cs[j]&&(d[k]'(dl▸hk)&& !d[j]'(dl▸hj)))with
    |true=>refine .inr ⟨.fr,.none,bU e1 (bQ (iG OS (λ_=>bQ (dN Dj)) λz=>by rw[hg2]at z;cases z)),.inr ⟨.fr,.none,rfl,.inr ⟨λz=>?_,rfl⟩⟩⟩;have:=(Jc.mp z k hk).2 j hj;unfold uH at this;rw[hg2]at this;cases this
    |false=>
     refine .inl ⟨_,bU e1 (bU (iG OS (λz=>by rw[hg2]at z;cases z) λ_=>eY) eY),λy hy h'=>?_,_,_,rfl⟩;rcases bo.mp hy with z|z
     ·exact hn' y z h'
     ·cases am.mp z;unfold uH;rw[hg2];rfl
   ·rintro ρ ⟨hn',u5,u6,rfl⟩
    refine .inl ⟨_,eY,λy hy h=>?_,_,_,_,rfl⟩;rcases bo.mp hy with z|z
    ·exact hn y z h
    ·cases am.mp z;exact⟨hg,λj h'=>hn' j (gp.mpr h') h'⟩
 ·rintro ρ ⟨hn,u4,u5,u6,rfl⟩
  exact .inl ⟨Jc.mpr λk hk=>hn k (gp.mpr hk) hk,bQ (z90 rfl)⟩
abbrev Ce:=Nat×Cs
abbrev Re:=Nat×Ru
def biE (r:Re)(c:Ce):Bool:=biR r.2 c.2
def sdE (r:Re):Bool:=r.2.1
def z0n (c:Ce)(b:Bool):Re:=(c.1,mZ c.2 b)
def DO (c c':Ce):Bool:=stC c.2 c'.2
theorem Y4:Bk biE sdE z0n DO where
 sf:=λc b=>yK.sf c.2 b
 t1:=λc c'=>yK.t1 c.2 c'.2
 t2:=λc c'=>yK.t2 c.2 c'.2
 rf:=λc=>yK.rf c.2
 up:=λr c c'=>yK.up r.2 c.2 c'.2
 dn:=λr c c'=>yK.dn r.2 c.2 c'.2
def bk0 (rs:List Ru):List Re:=rs.map λr=>(0,r)
def eI (cs:List Cs):List Ce:=cs.zipIdx.map λx=>(x.2,x.1)
theorem DP (rs:List Ru):(bk0 rs).map (·.2)=rs:=by unfold bk0;rw[dz];exact List.map_id' rs
theorem uJ (cs:List Cs):(eI cs).length=cs.length:=by unfold eI;rw[ac,f8]
theorem DQ {cs:List Cs}{k:Nat}(h:k<(eI cs).length):(eI cs)[k]=(k,cs[k]'(by rw[uJ]at h;exact h)):=by have h':k<(cs.zipIdx.map λx=>(x.2,x.1)).length:=h;show(cs.zipIdx.map λx=>(x.2,x.1))[k]=_;rw[List.getElem_map,mh];show(0+k,_)=_;rw[oz]
theorem BB:∀(l:List Re) (c:Ce),bnd biE sdE l c=bnd biR sdR (l.map (·.2)) c.2
 | [],_=>rfl
 |r::l,c=>by show(if biR r.2 c.2=true then _ else _)=(if biR r.2 c.2=true then _ else _);rw[BB l c];rfl
theorem Y5 {rs:List Ru}{cs:List Cs}{d:List Bool}(dl:d.length=cs.length):okR biE sdE DO (bk0 rs) (eI cs) d↔okR biR sdR stC rs cs d:=by
 have Jd:d.length=(eI cs).length:=by rw[uJ];exact dl
 have h1:∀p∈(eI cs).zip d,(p.1.2,p.2)∈cs.zip d:=λp hp=>by obtain⟨k,hk,rfl⟩:=(pS Jd).mp hp;rw[DQ];exact(pS dl).mpr ⟨k,by rw[uJ]at hk;exact hk,rfl⟩
 have h2:∀p∈cs.zip d,∃k,((k,p.1),p.2)∈(eI cs).zip d:=λp hp=>by
  obtain⟨k,hk,rfl⟩:=(pS dl).mp hp;have jO:k<(eI cs).length:=by rw[uJ];exact hk
  refine⟨k,(pS Jd).mpr ⟨k,jO,?_⟩⟩;rw[DQ]
 constructor
 ·rintro⟨a,b⟩
  refine⟨λp hp s e=>?_,λp hp q hq=>?_⟩
  ·obtain⟨k,hk⟩:=h2 p hp;exact a _ hk s (by rw[BB,DP];exact e)
  ·obtain⟨k,hk⟩:=h2 p hp;obtain⟨j,hj⟩:=h2 q hq;exact b _ hk _ hj
 ·rintro⟨a,b⟩
  refine⟨λp hp s e=>?_,λp hp q hq=>?_⟩
  ·rw[BB,DP]at e;exact a _ (h1 p hp) s e
  ·exact b _ (h1 p hp) _ (h1 q hq)
def entD (e:Re):D:=.tuple [.str "cruel",.int e.1,ruD e.2]
def jF (b:Bool):List Str:=if b then["cruel"]else[]
def mV (b:Bool):D:=.list ((jF b).map .str)
def hJ (x:List Re×List Bool):D:=.tuple [.list (x.1.map entD),.list (x.2.map mV)]
theorem OT (e:Re):aU (entD e)=true:=by show imms [.str "cruel",.int e.1,ruD e.2]=true;rw[imms,imms,imms,imms,gZ];rfl
def pA (d:List Bool)(x:Cs×Nat):Ce×Bool:=((x.2,x.1),d.getD x.2 false)
theorem Y6 {cs:List Cs}{d:List Bool}(dl:d.length=cs.length):cs.zipIdx.map (pA d)=(eI cs).zip d:=by
 have Jd:d.length=(eI cs).length:=by rw[uJ];exact dl
 refine List.ext_getElem (by rw[ac,f8,l9,uJ];omega) λk h1 h2=>?_;rw[List.getElem_map,jp,mh,DQ];rw[ac,f8]at h1;show((0+k,_),d.getD (0+k) false)=_;rw[oz,bd,aw (by omega)];rfl
section
variable {Κ:List D}{Φ:List Fn}{ρ:Rho}
theorem zjx {β:Type}{nt:Nat}{js:List Nat}{N':List Str}{tg:Tg}{it elt:C}{w:G×List D}{m:β->D}{xs:List β}(f:β->D)(hw:evW Κ Φ it ρ=.ok w)(hx:w.2=xs.map m)(r:β->Rho)
  (hb:∀x∈xs,eE tg (gJ (m x) w.1,m x) (ba nt none++js.map λj=>toAl (ρ.getD j none))=.ok (r x)) (he:∀x∈xs,aG Κ Φ elt (r x)=.ok (.fr,f x)):
  aG Κ Φ (.comp nt js N' tg it .nil elt) ρ=.ok (.fr,.list (xs.map f)):=by
 rw[NP];rw[hw,Res.aC,hx];rw[HI (λx=>some (f x)) xs λx hx=>by rw[hb x hx,Res.aC];have:=rS (Κ:=Κ) (Φ:=Φ) (ρ:=r x);unfold Tt at this;rw[this,Res.aC,vg rfl,he x hx];rfl];rw[Res.aC,NG,Df]
 have:(xs.filterMap λx=>some (f x))=xs.map f:=by
  clear hx hb he hw
  induction xs with
  |nil=>rfl
  |cons x xs ih=>rw[bh,<-ih];rfl
 rw[this]
end
theorem Y7 (b:Bool):jB (.list [.str "against",.str "for"]) (.int (if b then 1 else 0))=.ok (.str (sd b)):=by cases b<;>rfl
theorem OU (b:Bool):lI "int" [.bool b]=.ok (.int (if b then 1 else 0)):=by cases b<;>rfl
theorem Y8 {rs:List Ru}{cs:List Cs}{d:List Bool}(hl:cs.length<=6)(dl:d.length=cs.length)(hr:rs.length<=6):∃g,IH [.list (cs.map cD),.list (d.map .bool),.list (rs.map ruD)]=.ok (g,hJ (aZ biE sdE z0n (bk0 rs) (eI cs) d,d)):=by
 suffices h:∃g,aT [] [kP] DE [some (.od,.list (cs.map cD)),some (.od,.list (d.map .bool)),some (.od,.list (rs.map ruD)),none,none,none,none,none,none]=.ok (.rt g (hJ (aZ biE sdE z0n (bk0 rs) (eI cs) d,d))) by obtain⟨g,h⟩:=h;exact⟨g,dQ h⟩
 let Q:Res Out->Prop:=λz=>∃g,z=.ok (.rt g (hJ (aZ biE sdE z0n (bk0 rs) (eI cs) d,d)))
 show Q _;unfold DE;refine kA (tU (yw (aD rfl) rfl (Dh _ _) (sM gZ rs)) (sM gZ rs)) ?_;refine kA (tU (gX dF) rfl) ?_;have Y9:evF [] [kP] (.enum (.var 0)) [some (.od,.list (cs.map cD)),some (.od,.list (d.map .bool)),some (.od,.list (rs.map ruD)),some (.fr,.list (rs.map ruD)),some (.fr,.list []),none,none,none,none]=.ok (.al,cs.zipIdx.map λx=>.tuple [.int x.2,cD x.1],[some (.od,.list (cs.map cD)),some (.od,.list (d.map .bool)),some (.od,.list (rs.map ruD)),some (.fr,.list (rs.map ruD)),some (.fr,.list []),none,none,none,none]):=by rw[HV (x:=(.od,.list (cs.map cD))) (by rw[iF];rfl) rfl (HW (sM nB cs) (by rw[ac];omega)),yx]
 refine zhs (m:=λx:Cs×Nat=>.tuple [.int x.2,cD x.1]) (xs:=cs.zipIdx) Y9 (λpre ρ=>((pre.map (pA d)).foldl (eZ biE sdE z0n (bk0 rs)) []).length<=pre.length/\∃u5 u6 u7 u8,ρ=[some (.od,.list (cs.map cD)),some (.od,.list (d.map .bool)),some (.od,.list (rs.map ruD)),some (.fr,.list ((rs++((pre.map (pA d)).foldl (eZ biE sdE z0n (bk0 rs)) []).map (·.2)).map ruD)),some (.fr,.list (((pre.map (pA d)).foldl (eZ biE sdE z0n (bk0 rs)) []).map entD)),u5,u6,u7,u8]) ⟨ag _,none,none,none,none,by show _=[_,_,_,some (G.fr,PyData.list ((rs++[]).map ruD)),_,_,_,_,_];rw[cr];rfl⟩ ?_ ?_
 ·rintro pre x post ρ hx ⟨Je,u5,u6,u7,u8,rfl⟩
  have Y':x∈cs.zipIdx:=by rw[hx];exact ay _ az
  have hk:x.2<cs.length:=(aq.mp (IQ Y')).1;have qB:pre.length<6:=by have:=congrArg uf hx;rw[f8,au,bv]at this;omega
  have fo:((pre++[x]).map (pA d)).foldl (eZ biE sdE z0n (bk0 rs)) []=eZ biE sdE z0n (bk0 rs) ((pre.map (pA d)).foldl (eZ biE sdE z0n (bk0 rs)) []) (pA d x):=by rw[bp,la];rfl
  generalize ho:(pre.map (pA d)).foldl (eZ biE sdE z0n (bk0 rs)) []=o at Je fo ⊢;rw[fo];have hb:bnd biE sdE (bk0 rs++o) (x.2,x.1)=bnd biR sdR (rs++o.map (·.2)) x.1:=by rw[BB,bp,DP]
  have ht:Tt [] [kP] (.tv (.jA false (.call 0 "_law_side" (.cons (.var 3) (.cons (.var 6) .nil))))) [some (.od,.list (cs.map cD)),some (.od,.list (d.map .bool)),some (.od,.list (rs.map ruD)),some (.fr,.list ((rs++o.map (·.2)).map ruD)),some (.fr,.list (o.map entD)),some (.al,.int x.2),some (.al,cD x.1),u7,u8] (bnd biR sdR (rs++o.map (·.2)) x.1).isNone:=by
   have v:=Bc (ng:=false) (eX (n:=0) (f:="_law_side") (Κ:=[]) (Φ:=[kP]) (ρ:=[some (.od,.list (cs.map cD)),some (.od,.list (d.map .bool)),some (.od,.list (rs.map ruD)),some (.fr,.list ((rs++o.map (·.2)).map ruD)),some (.fr,.list (o.map entD)),some (.al,.int x.2),some (.al,cD x.1),u7,u8]) (args:=.cons (.var 3) (.cons (.var 6) .nil)) (aF (aD rfl) (aF (aD rfl) aW)) rfl OJ (Jb _)).e;have e:(if Bb (sdD (bnd biR sdR (rs++o.map (·.2)) x.1))=true then !false else false)=(bnd biR sdR (rs++o.map (·.2)) x.1).isNone:=by cases bnd biR sdR (rs++o.map (·.2)) x.1<;>rfl
   rw[e]at v;exact aR v.e rfl
  cases hn:bnd biR sdR (rs++o.map (·.2)) x.1 with
  |some s=>have ed:eZ biE sdE z0n (bk0 rs) o (pA d x)=o:=vh (by show ¬bnd biE sdE (bk0 rs++o) (x.2,x.1)=none;rw[hb,hn];intro z;cases z);rw[ed];exact⟨_,_,wM rfl (nB x.1),bU (iG ht (λz=>by rw[hn]at z;cases z) λ_=>eY) eY,by rw[au];omega,_,_,_,_,rfl⟩
  |none=>
   let b:Bool:=d.getD x.2 false
   have ed:eZ biE sdE z0n (bk0 rs) o (pA d x)=o++[z0n (x.2,x.1) b]:=vg (by show bnd biE sdE (bk0 rs++o) (x.2,x.1)=none;rw[hb,hn]);rw[ed];have db:jB (.list (d.map .bool)) (.int x.2)=.ok (.bool b):=by rw[oZ .bool (by omega)];show Res.ok (PyData.bool _)=Res.ok (PyData.bool (d.getD x.2 false));rw[bd,aw (by omega)];rfl
   have v7:Vv [] [kP] (.ix (.lst (.cons (.str "against") (.cons (.str "for") .nil))) (.bi "int" (.cons (.ix (.var 1) (.var 5)) .nil))) [some (.od,.list (cs.map cD)),some (.od,.list (d.map .bool)),some (.od,.list (rs.map ruD)),some (.fr,.list ((rs++o.map (·.2)).map ruD)),some (.fr,.list (o.map entD)),some (.al,.int x.2),some (.al,cD x.1),u7,u8] (.str (sd b)):=aJ (Ev.of (gX (bJ dR (bJ dR dF)))) (gY (aF (aJ (aD rfl) (aD rfl) db rfl).e aW) (OU b) rfl).e (Y7 b) rfl
   have v8:Vv [] [kP] (.tup (.cons (.var 6) (.cons (.var 7) (.cons (.ix (.var 6) (.bi "int" (.cons (.cmp .Eq (.var 7) (.str "against")) .nil))) .nil)))) [some (.od,.list (cs.map cD)),some (.od,.list (d.map .bool)),some (.od,.list (rs.map ruD)),some (.fr,.list ((rs++o.map (·.2)).map ruD)),some (.fr,.list (o.map entD)),some (.al,.int x.2),some (.al,cD x.1),some (.al,.str (sd b)),u8] (ruD (mZ x.1 b)):=by
    have e:ruD (mZ x.1 b)=.tuple [cD x.1,.str (sd b),pk (own b x.1.1.1 x.1.2.1)]:=by cases b<;>rfl
    rw[e];exact lY (bJ (v_var rfl (nB _)) (bJ (v_var rfl rfl) (bJ (xu (aD rfl) (Ja (aD rfl)).e) dF)))
   have i5:cZ (some (.al,PyData.int x.2))=some (.al,.int x.2):=mJ rfl;refine⟨_,_,wM rfl (nB x.1),bU (iG ht (λ_=>bU (j' (i:=7) v7) (bU (j' (i:=8) v8) (bU (Dm (x:=entD (z0n (x.2,x.1) b)) (xs:=o.map entD) (lY (bJ dR (bJ (v_var rfl rfl) (bJ (v_var rfl (gZ _)) dF)))) rfl (by rw[ac];omega)) ?_))) λz=>by rw[hn]at z;cases z) eY,by rw[au,au];exact qa Je 1,some (.al,.int x.2),some (.al,cD x.1),some (.al,.str (sd b)),some (.al,ruD (mZ x.1 b)),rfl⟩;show aT [] [kP] _ [some (G.od,_),some (G.od,_),some (G.od,_),some (G.fr,_),some (G.fr,PyData.list (o.map entD++[entD (z0n (x.2,x.1) b)])),cZ (some (.al,.int x.2)),cZ (some (.al,cD x.1)),cZ (some (.al,.str (sd b))),cZ (some (.al,ruD (mZ x.1 b)))]=_;rw[mJ (nB _),mJ (gZ _),i5,mJ (d:=.str (sd b)) rfl];refine(bU (Dm (x:=ruD (mZ x.1 b)) (xs:=(rs++o.map (·.2)).map ruD) (v_var rfl (gZ _)) rfl (by rw[ac,au,ac];omega)) eY).trans ?_;show Res.ok (Out.nx [some (G.od,_),some (G.od,_),some (G.od,_),some (G.fr,PyData.list ((rs++o.map (·.2)).map ruD++[ruD (mZ x.1 b)])),some (G.fr,_),cZ (some (.al,.int x.2)),cZ (some (.al,cD x.1)),cZ (some (.al,.str (sd b))),cZ (some (.al,ruD (mZ x.1 b)))])=_;rw[mJ (nB _),mJ (gZ _),i5,mJ (d:=.str (sd b)) rfl,bp (f:=entD),bp (f:=λx:Re=>x.2),<-d8,show((rs++o.map (λx:Re=>x.2)++[z0n (x.2,x.1) b].map (λx:Re=>x.2)).map ruD)=(rs++o.map (λx:Re=>x.2)).map ruD++[ruD (mZ x.1 b)]from bp];rfl
 ·rintro ρ ⟨Je,u5,u6,u7,u8,rfl⟩
  have e:(cs.zipIdx.map (pA d)).foldl (eZ biE sdE z0n (bk0 rs)) []=aZ biE sdE z0n (bk0 rs) (eI cs) d:=by rw[Y6 dl];rfl
  rw[e];have hc:=zjx (Κ:=[]) (Φ:=[kP]) (ρ:=[some (.od,.list (cs.map cD)),some (.od,.list (d.map .bool)),some (.od,.list (rs.map ruD)),some (.fr,.list ((rs++(aZ biE sdE z0n (bk0 rs) (eI cs) d).map (·.2)).map ruD)),some (.fr,.list ((aZ biE sdE z0n (bk0 rs) (eI cs) d).map entD)),u5,u6,u7,u8]) (nt:=1) (js:=[]) (N':=["_law_holding"]) (tg:=.nm 0) (it:=.tv (.var 1)) (elt:=.rep (.cons (.str "cruel") .nil) (.bi "int" (.cons (.var 0) .nil))) (m:=PyData.bool) (xs:=d) mV (cI (g:=.od) (x:=.list (d.map .bool)) (by rw[iF];rfl) rfl) rfl (λb=>[some (.al,.bool b)]) (λb _=>rfl) λb _=>by rw[Xk (bJ dR dF) (gY (aF (aD rfl) aW) (OU b) rfl).e (g:=.fr) (d:=mV b) (by cases b<;>rfl)]
  have ht:=Xj (aF (aD (Κ:=[]) (Φ:=[kP]) (ρ:=[some (.od,.list (cs.map cD)),some (.od,.list (d.map .bool)),some (.od,.list (rs.map ruD)),some (.fr,.list ((rs++(aZ biE sdE z0n (bk0 rs) (eI cs) d).map (·.2)).map ruD)),some (.fr,.list ((aZ biE sdE z0n (bk0 rs) (eI cs) d).map entD)),u5,u6,u7,u8]) (i:=4) rfl) (aF (Ev.of hc) aW));obtain⟨g,ht⟩:=ht;exact⟨jS g,bQ (by rw[HS (λi z=>by cases z),ht];rfl)⟩
open PySem.Spec PyProof.Rows L2
namespace L63
abbrev i1 (k:Int):W:=.bV (.int k)
abbrev OV:W:=.lc 1 [] ["words"] (.nm 0) false (.ix (.raw 0) (i1 1)) .nil (.Bf (.raw 0))
def ct:WS:=.seq (.asg 4 OV) (.seq (.ext (.mY (.raw 4) (.raw 2)) (.raw 3)) (.seq (.ret (.tup (.cons (.bV (.bin .Add (.ix (.var 0) (.int 0)) (.var 1))) (.cons (.raw 4) .nil)))) .nil))
abbrev OW:C:=.call 1 "binding" (.cons (.bin .Add (.var 1) (.comp 1 [5] ["entry","name"] (.nm 0) (.tv (.ix (.var 4) (.int 0))) (.tv (.cmp .Eq (.ix (.var 0) (.int 0)) (.var 1))) (.ix (.var 0) (.int 2)))) (.cons (.var 6) .nil))
abbrev OX (s:Str):W:=.bV (.lst (.cons (.tup (.cons (.var 5) (.cons (.var 2) (.cons (.call 0 "fullest" (.cons (.var 6) (.cons (.str s) .nil))) .nil)))) .nil))
abbrev Jf (e n:W):W:=.pR 0 (.cons (.raw 4) (.cons e (.cons (.raw 2) (.cons n .nil))))
def wy:WS:=.seq (.asg 5 (.bV (.ix (.var 0) (.int 1)))) (.seq (.asg 6 (.bV (.call 2 "case_of" (.cons (.var 0) (.cons (.var 3) (.cons (.ix (.ix (.var 4) (.int 1)) (.var 2)) .nil))))))
 (.seq (.asg 7 (.bV OW))
 (.seq (.ifS (.ti true (.raw 7)) (.seq (.ret (.lst (.cons (Jf (.lst .nil) (.bV (.oE (.tv (.cmp .Eq (.ix (.var 7) (.int 0)) (.str "for"))) (.lst (.cons (.var 5) .nil)) (.lst .nil)))) .nil))) .nil) .nil)
 (.seq (.ret (.lst (.cons (Jf (OX "for") (.bV (.lst (.cons (.var 5) .nil)))) (.cons (Jf (OX "against") (.lst .nil)) .nil)))) .nil))))
abbrev Jg:WS:=.seq (.l' 7 (.raw 3) (.seq (.ext (.raw 6) (.pR 0 (.cons (.raw 0) (.cons (.raw 1) (.cons (.raw 4) (.cons (.raw 5) (.cons (.raw 7) .nil))))))) .nil)) (.seq (.asg 3 (.raw 6)) .nil)
def wo:WS:=.seq (.bD (.tp [4,5]) (.enum (.var 2)) (.seq (.asg 6 (.lst .nil)) Jg)) (.seq (.ret (.raw 3)) .nil)
abbrev Za:W:=.pR 0 (.cons (.raw 5) (.cons (.bV (.mt "get" (.var 1) (.cons (.ix (.var 5) (.int 1)) (.cons (.lst .nil) .nil)))) (.cons (.raw 3) (.cons (.raw 4) .nil))))
def rg:WS:=.seq (.ifS (.tc .Gt (.bV (.call 1 "open_uses" (.cons (.var 0) (.cons (.bi "len" (.cons (.var 2) .nil)) .nil)))) (.gi 0)) (.seq (.yE .bad) .nil) .nil)
 (.seq (.asg 3 (.bV (.comp 1 [0] ["thing","act"] (.nm 0) (.tv (.var 2)) .nil (.call 0 "of_facts" (.cons (.var 1) (.cons (.var 0) .nil))))))
 (.seq (.asg 4 (.lst (.cons (.tup (.cons (.lst .nil) (.cons (.lc 1 [] ["thing"] (.nm 0) false (.raw 3) .nil (.lst .nil)) .nil))) .nil)))
 (.seq (.lZ (.nm 5) (.raw 0) (.seq (.ifS (.tp (.tv (.cmp .Eq (.ix (.var 5) (.int 0)) (.str "word")))) (.seq (.yE .bad) .nil) (.seq (.ifS (.tp (.tv (.cmp .Eq (.ix (.var 5) (.int 0)) (.str "open")))) (.seq (.asg 4 Za) .nil) .nil) .nil)) .nil))
 (.seq (.ret (.raw 4)) .nil))))
abbrev rF:WS:=.seq (.ret (.bV (.bl false))) .nil
abbrev ca (k:Int):C:=.call 5 "_law_cell_at" (.cons (.var 0) (.cons (.int k) .nil))
abbrev Zb:C:=.tup (.cons (.call 6 "_law_pack" (.cons (.var 2) (.cons (.var 7) (.cons (.var 1) .nil)))) (.cons (.call 6 "_law_pack" (.cons (.var 3) (.cons (.call 7 "_law_mix" (.cons (.var 7) (.cons (.int 20) .nil))) (.cons (.var 1) .nil)))) .nil))
abbrev OY:WS:=.bD (.nm 6) (.fM (.cons (.bin .Mod (ca 2) (.int 7)) .nil)) (.seq (.asg 7 (.bV (.call 5 "_law_cell_at" (.cons (.var 0) (.cons (.bin .Add (.int 3) (.var 6)) .nil))))) (.seq (.app (.raw 5) (.bV Zb)) .nil))
abbrev OZ:WS:=.bD (.nm 12) (.fM (.cons (.call 0 "_law_two" (.cons (.bi "len" (.cons (.var 5) .nil)) .nil)) .nil)) (.seq (.asg 13 (.bV (.call 2 "_law_deal" (.cons (.var 5) (.cons (.var 10) (.cons (.var 12) .nil)))))) (.seq (.ifS (.tp (.tv (.jA true (.var 13)))) (.seq (.app (.raw 11) (.bV (.call 1 "_law_due" (.cons (.var 5) (.cons (.var 13) (.cons (.var 9) .nil)))))) .nil) .nil) .nil))
abbrev xx (a b c:W):W:=.pR 0 (.cons a (.cons b (.cons c .nil)))
abbrev Zc:W:=.wN (.tp (.not (.tv (.pI (.var 16) ["list"])))) (.wN (.tp (.tv (.cmp .NotEq (.var 16) (.var 11)))) (.wN (.tp (.tv (.cmp .NotEq (.var 15) (.lst (.cons (.var 4) (.cons (.var 8) .nil)))))) (.yA (.raw 14) (.yB "cruel" (.raw 9)))))
def O0:WS:=.seq (.ifS Zc rF .nil)
 (.seq (.ifS (.tp (.tv (.cmp .NotEq (.var 5) (.lst .nil)))) (.seq (.app (.mY (.mY (.mY (.raw 16) (i1 0)) (i1 1)) (i1 0)) (.bV (.str "x"))) .nil) .nil)
 (.seq (.ifS (.tp (.tv (.cmp .NotEq (.sl (.var 16) (.tv (.int 1)) .nil) (.sl (.var 11) (.tv (.int 1)) .nil)))) rF .nil)
 (.seq (.app (.mY (.mY (.raw 16) (i1 0)) (i1 1)) (.lst (.cons (.bV (.str "x")) .nil)))
 (.seq (.pop (.raw 16)) (.seq (.ret (.cmp .Eq (xx (.raw 4) (.raw 14) (.raw 8)) (.raw 11))) .nil)))))
def lw:WS:=.seq (.asg 1 (.bV (.cmp .Eq (.bin .Mod (ca 0) (.int 2)) (.int 0)))) (.seq (.asg 2 (.bV (.lst (.cons (.str "fa") (.cons (.str "fb") .nil)))))
 (.seq (.asg 3 (.bV (.sl (.lst (.cons (.str "ga") (.cons (.str "gb") .nil))) .nil (.tv (.bin .Add (.int 1) (.bin .Mod (.bin .FloorDiv (ca 0) (.int 2)) (.int 2)))))))
 (.seq (.asg 4 (.bV (.bin .Add (.comp 1 [] ["_law_name"] (.nm 0) (.tv (.bin .Add (.var 2) (.var 3))) .nil (.tup (.cons (.str "fact") (.cons (.var 0) .nil)))) (.lst (.cons (.tup (.cons (.str "open") (.cons (.str "cruel") (.cons (.eD "tuple" (.tv (.var 2))) (.cons (.eD "tuple" (.tv (.var 3))) .nil))))) .nil)))))
 (.seq (.asg 5 (.lst .nil)) (.seq OY
 (.seq (.asg 8 (.bV (.comp 1 [] ["_law_case"] (.nm 0) (.tv (.var 5)) .nil (.bin .Add (.ix (.var 0) (.int 0)) (.ix (.var 0) (.int 1))))))
 (.seq (.asg 9 (.bV (.call 4 "_law_book" (.cons (.var 0) (.cons (.var 2) (.cons (.var 3) (.cons (.var 1) .nil)))))))
 (.seq (.asg 10 (.bV (.comp 1 [9] ["_law_case","_law_book_here"] (.nm 0) (.tv (.var 5)) .nil (.call 3 "_law_side" (.cons (.var 1) (.cons (.var 0) .nil))))))
 (.seq (.asg 11 (.lst .nil)) (.seq OZ
 (.seq (.asg 14 (.yB "cruel" (.bV (.eD "list" (.tv (.var 9))))))
 (.seq (.asg 15 (.bV (.lst (.cons (.eD "list" (.tv (.var 4))) (.cons (.eD "list" (.tv (.var 8))) .nil)))))
 (.seq (.asg 16 (xx (.bV (.ix (.var 15) (.int 0))) (.raw 14) (.bV (.ix (.var 15) (.int 1))))) O0)))))))))))))
end L63
def dG (H:Hp):List Addr->List (List Str)->Prop
 | [],[]=>True
 |w::ws,x::xs=>H w=some (.lst (x.map V.str))/\dG H ws xs
 |_,_=>False
theorem dG.len {H:Hp}:∀{ws:List Addr} {xs:List (List Str)},dG H ws xs->ws.length=xs.length
 | [],[],_=>rfl
 |_::_,_::_,h=>congrArg (· +1) (dG.len h.2)
theorem dG.keep {H H':Hp}:∀{ws:List Addr} {xs:List (List Str)},dG H ws xs->(∀w∈ws,∀o,H w=some o->H' w=some o)->dG H' ws xs
 | [],[],_,_=>trivial
 |w::ws,_::_,h,k=>⟨k w (.head _) _ h.1,dG.keep h.2 λv hv=>k v (.tail _ hv)⟩
theorem dG.app {H:Hp}{w:Addr}{x:List Str}:∀{ws:List Addr} {xs:List (List Str)},dG H ws xs->H w=some (.lst (x.map V.str))->dG H (ws++[w]) (xs++[x])
 | [],[],_,h=>⟨h,trivial⟩
 |_::_,_::_,h,k=>⟨h.1,dG.app h.2 k⟩
theorem dG.there {H:Hp}:∀{ws:List Addr} {xs:List (List Str)},dG H ws xs->∀w∈ws,∃l,H w=some (.lst l)
 | [],[],_,_,h=>by cases h
 |w::ws,x::xs,h,v,hv=>by
  rcases ak.mp hv with rfl|hv
  ·exact⟨_,h.1⟩
  ·exact dG.there h.2 v hv
theorem dG.set {H:Hp}{k:Nat}{y:List Str}:∀{ws:List Addr} {xs:List (List Str)},dG H ws xs->ws.Nodup->∀w,ws[k]?=some w->dG (upd H w (.lst (y.map V.str))) ws (xs.set k y)
 | [],[],_,_,_,e=>by cases e
 |w::ws,x::xs,h,nd,v,e=>by
  obtain⟨n1,n2⟩:=bg.mp nd;cases k with
  |zero=>cases e;exact⟨bE,dG.keep h.2 λu hu o e=>by rw[aL (λz=>by rw[z]at hu;exact n1 hu)];exact e⟩
  |succ k=>have e:ws[k]?=some v:=e;have hv:v∈ws:=cj e;exact⟨by rw[aL (λz=>by rw[<-z]at hv;exact n1 hv)];exact h.1,dG.set h.2 n2 v e⟩
theorem dG.at {H:Hp}{k:Nat}:∀{ws:List Addr} {xs:List (List Str)},dG H ws xs->∀w,ws[k]?=some w->∃x,xs[k]?=some x/\H w=some (.lst (x.map V.str))
 | [],[],_,_,e=>by cases e
 |w::ws,x::xs,h,v,e=>by
  cases k with
  |zero=>cases e;exact⟨x,rfl,h.1⟩
  |succ k=>exact dG.at h.2 v e
def kQ (x:List Str):D:=.list (x.map .str)
def Ok1 (hs:List (List Str)):Prop:=∀x∈hs,∀s∈x,PyData.strOk s=true
theorem O1 {K:W.Frag}{H:Hp}{B:Ad->Prop}:∀{x:List Str},(∀s∈x,PyData.strOk s=true)->Reps K H B (x.map V.str) (x.map .str)
 | [],_=>rfl
 |s::x,h=>⟨.str s,x.map V.str,rfl,⟨rfl,h s (.head _)⟩,O1 λt ht=>h t (.tail _ ht)⟩
theorem dG.dW {K:W.Frag}{H:Hp}:∀{ws:List Addr} {xs:List (List Str)},dG H ws xs->Ok1 xs->Reps K H AnyB (ws.map .ref) (xs.map kQ)
 | [],[],_,_=>rfl
 |w::ws,x::xs,h,o=>⟨.ref w,ws.map .ref,rfl,⟨w,_,rfl,.inl ⟨h.1,trivial⟩,O1 (o x (.head _))⟩,dG.dW h.2 λy hy=>o y (.tail _ hy)⟩
theorem zji {K:W.Frag}{α:Type}{L:List α}{e:α->D}{f:α->List Str}{g:TG}{tc:TT}{te:TE}{em:L2.St->L2.St}{Y:L2.St}{H1:Hp}{B:Ad->Prop}{J:It}{Q:VK}(wk:Walk K J B H1 (L.map e))
  (one:∀a∈L,∀(v:V) (H3:Hp) (N:Hp->Prop) (M:VK),Same H1 H3->Rep K H3 B v (e a)->(∀p H',Same H3 H'->H3 p=none->H' p=some (.lst ((f a).map V.str))->M (.ref p) H')->g v (em Y) H3 λdC H4=>gP (em Y) dC/\tc dC H4 λb H5=>if b=true then te dC H5 M else N H5)
  (q:∀l ws H',H1 l=none->Same H1 H'->H' l=some (.lst (ws.map .ref))->(∀w∈ws,H1 w=none)->(l::ws).Nodup->dG H' ws (L.map f)->Q (.ref l) H'):
  ∀l,H1 l=none->∃P:Nat->Nat->List V->Hp->Prop,(∃m,P 0 m [] (upd H1 l (.lst [])))/\∀i m acc H2,P i m acc H2->(J.stop i H2/\Q (.ref l) H2)\/(J.go i H2/\acc.length<bc/\∃N:List V->Hp->Prop,(∀acc' H',N acc' H'->∃m',m'<m/\P (i+1) m' acc' H')/\∀x H3,J.iM i H2 x H3->g x (em Y) H3 λdC H4=>gP (em Y) dC/\tc dC H4 λb H5=>if b=true then te dC H5 λy H6=>H6 l=some (.lst acc)/\N (acc++[y]) (upd H6 l (.lst (acc++[y])))else N acc H5):=by
 intro l hl
 let P:Nat->Nat->List V->Hp->Prop:=λi m acc H2=>m=L.length-i/\i<=L.length/\Same H1 H2/\H2 l=some (.lst acc)/\∃ws:List Addr,acc=ws.map .ref/\(∀w∈ws,H1 w=none)/\(l::ws).Nodup/\dG H2 ws ((L.take i).map f)
 refine⟨P,⟨_,rfl,cz _,Same.upd hl,bE,[],rfl,(λ_ h=>by cases h),bg.mpr ⟨(λz=>by cases z),gf⟩,trivial⟩,?_⟩
 rintro i m acc H2 ⟨rfl,hi,s2,xA,ws,rfl,wn,nd,hw⟩
 have ll:(L.map e).length=L.length:=ac ..;by_cases cE:i<L.length
 ·have hal:(ws.map V.ref).length<bc:=by
   have h1:=hw.len;have h2:=wk.len;rw[ac,iz]at h1;rw[ac];omega
  have tk:L.take (i+1)=L.take i++[L[i]]:=by rw[qb,aw cE];rfl
  refine .inr ⟨wk.go H2 (Kp.of s2) i (by rw[ll];exact cE),hal,P (i+1) (L.length-(i+1)),λacc' H' w=>⟨_,by omega,w⟩,λx H3 hy=>?_⟩;obtain⟨s3,d,hd,rx⟩:=wk.iM H2 (Kp.of s2) i x H3 (by rw[ll];exact cE) hy;rw[bj,aw cE]at hd;cases hd;refine one L[i] (dh cE) x H3 _ _ (s2.trans s3) rx λp H' s4 hp ep=>?_;have Zd:=s4 _ _ (s3 _ _ xA);have pl:p≠l:=λz=>by rw[z,s3 _ _ xA]at hp;cases hp
  have pw:∀w∈ws,w≠p:=λw h z=>by obtain⟨y,ey⟩:=hw.there w h;rw[<-z,s3 _ _ ey]at hp;cases hp
  obtain⟨n1,n2⟩:=bg.mp nd;refine⟨Zd,rfl,cE,λb o eb=>?_,bE,ws++[p],by rw[bp];rfl,λw h=>?_,?_,?_⟩
  ·rw[aL (eB eb hl)];exact s4 b o (s3 b o (s2 b o eb))
  ·rcases bo.mp h with h|h
   ·exact wn w h
   ·rw[am.mp h];exact(s2.trans s3).none hp
  ·rw[<-List.cons_append]
   exact ij.mpr ⟨nd,bg.mpr ⟨(λz=>by cases z),gf⟩,λa ha b hb=>by
    rw[am.mp hb];rcases ak.mp ha with rfl|ha
    ·exact λz=>pl z.symm
    ·exact pw a ha⟩
  ·rw[tk,bp];refine dG.app (dG.keep hw λw h o e=>?_) ?_
   ·rw[aL (λz=>by rw[z]at h;exact n1 h)];exact s4 _ _ (s3 _ _ e)
   ·rw[aL pl];exact ep
 ·have Aj:i=L.length:=by omega
  subst Aj;refine .inl ⟨by rw[<-ll];exact wk.stop H2 (Kp.of s2),q l ws H2 hl s2 xA wn nd ?_⟩;rw[oh]at hw;exact hw
inductive Sl (K:W.Frag)(H:Hp):L2.St->Rho->Prop where
 |nil:Sl K H [] []
 |no {o:Option V} {Y:L2.St} {ρ:Rho} (t:Sl K H Y ρ):Sl K H (o::Y) (none::ρ)
 |da {v:V} {d:D} {B:Ad->Prop} {Y:L2.St} {ρ:Rho} (r:Rep K H B v d) (t:Sl K H Y ρ):Sl K H (some v::Y) (some (.od,d)::ρ)
theorem Sl.len {K:W.Frag}(s:Sl K H Y ρ):Y.length=ρ.length:=by
 induction s with
 |nil=>rfl
 |no t ih=>rw[bv,bv,ih]
 |da r t ih=>rw[bv,bv,ih]
theorem Sl.at {K:W.Frag}(s:Sl K H Y ρ):∀(i:Nat) g d,ρ[i]?=some (some (g,d))->g=G.od/\∃v B,Y[i]?=some (some v)/\Rep K H B v d:=by
 induction s with
 |nil=>intro i g d e;cases e
 |no t ih=>
  intro i g d e;cases i with
  |zero=>cases e
  |succ i=>exact ih i g d e
 |da r t ih=>
  intro i g d e;cases i with
  |zero=>cases e;exact⟨rfl,_,_,rfl,r⟩
  |succ i=>exact ih i g d e
theorem Sl.so {K:W.Frag}(s:Sl K H Y ρ):StOk K (F0 H) H Y ρ:=Dt s.len s.at
theorem Ze {K:W.Frag}(tl:L2.St):Sl K H tl (ba tl.length none):=by
 induction tl with
 |nil=>exact .nil
 |cons o tl ih=>exact .no ih
theorem eq_self (h:aP 40 d=true):cmpD .Eq d d=.ok true:=by show(if(aP 40 d&&aP 40 d)=true then Res.ok (cQ d d)else Res.no)=_;rw[h,vg (show(true&&true)=true from rfl),show cQ d d=true from tI d 40 h]
theorem hU (hκ:Z.Κ=[])(hφ:Z.Φ=Φ)(s:Sl Z.K H Y ρ)(e:Ev [] Φ c ρ d)(q:∀v H',Same H H'->Rep Z.K H' AnyB v d->Q v H'):wE Z (.bV c) Y H Q:=by obtain⟨g',e⟩:=e;exact Io s.so (by rw[hκ,hφ];exact e) q
theorem nD (hκ:Z.Κ=[])(hφ:Z.Φ=Φ)(s:Sl Z.K H Y ρ)(e:Tt [] Φ c ρ b)(q:∀H',Same H H'->R b H'):wT Z (.tp c) Y H R:=X3 s.so (by rw[hκ,hφ];exact e) q
theorem Sl.Zf {K:W.Frag}(t:Sl K H Y ρ):Sl K H (some (.int i)::Y) (some (.od,.int i)::ρ):=.da (B:=AnyB) (d:=.int i) rfl t
theorem zgq {Z:Wc}{D0:Ends}{Y:L2.St}{H:Hp}{i:Nat}{it:W}{b:WS}{vs:List V}(I:Addr->Nat->L2.St->Hp->Prop)(hit:∀R:VK,(∀a H1,SqL Z.K H1 a vs->I a 0 Y H1->R (.ref a) H1)->wE Z it Y H R)(sq:∀a k σ' H',I a k σ' H'->SqL Z.K H' a vs)
  (one:∀a k v σ' H',vs[k]?=some v->I a k σ' H'->∀D2:Ends,D2.rt=D0.rt->(∀fG H3,I a (k+1) fG H3->D2.nx fG H3)->tDG Z.K (.nm i) v σ' H' (wS Z b D2)) (q:∀a σ' H',I a vs.length σ' H'->D0.nx σ' H'):wS Z (.lZ (.nm i) it b) D0 Y H:=by
 refine hit _ λa H1 h1 i1=>⟨a,rfl,⟨vs,h1⟩,λk m σ' H'=>m=vs.length-k/\k<=vs.length/\I a k σ' H',⟨_,rfl,cz _,i1⟩,?_⟩
 rintro k m σ' H' ⟨rfl,hk,ik⟩
 have hs:=sq a k σ' H' ik;by_cases cE:k<vs.length
 ·refine .inr ⟨⟨vs,vs[k],hs,aw cE⟩,λeC H2=>vs.length-(k+1)=vs.length-(k+1)/\k+1<=vs.length/\I a (k+1) eC H2,λeC H2 w=>⟨_,by omega,w⟩,λy H2 hy=>?_⟩;obtain⟨e2,hy⟩:=hy;have hy:=hy _ hs;rw[e2];exact one a k y σ' H' hy ik _ rfl λfG H3 w=>⟨rfl,cE,w⟩
 ·have :k=vs.length:=by omega
  subst this;exact .inl ⟨⟨vs,hs,ag _⟩,q a σ' H' ik⟩
theorem SqL.same {K:W.Frag}(h:SqL K H a vs)(s:Same H H'):SqL K H' a vs:=by
 rcases h with(h|⟨o,h⟩)|h
 ·exact .inl (.inl (s _ _ h))
 ·exact .inl (.inr ⟨o,s _ _ h⟩)
 ·exact .inr h
theorem O2 {Y:L2.St}(hl:σ'.length=Y.length)(e:σ'[i]?=some (some w))(r:∀j,j≠i->σ'[j]?=Y[j]?):σ'=Y.set i (some w):=by
 refine tx λj=>?_;by_cases hj:j=i
 ·subst hj;rw[e,cq (hl▸(aq.mp e).1)]
 ·rw[r j hj,ci (Ne.symm hj)]
theorem Jh {K:W.Frag}(r:Rep K H B v d)(hi:i<Y.length)(q:∀w,Rep K H AnyB w d->Q (Y.set i (some w)) H):tDG K (.nm i) v Y H Q:=zl9 r hi λσ' w hl e r' rest=>by rw[O2 hl e rest];exact q w r'
section
variable {Z:Wc}{Φ:List Fn}{D0:Ends}{Y:L2.St}{ρ:Rho}{H:Hp}{t:Tg}{it:C}{b:WS}{g:G}{ds:List D}
theorem zdz (hκ:Z.Κ=[])(hφ:Z.Φ=Φ)(sl:Sl Z.K H Y ρ)(ev:evW [] Φ it ρ=.ok (g,ds))(M:Hp->Hp->Prop)(m0:∀H1,M H1 H1)(m2:∀H1 H2 H3,M H1 H2->M H2 H3->M H1 H3)(ms:∀H1 H2,Same H1 H2->M H1 H2)
  (mk:∀H1 H2,Same H H1->M H1 H2->∀b o,H1 b=some o->(BG (F0 H) H g (some b)/\¬nw H1 (some b)\/Fix o)->H2 b=some o) (I:Nat->L2.St->Hp->Prop) (i0:∀H1,Same H H1->I 0 Y H1)
  (one:∀k y d σ' H' H2 D2,ds[k]?=some d->I k σ' H'->Same H' H2->Rep Z.K H2 AnyB y d->D2.rt=D0.rt->(∀fG H3,I (k+1) fG H3->M H' H3->D2.nx fG H3)->tDG Z.K t y σ' H2 (wS Z b D2))
  (q:∀σ' H',I ds.length σ' H'->D0.nx σ' H'):wS Z (.bD t it b) D0 Y H:=by
 refine⟨ρ,F0 H,(g,ds),sl.so,by rw[hκ,hφ];exact ev,λJ B H1 s1 hB wk=>?_⟩;have kp:∀H',M H1 H'->Kp B H1 H':=λH' m b o e z=>mk H1 H' s1 m b o e (z.imp (λz=>hB _ z) id);refine⟨λk n σ' H'=>n=ds.length-k/\k<=ds.length/\M H1 H'/\I k σ' H',⟨_,rfl,cz _,m0 _,i0 H1 s1⟩,?_⟩
 rintro k n σ' H' ⟨rfl,hk,m',i'⟩
 by_cases cE:k<ds.length
 ·refine .inr ⟨wk.go H' (kp _ m') k cE,λeC H2=>k+1<=ds.length/\M H1 H2/\I (k+1) eC H2,λeC H2 w=>⟨ds.length-(k+1),by omega,rfl,w⟩,λy H2 hy=>?_⟩;obtain⟨s2,d,e,r⟩:=wk.iM H' (kp _ m') k y H2 cE hy;exact one k y d σ' H' H2 _ e i' s2 (r.weak λ_ _=>trivial) rfl λfG H3 i3 m3=>⟨cE,m2 _ _ _ m' m3,i3⟩
 ·have Aj:k=ds.length:=by omega
  subst Aj;exact .inl ⟨wk.stop H' (kp _ m'),q σ' H' i'⟩
theorem zli (hκ:Z.Κ=[])(hφ:Z.Φ=Φ)(sl:Sl Z.K H Y ρ)(ev:evW [] Φ it ρ=.ok (g,ds))(I:Nat->L2.St->Hp->Prop)(i0:∀H1,Same H H1->I 0 Y H1)
  (one:∀k y d σ' H' H2 D2,ds[k]?=some d->I k σ' H'->Same H' H2->Rep Z.K H2 AnyB y d->D2.rt=D0.rt->(∀fG H3,I (k+1) fG H3->Same H' H3->D2.nx fG H3)->tDG Z.K t y σ' H2 (wS Z b D2))
  (q:∀σ' H',I ds.length σ' H'->D0.nx σ' H'):wS Z (.bD t it b) D0 Y H:=
 zdz hκ hφ sl ev Same Same.refl (λ_ _ _=>Same.trans) (λ_ _ h=>h) (λH1 H2 _ m b o e _=>m b o e) I i0 one q
theorem zdy (hκ:Z.Κ=[])(hφ:Z.Φ=Φ)(sl:Sl Z.K H Y ρ)(ev:evW [] Φ it ρ=.ok (.fr,ds))(T:Addr->Prop)(hT:∀b,T b->∃o,H b=some o/\¬Fix o)(I:Nat->L2.St->Hp->Prop)(i0:∀H1,Same H H1->I 0 Y H1)
  (one:∀k y d σ' H' H2 D2,ds[k]?=some d->I k σ' H'->Same H' H2->Rep Z.K H2 AnyB y d->D2.rt=D0.rt->(∀fG H3,I (k+1) fG H3->(∀b o,¬T b->H' b=some o->H3 b=some o)->D2.nx fG H3)->tDG Z.K t y σ' H2 (wS Z b D2))
  (q:∀σ' H',I ds.length σ' H'->D0.nx σ' H'):wS Z (.bD t it b) D0 Y H:=
 zdz hκ hφ sl ev (λH1 H2=>∀b o,¬T b->H1 b=some o->H2 b=some o) (λ_ _ _ _ e=>e) (λ_ _ _ m1 m2 b o n e=>m2 b o n (m1 b o n e)) (λ_ _ s b o _ e=>s b o e) (λH1 H2 s m b o e z=>m b o (λw=>by
  obtain⟨o',e',nf⟩:=hT b w;have e1:=s b o' e';rw[e]at e1;cases e1;rcases z with z|z
  ·have z1:nw H (some b):=z.1;have:H b=none:=z1;rw[this]at e';cases e'
  ·exact nf z) e) I i0 one q
end
theorem O3 (hl:σ'.length=(none::τ).length)(h:∀k,k≠0->σ'[k]?=(none::τ)[k]?):gP (none::τ) σ':=⟨hl.symm,λi v e=>by rw[h i (by rintro rfl;cases e)];exact e⟩
theorem Ji {K:W.Frag}:∀{xs:List Str} {vs:List V},Reps K H B vs (xs.map PyData.str)->vs=xs.map V.str/\∀s∈xs,PyData.strOk s=true
 | [],vs,r=>⟨r,λ_ h=>nomatch h⟩
 |s::xs,vs,r=>by obtain⟨v,t,rfl,⟨rfl,ok⟩,r⟩:=r;obtain⟨rfl,h⟩:=Ji r;exact⟨rfl,λu hu=>(ak.mp hu).elim (λe=>e▸ok) (h u)⟩
theorem fD (q:wE Z e Y H λv H1=>wS Z b D0 (Y.set i (some v)) H1):wS Z (.seq (.asg i e) b) D0 Y H:=q
theorem fA (q:wS Z a {D0 with nx:=wS Z b D0} Y H):wS Z (.seq a b) D0 Y H:=q
theorem mL (q:wT Z c Y H λk H1=>if k=true then wS Z a D0 Y H1 else wS Z b D0 Y H1):wS Z (.ifS c a b) D0 Y H:=q
theorem yN (q:wE Z e Y H D0.rt):wS Z (.seq (.ret e) b) D0 Y H:=q
theorem iX (Z:Wc)(q:D0.nx Y H):wS Z .nil D0 Y H:=q
structure Ra where
 t:Addr
 e:Addr
 h:Addr
 ws:List Addr
def Ra.ad (r:Ra):List Addr:=r.t::r.e::r.h::r.ws
def rdD (o:List Re)(hs:List (List Str)):D:=.tuple [.list (o.map entD),.list (hs.map kQ)]
structure RdA (K:W.Frag)(H:Hp)(r:Ra)(o:List Re)(hs:List (List Str)):Prop where
 tp:H r.t=some (.tup [.ref r.e,.ref r.h])
 en:∃vs,H r.e=some (.lst vs)/\Reps K H rX vs (o.map entD)
 ho:H r.h=some (.lst (r.ws.map .ref))
 hl:dG H r.ws hs
 nd:r.ad.Nodup
 ok:Ok1 hs
section
variable {K:W.Frag}{H H':Hp}{r:Ra}{o es:List Re}{hs:List (List Str)}
theorem RdA.rep (a:RdA K H r o hs):Rep K H AnyB (.ref r.t) (rdD o hs):=by obtain⟨vs,e1,e2⟩:=a.en;exact⟨r.t,_,rfl,bS.of a.tp,⟨.ref r.e,_,rfl,⟨r.e,vs,rfl,.inl ⟨e1,trivial⟩,e2.weak λ_ z=>z.elim⟩,⟨.ref r.h,_,rfl,⟨r.h,_,rfl,.inl ⟨a.ho,trivial⟩,a.hl.dW a.ok⟩,rfl⟩⟩⟩
theorem RdA.there (a:RdA K H r o hs):∀x∈r.ad,∃ob,H x=some ob:=λx hx=>by
 rcases ak.mp hx with rfl|hx
 ·exact⟨_,a.tp⟩
 rcases ak.mp hx with rfl|hx
 ·obtain⟨vs,e,_⟩:=a.en;exact⟨_,e⟩
 rcases ak.mp hx with rfl|hx
 ·exact⟨_,a.ho⟩
 ·obtain⟨l,e⟩:=a.hl.there x hx;exact⟨_,e⟩
theorem RdA.keep (a:RdA K H r o hs)(k1:∀x∈r.ad,∀ob,H x=some ob->H' x=some ob)(k2:∀x ob,H x=some ob->Fix ob->H' x=some ob):RdA K H' r o hs where
 tp:=k1 _ (.head _) _ a.tp
 en:=by obtain⟨vs,e1,e2⟩:=a.en;exact⟨vs,k1 _ (.tail _ (.head _)) _ e1,Reps.keep (λx ob e z=>k2 x ob e (z.elim (λz=>z.elim) id)) (λ_ z=>z) _ e2⟩
 ho:=k1 _ (.tail _ (.tail _ (.head _))) _ a.ho
 hl:=a.hl.keep λw hw=>k1 w (.tail _ (.tail _ (.tail _ hw)))
 nd:=a.nd
 ok:=a.ok
theorem RdA.same (a:RdA K H r o hs)(s:Same H H'):RdA K H' r o hs:=a.keep (λx _=>s x) λx ob e _=>s x ob e
end
theorem O4 (o:List Re):imms (o.map entD)=true:=sM OT o
theorem O5 {Z:Wc}{D0:Ends}{Y:L2.St}{H:Hp}{o v:W}(q:wE Z o Y H λx H1=>tyV Z.K "list" x H1/\wE Z v Y H1 λy H2=>Cd x [y] H2 λ_ H3=>D0.nx Y H3):wS Z (.ext o v) D0 Y H:=q
theorem DR {K:W.Frag}{H:Hp}{Q:VK}{p:Addr}{xs:List V}{v:V}{k:Nat}(h:H p=some (.lst xs))(e:xs[k]?=some v)(hk:k<1000)(q:Q v H):vH K (.ref p) (.int k) H Q:=.inl ⟨p,xs,k,v,rfl,rfl,SqL.of h,by unfold L2.dM L2.jK;have:k<xs.length:=(aq.mp e).1;rw[vg (by omega),vg (by omega)];show xs[(k:Int).toNat]?=_;rw[fi];exact e,q⟩
theorem O6 {Z:Wc}{H:Hp}{Y:L2.St}{Q:VK}{c:C}{ρ:Rho}{d:D}(so:StOk Z.K (F0 H) H Y ρ)(e:aG Z.Κ Z.Φ c ρ=.ok (.fr,d))(q:∀v H',Same H H'->Rep Z.K H' (nw H) v d->Q v H'):wE Z (.bV c) Y H Q:=⟨ρ,F0 H,(.fr,d),so,e,q⟩
def spCt (K:W.Frag):Sp:=λvs H Q _=>∃v ve pn,∃k:Nat,∃o es:List Re,∃hs:List (List Str),∃ns:List Str,∃B,vs=[v,ve,.int k,.ref pn]/\Rep K H B v (rdD o hs)/\Rep K H B ve (.list (es.map entD))/\H pn=some (.lst (ns.map V.str))/\Ok1 hs/\(∀s∈ns,PyData.strOk s=true)/\k<hs.length/\hs.length<=8/\o.length+es.length<=100/\(∀x∈hs,x.length<=20)/\ns.length<=20/\∀H' r,Same H H'->(∀a∈r.ad,H a=none)->RdA K H' r (o++es) (hs.set k (hs.getD k []++ns))->Q (.ref r.t) H'
section
variable {Z:Wc}{H:Hp}{D0:Ends}{v ve:V}{pn:Addr}{k:Nat}{o es:List Re}{hs:List (List Str)}{ns:List Str}{B:Ad->Prop}
theorem zot (hκ:Z.Κ=[])(hφ:Z.Φ=[])(rv:Rep Z.K H B v (rdD o hs))(re:Rep Z.K H B ve (.list (es.map entD)))(rn:H pn=some (.lst (ns.map V.str)))(ok:Ok1 hs)(on:∀s∈ns,PyData.strOk s=true)(hk:k<hs.length)(hl:hs.length<=8)(ho:o.length+es.length<=100)(hx:∀x∈hs,x.length<=20)(hn:ns.length<=20)
  (q:∀H' r,Same H H'->(∀a∈r.ad,H a=none)->RdA Z.K H' r (o++es) (hs.set k (hs.getD k []++ns))->D0.rt (.ref r.t) H'):wS Z L63.ct D0 [some v,some ve,some (.int k),some (.ref pn),none] H:=by
 have cl:∀Q:VK,(∀l ws H1,H l=none->Same H H1->H1 l=some (.lst (ws.map .ref))->(∀w∈ws,H w=none)->(l::ws).Nodup->dG H1 ws (hs.map id)->Q (.ref l) H1)->wE Z L63.OV [some v,some ve,some (.int k),some (.ref pn),none] H Q:=λQ kq=>by
  refine Oj (X4 (cG rfl (yF λH0 s0=>X2 (rv.same s0 λ_ z=>z) (d:=.list (hs.map kQ)) rfl λw bI=>⟨B,.list (hs.map kQ),hs.map kQ,bI,rfl,λJ wk=>?_⟩)));refine zji (L:=hs) (e:=kQ) (f:=id) wk (λa ha u H3 N M s3 ru hM=>?_) λl ws H1 uK s1 e1 wn nd hw=>kq l ws H1 (s0.none uK) (s0.trans s1) e1 (λw h=>s0.none (wn w h)) nd hw;refine zl9 (Y:=[none]) ru (by decide) λσ' u' hlen e0 O7 rest=>⟨O3 hlen rest,?_⟩;show wE _ (.Bf (.raw 0)) σ' H3 M;refine⟨u',e0,AnyB,u',kQ a,true,a.map .str,kQ a,rfl,O7,rfl,rfl,λy H4 s4 ry=>?_⟩;obtain⟨p,vs,rfl,hp,oO⟩:=ry;obtain⟨rfl,_⟩:=Ji oO;rcases hp with⟨hp,z⟩|⟨_,z⟩
  ·refine hM p H4 s4 ?_ hp;rcases z with z|⟨z,_⟩
   ·exact z
   ·rw[tT]at z;cases z
  ·rcases z with z|⟨z,_⟩
   ·exact z.elim
   ·rw[tT]at z;cases z
 refine fD (cl _ λl ws H1 uK xB e1 wn nd hw=>?_);rw[uj]at hw;have zD:=hw.len;obtain⟨n1,n2⟩:=bg.mp nd;have DS:k<ws.length:=by rw[zD];exact hk
 have ew:ws[k]?=some ws[k]:=aw DS;obtain⟨x,ex,O8⟩:=hw.at _ ew;have C4:hs.getD k []=x:=by rw[bd,ex];rfl
 have Zg:=xB _ _ rn;have wpn:ws[k]≠pn:=λz=>by have:=wn _ (dh DS);rw[z,rn]at this;cases this
 refine fA (O5 (yG (cG (v:=.ref l) rfl (cG (v:=.int k) rfl (DR e1 (v:=.ref ws[k]) (by rw[bj,ew];rfl) (by omega) ⟨.inl ⟨rfl,_,SqL.of O8⟩,cG (v:=.ref pn) rfl ⟨ws[k],pn,x.map V.str,ns.map V.str,rfl,rfl,O8,Zg,?_,?_⟩⟩)))))
 ·rw[ac,ac,df];have:=hx x (cj ex);omega
 rw[<-bp];have Jj:=hw.set (y:=x++ns) n2 _ ew;have lw:l≠ws[k]:=λz=>n1 (z▸dh DS);have e2:upd H1 ws[k] (.lst ((x++ns).map V.str)) l=some (.lst (ws.map .ref)):=by rw[aL lw];exact e1
 have s2:Same H (upd H1 ws[k] (.lst ((x++ns).map V.str))):=λb ob e=>by rw[aL λz=>by have:=wn _ (dh DS);rw[<-z,e]at this;cases this];exact xB b ob e
 generalize upd H1 ws[k] (.lst ((x++ns).map V.str))=H2 at Jj e2 s2 ⊢;have sl:Sl Z.K H2 [some v,some ve,some (.int k),some (.ref pn),some (.ref l)] [some (.od,rdD o hs),some (.od,.list (es.map entD)),none,none,none]:=.da (rv.same (B':=B) s2 λ_ z=>z) (.da (re.same (B':=B) s2 λ_ z=>z) (.no (.no (.no .nil))));obtain⟨ge,ee⟩:∃g,aG Z.Κ Z.Φ (.bin .Add (.ix (.var 0) (.int 0)) (.var 1)) [some (.od,rdD o hs),some (.od,.list (es.map entD)),none,none,none]=.ok (.fr,.list ((o++es).map entD)):=by refine⟨G.fr,?_⟩;rw[hκ,hφ,bp];exact Ba (Ev.of (g:=.od) (by rw[rQ,iF];rfl)) (aD rfl) (add_list (by rw[ac,ac];omega)) (by rw[<-bp];exact O4 _)
 refine yN (Oi (cS (O6 sl.so ee λy H3 s3 ry=>cS (cG (v:=.ref l) rfl (gE ⟨by rw[df];simp,λp hp=>?_⟩)))));obtain⟨pe,vs,rfl,DT,oO⟩:=ry
 obtain⟨DT,Jk⟩:H3 pe=some (.lst vs)/\H2 pe=none:=by
  rcases DT with⟨h,z⟩|⟨_,z⟩
  ·exact⟨h,z⟩
  ·exact z.elim
 have uD:Same H3 (upd H3 p (.tup [.ref pe,.ref l])):=Same.upd hp;have pT:=s3.trans uD;refine q _ ⟨p,pe,l,ws⟩ (s2.trans pT) (λa ha=>?_) ⟨bE,⟨vs,uD _ _ DT,(Reps.bG _ (O4 _) oO).same uD λ_ z=>z⟩,pT _ _ e2,Jj.keep (λw _=>pT w) |> λh=>by rw[C4];exact h,?_,?_⟩
 ·rcases ak.mp ha with rfl|ha
  ·exact(s2.trans s3).none hp
  rcases ak.mp ha with rfl|ha
  ·exact s2.none Jk
  rcases ak.mp ha with rfl|ha
  ·exact uK
  ·exact wn a ha
 ·have pin:∀a∈l::ws,∃ob,H2 a=some ob:=fun a ha=>by
   rcases ak.mp ha with rfl|ha
   ·exact⟨_,e2⟩
   ·obtain⟨y,ey⟩:=Jj.there a ha;exact⟨_,ey⟩
  refine bg.mpr ⟨λz=>?_,bg.mpr ⟨λz=>?_,nd⟩⟩
  ·have z:p∈pe::l::ws:=z;rcases ak.mp z with z|z
   ·rw[z,DT]at hp;cases hp
   ·obtain⟨ob,e⟩:=pin _ z;rw[s3 _ _ e]at hp;cases hp
  ·obtain⟨ob,e⟩:=pin _ z;rw[e]at Jk;cases Jk
 ·intro y hy s pN;rcases m6 hy with hy|rfl
  ·exact ok y hy s pN
  ·rw[C4]at pN;rcases bo.mp pN with z|z
   ·exact ok x (cj ex) s z
   ·exact on s z
end
def RdL (K:W.Frag)(H:Hp):List Ra->List (List Re×List (List Str))->Prop
 | [],[]=>True
 |r::ra,x::xs=>RdA K H r x.1 x.2/\RdL K H ra xs
 |_,_=>False
def fE (ra:List Ra):List Addr:=ra.flatMap Ra.ad
section
variable {K:W.Frag}{H H':Hp}
theorem RdL.len:∀{ra:List Ra} {xs:List (List Re×List (List Str))},RdL K H ra xs->ra.length=xs.length
 | [],[],_=>rfl
 |_::_,_::_,h=>congrArg (· +1) (RdL.len h.2)
theorem RdL.keep:∀{ra:List Ra} {xs:List (List Re×List (List Str))},RdL K H ra xs->(∀x∈fE ra,∀ob,H x=some ob->H' x=some ob)->(∀x ob,H x=some ob->Fix ob->H' x=some ob)->RdL K H' ra xs
 | [],[],_,_,_=>trivial
 |r::ra,_::_,h,k1,k2=>⟨h.1.keep (λx hx=>k1 x (ez.mpr ⟨r,.head _,hx⟩)) k2,RdL.keep h.2 (λx hx=>k1 x (by obtain⟨s,hs,hx⟩:=ez.mp hx;exact ez.mpr ⟨s,.tail _ hs,hx⟩)) k2⟩
theorem RdL.same {ra:List Ra}{xs:List (List Re×List (List Str))}(h:RdL K H ra xs)(s:Same H H'):RdL K H' ra xs:=h.keep (λx _=>s x) λx ob e _=>s x ob e
theorem RdL.app:∀{ra rb:List Ra} {xs ys:List (List Re×List (List Str))},RdL K H ra xs->RdL K H rb ys->RdL K H (ra++rb) (xs++ys)
 | [],_,[],_,_,h=>h
 |_::_,_,_::_,_,h,k=>⟨h.1,RdL.app h.2 k⟩
theorem RdL.there:∀{ra:List Ra} {xs:List (List Re×List (List Str))},RdL K H ra xs->∀x∈fE ra,∃ob,H x=some ob
 | [],[],_,x,hx=>by cases hx
 |r::ra,_::_,h,x,hx=>by
  obtain⟨s,hs,O9⟩:=ez.mp hx;rcases ak.mp hs with rfl|hs
  ·exact h.1.there x O9
  ·exact RdL.there h.2 x (ez.mpr ⟨s,hs,O9⟩)
def nG (xs:List (List Re×List (List Str))):List D:=xs.map λx=>rdD x.1 x.2
theorem RdL.dW:∀{ra:List Ra} {xs:List (List Re×List (List Str))},RdL K H ra xs->Reps K H AnyB (ra.map λr=>.ref r.t) (nG xs)
 | [],[],_=>rfl
 |_::_,_::_,h=>⟨_,_,rfl,h.1.rep,RdL.dW h.2⟩
end
def yO (rs:List Ru)(o:List Re)(hs:List (List Str))(k:Nat)(c:Cs):List (List Re×List (List Str)):=
 match bnd biE sdE (bk0 rs++o) (k,c)with
 |some s=>[(o,hs.set k (jF s))]
 |none=>[(o++[z0n (k,c) true],hs.set k (jF true)),(o++[z0n (k,c) false],hs.set k (jF false))]
def Lst (K:W.Frag)(H H':Hp)(p:Addr)(ra:List Ra)(xs:List (List Re×List (List Str))):Prop:=H p=none/\(∀a∈fE ra,H a=none)/\(p::fE ra).Nodup/\RdL K H' ra xs/\H' p=some (.lst (ra.map λr=>.ref r.t))
structure WyA (K:W.Frag)(H:Hp)(ga:List Str)(rs:List Ru)(c:Cs)(k:Nat)(o:List Re)(hs:List (List Str))(vr vb vt v:V)(B:Ad->Prop):Prop where
 g:GA ga
 w:Wf ga c
 rr:Rep K H B vr (kE ga)
 rb:Rep K H B vb (.list (rs.map ruD))
 rt:Rep K H B vt (pk (dY c))
 rv:Rep K H B v (rdD o hs)
 hk:hs[k]?=some []
 hl:hs.length<=8
 ho:o.length<=8
 hr:rs.length<=6
 hx:∀x∈hs,x.length<=20
 ok:Ok1 hs
def spWy (K:W.Frag):Sp:=λvs H Q _=>∃ga rs c,∃k:Nat,∃o hs vr vb vt v B,vs=[vr,vb,.int k,vt,v]/\WyA K H ga rs c k o hs vr vb vt v B/\∀H' p ra,Same H H'->Lst K H H' p ra (yO rs o hs k c)->Q (.ref p) H'
theorem BD:PyData.strOk "cruel"=true:=by decide+kernel
theorem O' (b:Bool):∀s∈jF b,PyData.strOk s=true:=λs hs=>by
 cases b with
 |false=>cases hs
 |true=>rw[am.mp hs];exact BD
abbrev Φy:List Fn:=[Dw,Ir,Dz]
theorem Pa {Z:Wc}{H:Hp}{Y:L2.St}{Q:VK}{c:C}{ρ:Rho}{ns:List Str}(so:StOk Z.K (F0 H) H Y ρ)(e:aG Z.Κ Z.Φ c ρ=.ok (.fr,kQ ns))(q:∀p H',Same H H'->H' p=some (.lst (ns.map V.str))->Q (.ref p) H'):wE Z (.bV c) Y H Q:=O6 so e λv H' s r=>by
 obtain⟨p,vs,rfl,hp,oO⟩:=r;obtain⟨rfl,_⟩:=Ji oO;rcases hp with⟨hp,_⟩|⟨_,z⟩
 ·exact q p H' s hp
 ·exact z.elim
theorem xE (h:Z.fn[j]?=some sp)(q:wA Z as Y H λvs H1=>sp (vs++[]) H1 Q Z.E):wE Z (.pR j as) Y H Q:=by show(match Z.fn[j]? with|some sp=>xX sp [] Z.E (wA Z as)|none=>wO) Y H Q;rw[h];exact q
theorem sO {Κ:List D}{Φ:List Fn}{ρ:Rho}{a b:C}{x y d:D}(ha:Ev Κ Φ a ρ x)(hb:Ev Κ Φ b ρ y)(h:jB x y=.ok d):Ev Κ Φ (.ix a b) ρ d:=by obtain⟨g1,ha⟩:=ha;obtain⟨g2,hb⟩:=hb;exact⟨gJ d g1,by rw[rQ,ha,Res.aC,hb,Res.aC];dsimp only;rw[h,Res.aC]⟩
section
variable {Z:Wc}{H:Hp}{D0:Ends}{ga:List Str}{rs:List Ru}{c:Cs}{k:Nat}{o:List Re}{hs:List (List Str)}{vr vb vt v:V}{B:Ad->Prop}
theorem Zh (a:WyA Z.K H ga rs c k o hs vr vb vt v B):k<hs.length/\hs.getD k []=[]:=by refine⟨(aq.mp a.hk).1,?_⟩;rw[bd,a.hk];rfl
theorem Zi (hr:rs.length<=6)(ho:o.length<=8){ρ:Rho}(h1:ρ[1]?=some (some (.od,.list (rs.map ruD))))(h4:ρ[4]?=some (some (.od,rdD o hs)))(h5:toAl (ρ.getD 5 none)=some (.od,.str "cruel"))(h6:ρ[6]?=some (some (.od,cD c))):∃kk,Vv [] Φy L63.OW ρ (xw kk (bnd biE sdE (bk0 rs++o) (k,c))):=by have hc:=z1e (Κ:=[]) (Φ:=Φy) (ρ:=ρ) (nt:=1) (js:=[5]) (N':=["entry","name"]) (tg:=.nm 0) (it:=.tv (.ix (.var 4) (.int 0))) (cond:=.tv (.cmp .Eq (.ix (.var 0) (.int 0)) (.var 1))) (elt:=.ix (.var 0) (.int 2)) (m:=entD) (xs:=o) (λ_=>true) (λe=>ruD e.2) (cI (g:=.od) (x:=.list (o.map entD)) (by rw[rQ,iF];rw[h4];rfl) rfl) rfl (λe=>[some (.al,entD e),some (.od,.str "cruel")]) (λe _=>by show eE (.nm 0) _ [none,toAl (ρ.getD 5 none)]=_;rw[h5];exact oY (OT e)) (λe _=>aR (k:=true) (cY (k:=true) (aJ (d:=.str "cruel") (aD rfl) aN.e rfl rfl).e (aD rfl) (by rfl)).e rfl) λe _ _=>aJ (d:=ruD e.2) (aD rfl) aN.e rfl (gZ _);rw[dr.mpr λ_ _=>rfl,show(o.map λe=>ruD e.2)=(o.map (·.2)).map ruD by rw[dz];rfl]at hc;have ha:=Ba (aD h1) (Ev.of hc) (add_list (by rw[ac,ac,ac];omega)) (by rw[<-bp];exact sM gZ _);rw[<-bp]at ha;obtain⟨kk,hb⟩:=Yv (rs:=rs++o.map (·.2)) (c:=c) (by rw[au,ac];omega);refine⟨kk,?_⟩;rw[BB,bp,DP];exact eX (aF (Ev.of ha) (aF (aD h6) aW)) rfl hb (Yt _ _)
theorem zru (hκ:Z.Κ=[])(hφ:Z.Φ=Φy)(f0:Z.fn[0]?=some (spCt Z.K))(a:WyA Z.K H ga rs c k o hs vr vb vt v B)
  (q:∀H' p ra,Same H H'->Lst Z.K H H' p ra (yO rs o hs k c)->D0.rt (.ref p) H'):wS Z L63.wy D0 [some vr,some vb,some (.int k),some vt,some v,none,none,none] H:=by
 obtain⟨hk,Zj⟩:=Zh a;have sl:∀{H':Hp} {o5 o6 o7:Option V} {r5 r6 r7:Option GD},Same H H'->Sl Z.K H' [o5,o6,o7] [r5,r6,r7]->Sl Z.K H' [some vr,some vb,some (.int k),some vt,some v,o5,o6,o7] [some (.od,kE ga),some (.od,.list (rs.map ruD)),some (.od,.int k),some (.od,pk (dY c)),some (.od,rdD o hs),r5,r6,r7]:=λ{H' o5 o6 o7 r5 r6 r7} s t=>.da (a.rr.same (B':=B) s λ_ z=>z) (.da (a.rb.same (B':=B) s λ_ z=>z) (.Zf (.da (a.rt.same (B':=B) s λ_ z=>z) (.da (a.rv.same (B':=B) s λ_ z=>z) t))));refine fD (hU hκ hφ (sl (Same.refl H) (.no (.no (.no .nil)))) (d:=.str "cruel") (aJ (aD rfl) aN.e rfl rfl).e λv5 H1 s1 r5=>?_);have ek:jB (.list (hs.map kQ)) (.int k)=.ok (.list []):=by rw[oZ kQ hk];have:=(aq.mp a.hk).2;rw[this];rfl
 refine fD (hU hκ hφ (sl s1 (.da r5 (.no (.no .nil)))) (d:=cD c) (eG (aF (aD rfl) (aF (aD rfl) (aF (sO (sO (d:=.list (hs.map kQ)) (aD rfl) aN.e rfl) (aD rfl) ek) aW))) rfl (YD a.g a.w)) λv6 H2 s2 r6=>?_);have xF:=s1.trans s2;have Pb:=r5.same (B':=AnyB) s2 λ_ z=>z;obtain⟨kk,eb⟩:=Zi (k:=k) (c:=c) (hs:=hs) a.hr a.ho (ρ:=[some (.od,kE ga),some (.od,.list (rs.map ruD)),some (.od,.int k),some (.od,pk (dY c)),some (.od,rdD o hs),some (.od,.str "cruel"),some (.od,cD c),none]) rfl rfl rfl rfl;refine fD (hU hκ hφ (sl xF (.da Pb (.da r6 (.no .nil)))) eb.e λv7 H3 s3 r7=>?_);have kR:=xF.trans s3;have Pc:=Pb.same (B':=AnyB) s3 λ_ z=>z;have Pd:=r6.same (B':=AnyB) s3 λ_ z=>z
 have ct:∀{H4:Hp} {es:List Re} {ve:V} {pn:Addr} {b:Bool} {Q:VK},Same H H4->Rep Z.K H4 AnyB ve (.list (es.map entD))->es.length<=2->H4 pn=some (.lst ((jF b).map V.str))->(∀H' r,Same H4 H'->(∀a∈r.ad,H4 a=none)->RdA Z.K H' r (o++es) (hs.set k (jF b))->Q (.ref r.t) H')->spCt Z.K [v,ve,.int k,.ref pn] H4 Q Z.E:=λ{H4 es ve pn b Q} s4 re hl hn kq=>by
  refine⟨v,ve,pn,k,o,es,hs,jF b,AnyB,rfl,(a.rv.same s4 λ_ z=>z).weak λ_ _=>trivial,re,hn,a.ok,O' b,hk,a.hl,?_,a.hx,by cases b<;>decide,λH' r s' n r'=>kq H' r s' n ?_⟩
  ·have:=a.ho;omega
  ·rw[Zj,List.nil_append]at r';exact r'
 cases hb:bnd biE sdE (bk0 rs++o) (k,c)with
 |some s=>
  rw[hb]at r7;have nn:v7≠.bA:=λz=>by subst z;obtain⟨p,vs,e,_⟩:=r7;cases e
  refine fA (mL (cG (Z:=Z) rfl ⟨true,by rw[vo nn];rfl,?_⟩));refine yN (oX (cS (xE f0 (cS (cG (v:=v) rfl (cS (oX (gE ⟨cz _,λpe he=>?_⟩))))))));refine cS (cG (v:=.int k) rfl (cS (Pa (ns:=jF s) (Sl.so (sl (kR.trans (Same.upd he)) (.da (Pc.same (B':=AnyB) (Same.upd he) λ_ z=>z) (.da (Pd.same (B':=AnyB) (Same.upd he) λ_ z=>z) (.da (r7.same (B':=AnyB) (Same.upd he) λ_ z=>z) .nil))))) ?_ λpn H5 s5 en=>gE ?_)))
  ·rw[hκ,hφ];have t7:Tt [] Φy (.tv (.cmp .Eq (.ix (.var 7) (.int 0)) (.str "for"))) [some (.od,kE ga),some (.od,.list (rs.map ruD)),some (.od,.int k),some (.od,pk (dY c)),some (.od,rdD o hs),some (.od,.str "cruel"),some (.od,cD c),some (.od,xw kk (some s))] s:=aR (cY (k:=s) (aJ (d:=.str (sd s)) (aD rfl) aN.e rfl rfl).e dR.e (by show Res.ok _=_;rw[xq,OQ])).e rfl;unfold Tt at t7;rw[HL,t7,Res.aC];cases s with
   |true=>exact gX (bJ (v_var rfl rfl) dF)
   |false=>exact gX dF
  ·refine ct (es:=[]) ((kR.trans (Same.upd he)).trans s5) ⟨pe,[],rfl,.inl ⟨s5 _ _ bE,trivial⟩,rfl⟩ (by decide) en λH6 r s6 nr rd=>?_;refine gE ⟨by rw[df];simp,λp hp=>?_⟩;have DU:=((kR.trans (Same.upd he)).trans s5).trans s6;have Jl:=(kR.trans (Same.upd he)).trans s5;have uP:Same H6 (upd H6 p (.lst [.ref r.t])):=Same.upd hp;rw[cr]at rd;refine q _ p [r] (DU.trans uP) ?_;unfold yO;rw[hb];refine⟨DU.none hp,λx hx=>?_,?_,⟨rd.same uP,trivial⟩,bE⟩
   ·obtain⟨r',mH,hx⟩:=ez.mp hx;rw[am.mp mH]at hx;exact Jl.none (nr x hx)
   ·rw[show fE [r]=r.ad from cr _];refine bg.mpr ⟨λz=>?_,rd.nd⟩;obtain⟨ob,e⟩:=rd.there p z;rw[hp]at e;cases e
 |none=>
  rw[hb]at r7;have e7:v7=.bA:=r7;subst e7;refine fA (mL (cG (Z:=Z) rfl ⟨false,rfl,iX Z ?_⟩));have ev:∀b:Bool,∀{H4:Hp},aG Z.Κ Z.Φ (.lst (.cons (.tup (.cons (.var 5) (.cons (.var 2) (.cons (.call 0 "fullest" (.cons (.var 6) (.cons (.str (sd b)) .nil))) .nil)))) .nil)) [some (.od,kE ga),some (.od,.list (rs.map ruD)),some (.od,.int k),some (.od,pk (dY c)),some (.od,rdD o hs),some (.od,.str "cruel"),some (.od,cD c),none]=.ok (.fr,.list ([z0n (k,c) b].map entD)):=λb {_}=>by rw[hκ,hφ];exact gX (bJ (lY (bJ (v_var rfl rfl) (bJ (v_var rfl rfl) (bJ (eX (aF (aD rfl) (aF dR.e aW)) rfl (Yw c b) (gZ _)) dF)))) dF)
  have Jm:∀{H4:Hp},Same H3 H4->Sl Z.K H4 [some vr,some vb,some (.int k),some vt,some v,some v5,some v6,some .bA] [some (.od,kE ga),some (.od,.list (rs.map ruD)),some (.od,.int k),some (.od,pk (dY c)),some (.od,rdD o hs),some (.od,.str "cruel"),some (.od,cD c),none]:=λ{H4} s4=>sl (kR.trans s4) (.da (Pc.same (B':=AnyB) s4 λ_ z=>z) (.da (Pd.same (B':=AnyB) s4 λ_ z=>z) (.no .nil)));have BE:∀{H4:Hp},aG Z.Κ Z.Φ (.lst (.cons (.var 5) .nil)) [some (.od,kE ga),some (.od,.list (rs.map ruD)),some (.od,.int k),some (.od,pk (dY c)),some (.od,rdD o hs),some (.od,.str "cruel"),some (.od,cD c),none]=.ok (.fr,kQ (jF true)):=λ{_}=>by rw[hκ,hφ];exact gX (bJ (v_var rfl rfl) dF)
  refine yN (oX (cS (xE f0 (cS (cG (v:=v) rfl (cS (Io (Sl.so (Jm (Same.refl H3))) (ev true (H4:=H3)) λve H4 s4 re=>?_)))))));refine cS (cG (v:=.int k) rfl (cS (Pa (Sl.so (Jm s4)) (BE (H4:=H4)) λpn H5 s5 en=>gE ?_)));refine ct (b:=true) (kR.trans (s4.trans s5)) (re.same (B':=AnyB) s5 λ_ z=>z) (by show 1<=2;decide) en λH6 r s6 nr rd=>?_;have DV:=s4.trans (s5.trans s6);refine cS (xE f0 (cS (cG (v:=v) rfl (cS (Io (Sl.so (Jm DV)) (ev false (H4:=H3)) λve' H7 s7 Zk=>?_)))));refine cS (cG (v:=.int k) rfl (cS (oX (gE ⟨cz _,λpn' hn'=>gE ?_⟩))));refine ct (b:=false) (kR.trans (DV.trans (s7.trans (Same.upd hn')))) (Zk.same (B':=AnyB) (Same.upd hn') λ_ z=>z) (by show 1<=2;decide) bE λH8 r' s8 Zl Jo=>?_;refine gE ⟨by rw[df];simp,λp hp=>?_⟩;have Jp:=s7.trans ((Same.upd (o:=.lst []) hn').trans s8);have Pe:=kR.trans (DV.trans Jp);have uP:Same H8 (upd H8 p (.lst [.ref r.t,.ref r'.t])):=Same.upd hp;refine q _ p [r,r'] (Pe.trans uP) ?_;unfold yO;rw[hb];have Zm:∀x∈r.ad,H x=none:=λx hx=>(kR.trans (s4.trans s5)).none (nr x hx);have BF:∀x∈r'.ad,H6 x=none:=λx hx=>(s7.trans (Same.upd (o:=.lst []) hn')).none (Zl x hx);have ea:fE [r,r']=r.ad++r'.ad:=by show r.ad++(r'.ad++[])=_;rw[cr]
  refine⟨Pe.none hp,λx hx=>?_,?_,⟨rd.same (Jp.trans uP),Jo.same uP,trivial⟩,bE⟩
  ·rw[ea]at hx;rcases bo.mp hx with hx|hx
   ·exact Zm x hx
   ·exact(kR.trans DV).none (BF x hx)
  ·rw[ea];refine bg.mpr ⟨λz=>?_,ij.mpr ⟨rd.nd,Jo.nd,λx hx y hy e=>?_⟩⟩
   ·rcases bo.mp z with z|z
    ·obtain⟨ob,e⟩:=rd.there p z;rw[Jp _ _ e]at hp;cases hp
    ·obtain⟨ob,e⟩:=Jo.there p z;rw[hp]at e;cases e
   ·obtain⟨ob,eo⟩:=rd.there x hx;have:=BF y hy;rw[<-e,eo]at this;cases this
end
def bN (n:Nat)(d:List Bool):List (List Str):=d.map jF++ba (n-d.length) []
theorem Pf {n:Nat}{d:List Bool}(h:d.length<=n):(bN n d).length=n:=by unfold bN;rw[au,ac,cf];omega
theorem Zn {n:Nat}{d:List Bool}(h:d.length<n):(bN n d)[d.length]?=some []:=by unfold bN;rw[e9 (by rw[ac];omega),ac,ua,dq,vg (by omega)]
theorem Jq {n:Nat}{d:List Bool}{s:Bool}(h:d.length<n):(bN n d).set d.length (jF s)=bN n (d++[s]):=by unfold bN;rw[List.set_append_right (s:=d.map jF) d.length (jF s) (by rw[ac];exact ag _),ac,ua,au,show n-d.length=(n-(d.length+ [s].length))+1 by show n-d.length=(n-(d.length+1))+1;omega,dt,List.set_cons_zero,bp,d8];rfl
theorem Pg {n:Nat}{d:List Bool}{x:List Str}(h:x∈bN n d):x=[]\/∃b,x=jF b:=by
 rcases bo.mp h with h|h
 ·obtain⟨b,_,rfl⟩:=bf.mp h;exact .inr ⟨b,rfl⟩
 ·exact .inl (rq.mp h).2
theorem Ph {n:Nat}{d:List Bool}:∀x∈bN n d,x.length<=20:=λx h=>by
 rcases Pg h with rfl|⟨b,rfl⟩
 ·decide
 ·cases b<;>decide
theorem Pj {n:Nat}{d:List Bool}:Ok1 (bN n d):=λx h s hs=>by
 rcases Pg h with rfl|⟨b,rfl⟩
 ·cases hs
 ·exact O' b s hs
def yP (n:Nat)(y:List Re×List Bool):List Re×List (List Str):=(y.1,bN n y.2)
theorem Zo {rs:List Ru}{o:List Re}{d:List Bool}{n k:Nat}{c:Cs}(hk:d.length=k)(h:k<n):yO rs o (bN n d) k c=(z1u biE sdE z0n (bk0 rs) (k,c) (o,d)).map (yP n):=by
 subst hk;unfold yO z1u;cases hb:bnd biE sdE (bk0 rs++o) (d.length,c)with
 |some s=>show[(o,_)]=[(o,bN n (d++[s]))];rw[Jq h]
 |none=>show[(_,_),(_,_)]=[(_,bN n (d++[true])),(_,bN n (d++[false]))];rw[Jq h,Jq h]
def rdK (rs:List Ru)(cs:List Cs)(k:Nat):List (List Re×List Bool):=kC biE sdE z0n (bk0 rs) ((eI cs).take k)
theorem Jr {rs:List Ru}{cs:List Cs}{k:Nat}(h:k<cs.length):rdK rs cs (k+1)=(rdK rs cs k).flatMap (z1u biE sdE z0n (bk0 rs) (k,cs[k])):=by
 unfold rdK kC;have h':k<(eI cs).length:=by rw[uJ];exact h
 rw[qb,aw h',DQ,la];rfl
theorem Js {rs:List Ru}{cs:List Cs}:∀{k:Nat},k<=cs.length->(rdK rs cs k).length<=2 ^ k/\∀y∈rdK rs cs k,y.2.length=k/\y.1.length<=k
 |0,_=>⟨ag _,λy hy=>by rw[am.mp hy];exact⟨rfl,ag _⟩⟩
 |k+1,h=>by
  obtain⟨h1,h2⟩:=Js (rs:=rs) (cs:=cs) (k:=k) (by omega);rw[Jr h]
  have st:∀y,(z1u biE sdE z0n (bk0 rs) (k,cs[k]) y).length<=2/\∀z∈z1u biE sdE z0n (bk0 rs) (k,cs[k]) y,z.2.length=y.2.length+1/\z.1.length<=y.1.length+1:=λy=>by
   unfold z1u;cases bnd biE sdE (bk0 rs++y.1) (k,cs[k])with
   |some s=>refine⟨by show 1<=2;decide,λz hz=>?_⟩;rw[am.mp hz];exact⟨au,Nat.le_succ _⟩
   |none=>
    refine⟨ag _,λz hz=>?_⟩;rcases ak.mp hz with rfl|hz
    ·exact⟨au,kw au⟩
    ·rw[am.mp hz];exact⟨au,kw au⟩
  refine⟨?_,λz hz=>?_⟩
  ·have:∀l:List (List Re×List Bool),(l.flatMap (z1u biE sdE z0n (bk0 rs) (k,cs[k]))).length<=l.length*2:=fun l=>by
    induction l with
    |nil=>exact ag _
    |cons y l ih=>rw[im,au,bv];have:=(st y).1;omega
   rw[o8];exact cg (this _) (Nat.mul_le_mul_right 2 h1)
  ·obtain⟨y,hy,hz⟩:=ez.mp hz;obtain⟨a,b⟩:=h2 y hy;obtain⟨c,d⟩:=(st y).2 z hz;omega
theorem zgm (I:Addr->Nat->L2.St->Hp->Prop)(hit:∀R,(∀a H1,SqL Z.K H1 a vs->I a 0 Y H1->R (.ref a) H1)->wE Z it Y H R)(sq:∀a k σ' H',I a k σ' H'->SqL Z.K H' a vs)
  (one:∀a k v σ' H',vs[k]?=some v->I a k σ' H'->∀D2,D2.rt=D0.rt->(∀fG H3,I a (k+1) fG H3->D2.nx fG H3)->wS Z b D2 (σ'.set i (some v)) H') (q:∀a σ' H',I a vs.length σ' H'->D0.nx σ' H'):wS Z (.l' i it b) D0 Y H:=by
 refine hit _ λa H1 h1 i1=>⟨a,rfl,⟨vs,h1⟩,λk m σ' H'=>m=vs.length-k/\k<=vs.length/\I a k σ' H',⟨_,rfl,cz _,i1⟩,?_⟩
 rintro k m σ' H' ⟨rfl,hk,ik⟩
 have hs:=sq a k σ' H' ik;by_cases cE:k<vs.length
 ·refine .inr ⟨⟨vs,vs[k],hs,aw cE⟩,λeC H2=>vs.length-(k+1)=vs.length-(k+1)/\k+1<=vs.length/\I a (k+1) eC H2,λeC H2 w=>⟨_,by omega,w⟩,λy H2 hy=>?_⟩;obtain⟨e2,hy⟩:=hy;rw[e2];exact one a k y σ' H' (hy _ hs) ik _ rfl λfG H3 w=>⟨rfl,cE,w⟩
 ·have :k=vs.length:=by omega
  subst this;exact .inl ⟨⟨vs,hs,ag _⟩,q a σ' H' ik⟩
theorem Zp {Y:L2.St}(hij:i≠j)(hl:σ'.length=Y.length)(e1:σ'[i]?=some (some u))(e2:σ'[j]?=some (some w))(r:∀k,k≠i->k≠j->σ'[k]?=Y[k]?):σ'=(Y.set i (some u)).set j (some w):=by
 refine O2 (by rw[cu];exact hl) e2 λk hk=>?_;by_cases z:k=i
 ·subst z;rw[e1,cq (hl▸(aq.mp e1).1)]
 ·rw[r k z hk,ci (Ne.symm z)]
theorem RdL.at {K:W.Frag}{H:Hp}{j:Nat}:∀{ra:List Ra} {xs:List (List Re×List (List Str))},RdL K H ra xs->∀{r},ra[j]?=some r->∃x,xs[j]?=some x/\RdA K H r x.1 x.2
 | [],[],_,_,e=>by cases e
 |r::ra,x::xs,h,_,e=>by
  cases j with
  |zero=>cases e;exact⟨x,rfl,h.1⟩
  |succ j=>exact RdL.at h.2 e
structure BH (K:W.Frag)(H0 H:Hp)(p0:Addr)(ra0:List Ra)(p:Addr)(ra:List Ra)(xs:List (List Re×List (List Str))):Prop where
 nd:(p::fE ra).Nodup
 rd:RdL K H ra xs
 ls:H p=some (.lst (ra.map λr=>.ref r.t))
 nw:∀a∈p::fE ra,a∈p0::fE ra0\/H0 a=none
def dH (cs:List Cs):List D:=cs.map λc=>pk (dY c)
structure WoA (K:W.Frag)(H:Hp)(ga:List Str)(rs:List Ru)(cs:List Cs)(p0:Addr)(ra0:List Ra)(vr vb vk:V)(B:Ad->Prop):Prop where
 g:GA ga
 w:∀c∈cs,Wf ga c
 rr:Rep K H B vr (kE ga)
 rb:Rep K H B vb (.list (rs.map ruD))
 rk:Rep K H B vk (.list (dH cs))
 hl:cs.length<=6
 hr:rs.length<=6
 fa:BH K H H p0 ra0 p0 ra0 [([],bN cs.length [])]
def spWo (K:W.Frag):Sp:=λvs H Q _=>∃ga rs cs p0 ra0 vr vb vk B,vs=[vr,vb,vk,.ref p0]/\WoA K H ga rs cs p0 ra0 vr vb vk B/\∀H' p ra,Same H H'->BH K H H' p0 ra0 p ra ((rdK rs cs cs.length).map (yP cs.length))->Q (.ref p) H'
theorem Pk (rs:List Ru)(y:List Re×List Bool)(c:Ce):(z1u biE sdE z0n (bk0 rs) c y).length<=2:=by
 unfold z1u;cases bnd biE sdE (bk0 rs++y.1) c with
 |some s=>show 1<=2;decide
 |none=>exact ag _
section
variable {Z:Wc}{H:Hp}{D0:Ends}{ga:List Str}{rs:List Ru}{cs:List Cs}{p0:Addr}{ra0:List Ra}{vr vb vk:V}{B:Ad->Prop}
theorem zoz (hκ:Z.Κ=[])(hφ:Z.Φ=[])(f0:Z.fn[0]?=some (spWy Z.K))(a:WoA Z.K H ga rs cs p0 ra0 vr vb vk B)
  (q:∀H' p ra,Same H H'->BH Z.K H H' p0 ra0 p ra ((rdK rs cs cs.length).map (yP cs.length))->D0.rt (.ref p) H'):wS Z L63.wo D0 [some vr,some vb,some vk,some (.ref p0),none,none,none,none] H:=by
 have sl:Sl Z.K H [some vr,some vb,some vk,some (.ref p0),none,none,none,none] [none,none,some (.od,.list (dH cs)),none,none,none,none,none]:=.no (.no (.da a.rk (.no (.no (.no (.no (.no .nil)))))));have ev:evW [] [] (.enum (.var 2)) [none,none,some (.od,.list (dH cs)),none,none,none,none,none]=.ok (.al,cs.zipIdx.map λx=>.tuple [.int x.2,pk (dY x.1)]):=by rw[CW (x:=.list (dH cs)) (aD rfl) (NU (by unfold dH;rw[ac];have:=a.hl;omega))];unfold dH;rw[yx (m:=λc=>pk (dY c))]
 refine fA (zli hκ hφ sl ev (λk σ' H'=>Same H H'/\∃p ra o4 o5 o6 o7,σ'=[some vr,some vb,some vk,some (.ref p),o4,o5,o6,o7]/\BH Z.K H H' p0 ra0 p ra ((rdK rs cs k).map (yP cs.length))) (λH1 s1=>⟨s1,p0,ra0,_,_,_,_,rfl,a.fa.nd,a.fa.rd.same s1,s1 _ _ a.fa.ls,a.fa.nw⟩) ?_ ?_)
 ·rintro k y d σ' H' H2 D2 hd ⟨s',p,ra,o4,o5,o6,o7,rfl,fa⟩ s2 ry hrt nx
  rw[bj]at hd;obtain⟨x,hx,rfl⟩:=b9.mp hd;have hk:k<cs.length:=by have:=(aq.mp hx).1;rw[f8]at this;exact this
  have ex:x=(cs[k],k):=by have:=(aq.mp hx).2;rw[mh,oz]at this;exact this.symm
  subst ex;refine zw9 ry (by simp) (by simp) (by decide) λeC u w hlen e4 e5 ru bI rest=>?_;have Zq:=Zp (by decide) hlen e4 e5 rest;subst Zq;cases ru;show wS Z (.seq (.asg 6 (.lst .nil)) L63.Jg) D2 [some vr,some vb,some vk,some (.ref p),some (.int k),some w,o6,o7] H2;refine fD (oX (gE ⟨cz _,λp6 h6=>?_⟩));show wS Z L63.Jg D2 [some vr,some vb,some vk,some (.ref p),some (.int k),some w,some (.ref p6),o7] (upd H2 p6 (.lst []));have xG:=s'.trans s2;obtain⟨lc,ly⟩:=Js (rs:=rs) (cs:=cs) (jc hk);have pow:2 ^ k<=2 ^ 6:=l5 (by decide) (by have:=a.hl;omega);refine fA (zgm (vs:=ra.map λr=>.ref r.t) (λb j σ' H'=>b=p/\Same H2 H'/\∃rb o7,σ'=[some vr,some vb,some vk,some (.ref p),some (.int k),some w,some (.ref p6),o7]/\(p6::fE rb).Nodup/\(∀x∈fE rb,H2 x=none)/\RdL Z.K H' rb ((((rdK rs cs k).take j).flatMap (z1u biE sdE z0n (bk0 rs) (k,cs[k]))).map (yP cs.length))/\H' p6=some (.lst (rb.map λr=>.ref r.t))) (λR hR=>cG rfl (hR p _ (SqL.of ((Same.upd h6) _ _ (s2 _ _ fa.ls))) ⟨rfl,Same.upd h6,[],_,rfl,bg.mpr ⟨(λz=>by cases z),gf⟩,(λ_ z=>by cases z),trivial,bE⟩)) (λb j σ' H' h=>?_) ?_ ?_)
  ·obtain⟨rfl,s3,_⟩:=h;exact SqL.of (s3 _ _ (s2 _ _ fa.ls))
  ·rintro b j v σ' H3 hv ⟨rfl,s3,rb,Zr,rfl,nd,nw,rl,BJ⟩ D3 Zs Zt
   rw[bj]at hv;obtain⟨r,hr,rfl⟩:=b9.mp hv;have pT:=s2.trans s3;obtain⟨x,hx,rx⟩:=(fa.rd.same pT).at hr;rw[bj]at hx;obtain⟨y,hy,rfl⟩:=b9.mp hx;obtain⟨l1,l2⟩:=ly y (cj hy);have yQ:=s'.trans pT;show wS Z (.seq (.ext (.raw 6) (.pR 0 (.cons (.raw 0) (.cons (.raw 1) (.cons (.raw 4) (.cons (.raw 5) (.cons (.raw 7) .nil))))))) .nil) D3 [some vr,some vb,some vk,some (.ref b),some (.int k),some w,some (.ref p6),some (.ref r.t)] H3;have wa:WyA Z.K H3 ga rs cs[k] k y.1 (bN cs.length y.2) vr vb w (.ref r.t) AnyB:=⟨a.g,a.w _ (dh hk),(a.rr.same yQ λ_ z=>z).weak λ_ _=>trivial,(a.rb.same yQ λ_ z=>z).weak λ_ _=>trivial,bI.same s3 λ_ z=>z,rx.rep,by rw[<-l1];exact Zn (by rw[l1];exact hk),by rw[Pf (by rw[l1];exact jc hk)];have:=a.hl;omega,by have:=a.hl;omega,a.hr,Ph,Pj⟩;refine fA (O5 (cG rfl ⟨.inl ⟨rfl,_,SqL.of BJ⟩,xE f0 (cS (cG rfl (cS (cG rfl (cS (cG rfl (cS (cG rfl (cS (cG rfl (gE ?_)))))))))))⟩));refine⟨ga,rs,cs[k],k,y.1,bN cs.length y.2,vr,vb,w,.ref r.t,AnyB,rfl,wa,λH4 p4 r4 s4 l4=>?_⟩;obtain⟨n4,Jt,DW,Ju,DX⟩:=l4;rw[Zo l1 hk]at Ju;have xH:=s4 _ _ BJ;refine⟨p6,p4,_,_,rfl,rfl,xH,DX,?_,?_⟩
   ·rw[ac,ac,rl.len,Ju.len,ac,ac,df]
    have h1:(((rdK rs cs k).take j).flatMap (z1u biE sdE z0n (bk0 rs) (k,cs[k]))).length<=2*(rdK rs cs k).length:=by
     have:∀l:List (List Re×List Bool),(l.flatMap (z1u biE sdE z0n (bk0 rs) (k,cs[k]))).length<=2*l.length:=λl=>by
      induction l with
      |nil=>exact ag _
      |cons y l ih=>rw[im,au,bv];have:=Pk rs y (k,cs[k]);omega
     have h:=this ((rdK rs cs k).take j);rw[iz]at h;omega
    have h2:=Pk rs y (k,cs[k]);have h3:(2:Nat) ^ 6=64:=by decide
    have h4:(z1u biE sdE z0n (bk0 rs) (k,cs[k]) (y.1,y.2)).length<=2:=h2;omega
   have uP:∀{b:Addr} {ob:HO},b≠p6->H4 b=some ob->upd H4 p6 (.lst ((rb.map λr=>V.ref r.t)++(r4.map λr=>.ref r.t))) b=some ob:=λhb e=>by rw[aL hb];exact e
   obtain⟨m1,m2⟩:=bg.mp nd;have a6:∀x∈fE r4,x≠p6:=λx hx z=>by have:=Jt x hx;rw[z,BJ]at this;cases this
   refine Zt _ _ ⟨rfl,λb ob e=>uP (λz=>by rw[z,h6]at e;cases e) (s4 _ _ (s3 _ _ e)),rb++r4,_,rfl,?_,λx hx=>?_,?_,by rw[bE,bp]⟩
   ·rw[show fE (rb++r4)=fE rb++fE r4 from jy,<-List.cons_append];refine ij.mpr ⟨nd,(bg.mp DW).2,λx hx z hz e=>?_⟩;subst e;rcases ak.mp hx with rfl|hx
    ·exact a6 _ hz rfl
    ·obtain⟨ob,e⟩:=rl.there x hx;have:=Jt x hz;rw[e]at this;cases this
   ·rw[show fE (rb++r4)=fE rb++fE r4 from jy]at hx;rcases bo.mp hx with hx|hx
    ·exact nw x hx
    ·exact s3.none (Jt x hx)
   ·have tk:(rdK rs cs k).take (j+1)=(rdK rs cs k).take j++[y]:=by rw[qb,hy];rfl
    rw[tk,jy,bp];refine RdL.app ((rl.same s4).keep (λx hx ob e=>uP (λz=>by rw[z]at hx;exact m1 hx) e) λx ob e z=>uP (λw=>by rw[w,xH]at e;cases e;exact z) e) ?_;have:[y].flatMap (z1u biE sdE z0n (bk0 rs) (k,cs[k]))=z1u biE sdE z0n (bk0 rs) (k,cs[k]) (y.1,y.2):=cr _;rw[this];exact Ju.keep (λx hx ob e=>uP (a6 x hx) e) λx ob e z=>uP (λw=>by rw[w,xH]at e;cases e;exact z) e
  ·rintro b σ' H3 ⟨rfl,s3,rb,Zr,rfl,nd,nw,rl,BJ⟩
   refine fD (cG (v:=.ref p6) rfl (iX Z ?_));refine nx _ _ ⟨xG.trans s3,p6,rb,_,_,_,_,rfl,nd,?_,BJ,λx hx=>.inr ?_⟩ (s2.trans s3)
   ·have:(rdK rs cs k).take (ra.map fun r=>V.ref r.t).length=rdK rs cs k:=by
     rw[k8];rw[ac,fa.rd.len,ac];exact ag _
    rw[this,<-Jr hk]at rl;exact rl
   ·rcases ak.mp hx with rfl|hx
    ·exact xG.none h6
    ·exact xG.none (nw x hx)
 ·rintro σ' H' ⟨s',p,ra,o4,o5,o6,o7,rfl,fa⟩
  rw[ac,f8]at fa;exact yN (cG (v:=.ref p) rfl (q H' p ra s' fa))
end
def BK (rs:List Ru):D:=.dict [(.str "cruel",.list (rs.map ruD))]
structure RgA (K:W.Frag)(H:Hp)(ga:List Str)(rs:List Ru)(cs:List Cs)(va vb vt:V)(B:Ad->Prop):Prop where
 g:GA ga
 w:∀c∈cs,Wf ga c
 ra:Rep K H B va (.list (dA ga))
 rb:Rep K H B vb (BK rs)
 rt:Rep K H B vt (.list (dH cs))
 hl:cs.length<=6
 hr:rs.length<=6
def rdX (rs:List Ru)(cs:List Cs):List (List Re×List (List Str)):=(rdK rs cs cs.length).map (yP cs.length)
def spRd (K:W.Frag):Sp:=λvs H Q _=>∃ga rs cs va vb vt B,vs=[va,vb,vt]/\RgA K H ga rs cs va vb vt B/\∀H' p ra,Same H H'->Lst K H H' p ra (rdX rs cs)->Q (.ref p) H'
abbrev Φr:List Fn:=[Dx,DA]
theorem Zu {ga:List Str}{cs:List Cs}(w:∀c∈cs,Wf ga c){ρ:Rho}(h0:toAl (ρ.getD 0 none)=some (.od,.list (dA ga)))(h2:ρ[2]?=some (some (.od,.list (dH cs)))):aG [] Φr (.comp 1 [0] ["thing","act"] (.nm 0) (.tv (.var 2)) .nil (.call 0 "of_facts" (.cons (.var 1) (.cons (.var 0) .nil)))) ρ=.ok (.fr,.list (dH cs)):=by have hc:=z1e (Κ:=[]) (Φ:=Φr) (ρ:=ρ) (nt:=1) (js:=[0]) (N':=["thing","act"]) (tg:=.nm 0) (it:=.tv (.var 2)) (cond:=.nil) (elt:=.call 0 "of_facts" (.cons (.var 1) (.cons (.var 0) .nil))) (m:=λc=>pk (dY c)) (xs:=cs) (λ_=>true) (λc=>pk (dY c)) (cI (g:=.od) (x:=.list (dH cs)) (by rw[iF];rw[h2];rfl) rfl) rfl (λc=>[some (.al,pk (dY c)),some (.od,.list (dA ga))]) (λc _=>by show eE (.nm 0) _ [none,toAl (ρ.getD 0 none)]=_;rw[h0];exact oY (cP _)) (λ_ _=>rS) λc hc _=>eX (aF (aD rfl) (aF (aD rfl) aW)) rfl (YG (w c hc)) (cP _);rw[dr.mpr λ_ _=>rfl]at hc;exact hc
theorem Zv {Z:Wc}{Y:L2.St}{H:Hp}{Q:VK}{j:Nat}{n:Int}(h:Z.gi[j]?=some n)(q:Q (.int n) H):wE Z (.gi j) Y H Q:=by show(match Z.gi[j]? with|some n=>(λ(_:L2.St) (H:Hp) (Q:VK)=>Q (.int n) H)|none=>wO) Y H Q;rw[h];exact q
theorem Zw {ga:List Str}{j:Nat}{d:D}(h:(dA ga)[j]?=some d):(j<(fo2++ga).length/\∃n,d=.tuple [.str "fact",.str n])\/(j=(fo2++ga).length/\d=kE ga):=by
 unfold dA uC at h;rw[bj]at h;obtain⟨o,ho,rfl⟩:=b9.mp h;by_cases hj:j<((fo2++ga).map some).length
 ·rw[fq hj]at ho;rw[ac]at hj;rw[bj]at ho;obtain⟨n,_,rfl⟩:=b9.mp ho;exact .inl ⟨hj,n,rfl⟩
 ·rw[e9 (by omega)]at ho;rw[ac]at hj ho;have:j-(fo2++ga).length< [none (α:=Str)].length:=(aq.mp ho).1;have e:j-(fo2++ga).length=0:=by have:j-(fo2++ga).length<1:=this;omega
  rw[e]at ho;cases ho;exact .inr ⟨by omega,rfl⟩
theorem Pl (ga:List Str):(dA ga).length=(fo2++ga).length+1:=by unfold dA uC;rw[ac,au,ac];rfl
section
variable {Z:Wc}{H:Hp}{D0:Ends}{ga:List Str}{rs:List Ru}{cs:List Cs}{va vb vt:V}{B:Ad->Prop}
theorem zpd (hκ:Z.Κ=[])(hφ:Z.Φ=Φr)(hg:Z.gi[0]?=some 8)(f0:Z.fn[0]?=some (spWo Z.K))(a:RgA Z.K H ga rs cs va vb vt B)
  (q:∀H' p ra,Same H H'->Lst Z.K H H' p ra (rdX rs cs)->D0.rt (.ref p) H'):wS Z L63.rg D0 [some va,some vb,some vt,none,none,none] H:=by
 have sl:∀{H':Hp} {o3 o4 o5:Option V} {r3 r4 r5:Option GD},Same H H'->Sl Z.K H' [o3,o4,o5] [r3,r4,r5]->Sl Z.K H' [some va,some vb,some vt,o3,o4,o5] [some (.od,.list (dA ga)),some (.od,BK rs),some (.od,.list (dH cs)),r3,r4,r5]:=λ{H' o3 o4 o5 r3 r4 r5} s t=>.da (a.ra.same (B':=B) s λ_ z=>z) (.da (a.rb.same (B':=B) s λ_ z=>z) (.da (a.rt.same (B':=B) s λ_ z=>z) t));have hlen:lI "len" [.list (dH cs)]=.ok (.int cs.length):=by show Res.ok (PyData.int ((dH cs).length:Nat))=_;unfold dH;rw[ac]
 have hl:=a.hl;refine fA (mL (X6 (hU hκ hφ (sl (Same.refl H) (.no (.no (.no .nil)))) (d:=.int cs.length) (eG (aF (aD rfl) (aF (gY (aF (aD rfl) aW) hlen rfl).e aW)) rfl (YH hl)) λv1 H1 s1 r1=>Zv hg (Oh (B':=AnyB) (dy:=.int 8) (b:=false) r1 rfl (by show Res.ok (decide ((8:Int)<cs.length))=_;rw[vo (by omega)]) λH2 s2=>⟨false,rfl,iX Z ?_⟩))));have xF:=s1.trans s2;refine fD (hU hκ hφ (sl xF (.no (.no (.no .nil)))) (Ev.of (Zu a.w rfl rfl)) λv3 H3 s3 r3=>?_);have yQ:=xF.trans s3;have lc:∀{H4:Hp} {Q:VK},Same H3 H4->(∀l ws H5,H4 l=none->Same H4 H5->H5 l=some (.lst (ws.map .ref))->(∀w∈ws,H4 w=none)->(l::ws).Nodup->dG H5 ws (cs.map λ_=>[])->Q (.ref l) H5)->wE Z (.lc 1 [] ["thing"] (.nm 0) false (.raw 3) .nil (.lst .nil)) [some va,some vb,some vt,some v3,none,none] H4 Q:=λ{H4 Q} s4 kq=>by refine Oj (cG rfl ⟨AnyB,.list (dH cs),dH cs,r3.same s4 λ_ z=>z,rfl,λJ wk=>?_⟩);refine zji (L:=cs) (e:=λc=>pk (dY c)) (f:=λ_=>[]) wk (λc hc u H5 N M s5 ru hM=>?_) λl ws H5 uK s5 e5 wn nd hw=>kq l ws H5 uK s5 e5 wn nd hw;refine zl9 (Y:=[none]) ru (by decide) λσ' u' hlen e0 O7 rest=>⟨O3 hlen rest,?_⟩;show wE {Z with E:=λ_ _ _=>False,xf:=none} (.lst .nil) σ' H5 M;exact oX (gE ⟨cz _,λp hp=>hM p _ (Same.upd hp) hp bE⟩)
 refine fD (oX (cS (Oi (cS (oX (gE ⟨cz _,λpe he=>?_⟩))))));refine cS (lc (Same.upd he) λl ws H5 uK s5 el wn nd hw=>gE ⟨by rw[df];simp,λt ht=>gE ⟨by rw[df];simp,λp0 Jv=>?_⟩⟩);have uE:Same H3 (upd H3 pe (.lst [])):=Same.upd he;have uT:Same H5 (upd H5 t (.tup [.ref pe,.ref l])):=Same.upd ht;have uP:Same (upd H5 t (.tup [.ref pe,.ref l])) (upd (upd H5 t (.tup [.ref pe,.ref l])) p0 (.lst [.ref t])):=Same.upd Jv;have Jw:=uE.trans s5;have eP:upd (upd H5 t (.tup [.ref pe,.ref l])) p0 (.lst [.ref t]) p0=some (.lst [.ref t]):=bE;have eT:upd (upd H5 t (.tup [.ref pe,.ref l])) p0 (.lst [.ref t]) t=some (.tup [.ref pe,.ref l]):=uP _ _ bE
 have tn:∀x∈pe::l::ws,∃ob,H5 x=some ob:=λx hx=>by
  rcases ak.mp hx with rfl|hx
  ·exact⟨_,s5 _ _ bE⟩
  rcases ak.mp hx with rfl|hx
  ·exact⟨_,el⟩
  ·obtain⟨y,ey⟩:=hw.there x hx;exact⟨_,ey⟩
 have pn:∀x∈l::ws,x≠pe:=λx hx z=>by
  have:(upd H3 pe (.lst [])) x=none:=by
   rcases ak.mp hx with rfl|hx
   ·exact uK
   ·exact wn x hx
  rw[z,bE]at this;cases this
 have DW:(⟨t,pe,l,ws⟩:Ra).ad.Nodup:=bg.mpr ⟨(λz=>by obtain⟨ob,e⟩:=tn t z;rw[ht]at e;cases e),bg.mpr ⟨λz=>pn pe z rfl,nd⟩⟩;have sA:=Jw.trans (uT.trans uP)
 have Zx:p0∉(⟨t,pe,l,ws⟩:Ra).ad:=λz=>by
  have:∃ob,upd H5 t (.tup [.ref pe,.ref l]) p0=some ob:=by
   rcases ak.mp z with z|z
   ·exact⟨_,by rw[z];exact bE⟩
   ·obtain⟨ob,e⟩:=tn p0 z;exact⟨ob,uT _ _ e⟩
  obtain⟨ob,e⟩:=this;rw[Jv]at e;cases e
 have Pm:=hw.keep (H':=upd (upd H5 t (.tup [.ref pe,.ref l])) p0 (.lst [.ref t])) λw _ o e=>uP _ _ (uT _ _ e);have Pn:upd (upd H5 t (.tup [.ref pe,.ref l])) p0 (.lst [.ref t]) l=some (.lst (ws.map .ref)):=uP _ _ (uT _ _ el);have Po:upd (upd H5 t (.tup [.ref pe,.ref l])) p0 (.lst [.ref t]) pe=some (.lst []):=uP _ _ (uT _ _ (s5 _ _ bE))
 have nA:∀x∈p0::fE [⟨t,pe,l,ws⟩],H3 x=none:=λx hx=>by
  rcases ak.mp hx with rfl|hx
  ·exact(Jw.trans uT).none Jv
  rw[show fE [⟨t,pe,l,ws⟩]=(⟨t,pe,l,ws⟩:Ra).ad from cr _]at hx;rcases ak.mp hx with rfl|hx
  ·exact Jw.none ht
  rcases ak.mp hx with rfl|hx
  ·exact he
  rcases ak.mp hx with rfl|hx
  ·exact uE.none uK
  ·exact uE.none (wn x hx)
 generalize upd (upd H5 t (.tup [.ref pe,.ref l])) p0 (.lst [.ref t])=HA at eP eT sA Pm Pn Po ⊢;have Zy:bN cs.length []=cs.map λ_=>[]:=by show ba cs.length ([]:List Str)=_;rw[List.map_const']
 have fa:∀{H':Hp},Same HA H'->BH Z.K H' H' p0 [⟨t,pe,l,ws⟩] p0 [⟨t,pe,l,ws⟩] [([],bN cs.length [])]:=λ{H'} s=>⟨by rw[show fE [⟨t,pe,l,ws⟩]=(⟨t,pe,l,ws⟩:Ra).ad from cr _];exact bg.mpr ⟨Zx,DW⟩,⟨RdA.same ⟨eT,⟨[],Po,rfl⟩,Pn,by rw[Zy];exact Pm,DW,Pj⟩ s,trivial⟩,s _ _ eP,λx hx=>.inl hx⟩;have Jx:=yQ.trans sA;obtain⟨aa,vs,rfl,hq,oO⟩:=pJ (a.ra.same (B':=B) Jx λ_ z=>z);have Zz:∀{H':Hp},Same HA H'->SqL Z.K H' aa vs:=λs=>SqL.same hq s;have lv:=oO.length;refine fA (zgq (vs:=vs) (λb j σ' H'=>b=aa/\Same HA H'/\∃o5,(j<=(fo2++ga).length/\σ'=[some (.ref aa),some vb,some vt,some v3,some (.ref p0),o5])\/(j=(fo2++ga).length+1/\∃p ra,σ'=[some (.ref aa),some vb,some vt,some v3,some (.ref p),o5]/\Lst Z.K H H' p ra (rdX rs cs))) (λR hR=>cG rfl (hR aa HA hq ⟨rfl,Same.refl HA,none,.inl ⟨cz _,rfl⟩⟩)) (λb j σ' H' h=>by obtain⟨rfl,s,_⟩:=h;exact Zz s) ?_ ?_)
 ·rintro b j v σ' H' hv ⟨rfl,sH,o5,hh⟩ D2 hrt nx
  obtain⟨d,hd,rd⟩:=Reps.oH oO hv;have rd:=rd.same (B':=B) sH λ_ z=>z;rcases hh.symm with⟨hj,_⟩|⟨hj,rfl⟩
  ·exfalso;have:=(aq.mp hd).1;rw[Pl]at this;omega
  refine Jh rd (by simp) λw bI=>?_;show wS Z _ D2 [some (.ref b),some vb,some vt,some v3,some (.ref p0),some w] H';have BL:∀{H6:Hp},Same H' H6->Sl Z.K H6 [some (.ref b),some vb,some vt,some v3,some (.ref p0),some w] [some (.od,.list (dA ga)),some (.od,BK rs),some (.od,.list (dH cs)),none,none,some (.od,d)]:=λ{H6} s6=>sl (Jx.trans (sH.trans s6)) (.no (.no (.da (bI.same (B':=AnyB) s6 λ_ z=>z) .nil)));rcases Zw hd with⟨Pp,n,rfl⟩|⟨Pp,rfl⟩
  ·refine fA (mL (nD hκ hφ (BL (Same.refl H')) (b:=false) (aR (cY (k:=false) (aJ (d:=.str "fact") (aD rfl) aN.e rfl rfl).e dR.e (by rfl)).e rfl) λH6 s6=>?_));refine fA (mL (nD hκ hφ (BL s6) (b:=false) (aR (cY (k:=false) (aJ (d:=.str "fact") (aD rfl) aN.e rfl rfl).e dR.e (by rfl)).e rfl) λH7 s7=>iX Z (iX Z ?_)));exact iX Z (nx _ _ ⟨rfl,sH.trans (s6.trans s7),_,.inl ⟨Pp,rfl⟩⟩)
  ·refine fA (mL (nD hκ hφ (BL (Same.refl H')) (b:=false) (aR (cY (k:=false) (aJ (d:=.str "open") (aD rfl) aN.e rfl rfl).e dR.e (by rfl)).e rfl) λH6 s6=>?_));refine fA (mL (nD hκ hφ (BL s6) (b:=true) (aR (cY (k:=true) (aJ (d:=.str "open") (aD rfl) aN.e rfl rfl).e dR.e (by rfl)).e rfl) λH7 s7=>?_));have yR:=s6.trans s7;refine fD (xE f0 (cS (cG rfl (cS (hU hκ hφ (BL yR) (d:=.list (rs.map ruD)) ?_ λZA H8 s8 ZC=>?_)))))
   ·have e1:Ev [] Φr (.ix (.var 5) (.int 1)) [some (.od,.list (dA ga)),some (.od,BK rs),some (.od,.list (dH cs)),none,none,some (.od,kE ga)] (.str "cruel"):=(aJ (aD rfl) aN.e rfl rfl).e;obtain⟨ys,ea,ed⟩:=aF e1 (aF (Ev.of (gX dF)) aW);refine⟨gJ (.list (rs.map ruD)) .al,?_⟩;rw[A',iF];show(Res.ok (G.od,BK rs)>>=λx=>_)=_;rw[Res.aC,ea,Res.aC,ed];rfl
   refine cS (cG rfl (cS (cG rfl (gE ⟨ga,rs,cs,p0,[⟨t,pe,l,ws⟩],w,ZA,v3,AnyB,rfl,⟨a.g,a.w,bI.same (yR.trans s8) λ_ z=>z,ZC,r3.same (sA.trans (sH.trans (yR.trans s8))) λ_ z=>z,hl,a.hr,fa (sH.trans (yR.trans s8))⟩,λH9 p ra s9 f9=>?_⟩))));refine iX Z (iX Z (nx _ _ ⟨rfl,(sH.trans (yR.trans s8)).trans s9,_,.inr ⟨by omega,p,ra,rfl,?_⟩⟩));have Jy:=sA.trans (sH.trans (yR.trans s8))
   have old:∀x∈p::fE ra,H x=none:=λx hx=>by
    rcases f9.nw x hx with z|z
    ·exact yQ.none (nA x z)
    ·exact(yQ.trans Jy).none z
   exact⟨old p (.head _),λx hx=>old x (.tail _ hx),f9.nd,f9.rd,f9.ls⟩
 ·rintro b σ' H' ⟨rfl,sH,o5,hh⟩
  rw[lv,Pl]at hh;rcases hh with⟨hj,_⟩|⟨_,p,ra,rfl,hL⟩
  ·omega
  ·exact yN (cG (v:=.ref p) rfl (q H' p ra (Jx.trans sH) hL))
end
abbrev Φ63:List Fn:=[yI,IH,DD,kP,IE,Bp,zax,z4u]
theorem ZD {xs:List Int}{ρ:Rho}(h0:ρ[0]?=some (some (.od,.list (xs.map .int)))):∃b,Vv [] Φ63 (.cmp .Eq (.bin .Mod (L63.ca 0) (.int 2)) (.int 0)) ρ (.bool b):=by obtain⟨c,e⟩:=yL xs (k:=0) (by decide);exact⟨_,cY (cJ (eG (aF (aD h0) (aF aN.e aW)) rfl e) aN.e (lX (by decide)) rfl).e aN.e rfl⟩
theorem ZE {xs:List Int}{ρ:Rho}(h0:ρ[0]?=some (some (.od,.list (xs.map .int)))):∃ga,GA ga/\Ev [] Φ63 (.sl (.lst (.cons (.str "ga") (.cons (.str "gb") .nil))) .nil (.tv (.bin .Add (.int 1) (.bin .Mod (.bin .FloorDiv (L63.ca 0) (.int 2)) (.int 2))))) ρ (.list (ga.map .str)):=by
 obtain⟨c,e⟩:=yL xs (k:=0) (by decide);have r:=fm (c/2) (b:=2) (by decide);have r2:=gv (c/2) (b:=2) (by decide);have v:Vv [] Φ63 (.bin .Add (.int 1) (.bin .Mod (.bin .FloorDiv (L63.ca 0) (.int 2)) (.int 2))) ρ (.int (1+c/2%2)):=cJ aN.e (cJ (cJ (eG (aF (aD h0) (aF aN.e aW)) rfl e) aN.e (IM (by decide) (by decide)) rfl).e aN.e (lX (by decide)) rfl).e rfl rfl;have:c/2%2=0\/c/2%2=1:=by omega
 rcases this with z|z
 ·rw[z]at v;exact⟨_,.inl rfl,sJ (Ev.of (gX (bJ dR (bJ dR dF)))) yb (Dk v.e) rfl⟩
 ·rw[z]at v;exact⟨_,.inr rfl,sJ (Ev.of (gX (bJ dR (bJ dR dF)))) yb (Dk v.e) rfl⟩
theorem ZF {ga:List Str}(hg:GA ga){ρ:Rho}(h2:ρ[2]?=some (some (.od,.list (fo2.map .str))))(h3:ρ[3]?=some (some (.od,.list (ga.map .str)))):Ev [] Φ63 (.bin .Add (.comp 1 [] ["_law_name"] (.nm 0) (.tv (.bin .Add (.var 2) (.var 3))) .nil (.tup (.cons (.str "fact") (.cons (.var 0) .nil)))) (.lst (.cons (.tup (.cons (.str "open") (.cons (.str "cruel") (.cons (.eD "tuple" (.tv (.var 2))) (.cons (.eD "tuple" (.tv (.var 3))) .nil))))) .nil))) ρ (.list (dA ga)):=by
 have gl:=OL hg;have ea:=Ba (Κ:=[]) (Φ:=Φ63) (aD h2) (aD h3) (add_list (a:=fo2.map .str) (b:=ga.map .str) (by rw[ac,ac];show 2+ga.length<=1000;omega)) (by rw[<-bp];exact tT _);rw[<-bp]at ea;have hc:=z1e (Κ:=[]) (Φ:=Φ63) (ρ:=ρ) (nt:=1) (js:=[]) (N':=["_law_name"]) (tg:=.nm 0) (it:=.tv (.bin .Add (.var 2) (.var 3))) (cond:=.nil) (elt:=.tup (.cons (.str "fact") (.cons (.var 0) .nil))) (m:=PyData.str) (xs:=fo2++ga) (λ_=>true) (λn=>sN ga (some n)) (cI ea rfl) rfl (λn=>[some (.al,.str n)]) (λn _=>rfl) (λ_ _=>rS) λn _ _=>lY (bJ dR (bJ (v_var rfl rfl) dF));rw[dr.mpr λ_ _=>rfl]at hc;have ho:aG [] Φ63 (.lst (.cons (.tup (.cons (.str "open") (.cons (.str "cruel") (.cons (.eD "tuple" (.tv (.var 2))) (.cons (.eD "tuple" (.tv (.var 3))) .nil))))) .nil)) ρ=.ok (.fr,.list [kE ga]):=gX (bJ (lY (bJ dR (bJ dR (bJ (yu (aD h2) rfl (Dg _ _) (xr fo2)) (bJ (yu (aD h3) rfl (Dg _ _) (xr ga)) dF))))) dF);have e:dA ga=(fo2++ga).map (λn=>sN ga (some n))++[kE ga]:=by unfold dA uC;rw[bp,dz];rfl
 rw[e];refine Ev.of (Ba (Ev.of hc) (Ev.of ho) (add_list (by rw[ac,au];show 2+ga.length+1<=1000;omega)) ?_);rw[<-e];exact qK.mpr λd hd=>by obtain⟨o,_,rfl⟩:=bf.mp hd;exact Bw ga o
theorem ZG {cs:List Cs}{ρ:Rho}(h5:ρ[5]?=some (some (.od,.list (cs.map cD)))):aG [] Φ63 (.comp 1 [] ["_law_case"] (.nm 0) (.tv (.var 5)) .nil (.bin .Add (.ix (.var 0) (.int 0)) (.ix (.var 0) (.int 1)))) ρ=.ok (.fr,.list (dH cs)):=by have hc:=z1e (Κ:=[]) (Φ:=Φ63) (ρ:=ρ) (nt:=1) (js:=[]) (N':=["_law_case"]) (tg:=.nm 0) (it:=.tv (.var 5)) (cond:=.nil) (elt:=.bin .Add (.ix (.var 0) (.int 0)) (.ix (.var 0) (.int 1))) (m:=cD) (xs:=cs) (λ_=>true) (λc=>pk (dY c)) (cI (g:=.od) (x:=.list (cs.map cD)) (by rw[iF];rw[h5];rfl) rfl) rfl (λc=>[some (.al,cD c)]) (λc _=>oY (nB c)) (λ_ _=>rS) λc _ _=>cJ (aJ (d:=pk c.1.1) (aD rfl) aN.e rfl (cP _)).e (aJ (d:=pk c.2.1) (aD rfl) aN.e rfl (cP _)).e (by show(if(c.1.1.map pr).length+(c.2.1.map pr).length<=bB then Res.ok (PyData.tuple (c.1.1.map pr++c.2.1.map pr))else .no)=_;have h1:=c.1.2.2;have h2:=c.2.2.2;rw[vg (by rw[ac,ac];unfold bB;omega),<-bp];rfl) (cP _);rw[dr.mpr λ_ _=>rfl]at hc;exact hc
theorem ZH {rs:List Ru}{cs:List Cs}{ρ:Rho}(h5:ρ[5]?=some (some (.od,.list (cs.map cD))))(h9:toAl (ρ.getD 9 none)=some (.od,.list (rs.map ruD))):aG [] Φ63 (.comp 1 [9] ["_law_case","_law_book_here"] (.nm 0) (.tv (.var 5)) .nil (.call 3 "_law_side" (.cons (.var 1) (.cons (.var 0) .nil)))) ρ=.ok (.fr,.list (cs.map λc=>sdD (bnd biR sdR rs c))):=by have hc:=z1e (Κ:=[]) (Φ:=Φ63) (ρ:=ρ) (nt:=1) (js:=[9]) (N':=["_law_case","_law_book_here"]) (tg:=.nm 0) (it:=.tv (.var 5)) (cond:=.nil) (elt:=.call 3 "_law_side" (.cons (.var 1) (.cons (.var 0) .nil))) (m:=cD) (xs:=cs) (λ_=>true) (λc=>sdD (bnd biR sdR rs c)) (cI (g:=.od) (x:=.list (cs.map cD)) (by rw[iF];rw[h5];rfl) rfl) rfl (λc=>[some (.al,cD c),some (.od,.list (rs.map ruD))]) (λc _=>by show eE (.nm 0) _ [none,toAl (ρ.getD 9 none)]=_;rw[h9];exact oY (nB c)) (λ_ _=>rS) λc _ _=>eX (aF (aD rfl) (aF (aD rfl) aW)) rfl OJ (Jb _);rw[dr.mpr λ_ _=>rfl]at hc;exact hc
theorem DY (q:wE Z o Y H λx H1=>tyV Z.K "list" x H1/\wE Z v Y H1 λy H2=>Cb x [y] H2 λ_ H3=>D0.nx Y H3):wS Z (.app o v) D0 Y H:=q
section
variable {Z:Wc}{Hb:Hp}{D0:Ends}{xs:List Int}{ga:List Str}{b:Bool}{v0 v1 v2 v3 v4:V}{p5:Addr}{B:Ad->Prop}
theorem zqv (hκ:Z.Κ=[])(hφ:Z.Φ=Φ63)(hg:GA ga)(r0:Rep Z.K Hb B v0 (.list (xs.map .int)))(r1:Rep Z.K Hb AnyB v1 (.bool b))(r2:Rep Z.K Hb AnyB v2 (.list (fo2.map .str)))(r3:Rep Z.K Hb AnyB v3 (.list (ga.map .str)))(h5:Hb p5=none)
  (q:∀H' (cs:List Cs) vs o6 o7,Same Hb H'->H' p5=some (.lst vs)->Reps Z.K H' rX vs (cs.map cD)->cs.length<=6->(∀c∈cs,Wf ga c)->D0.nx [some v0,some v1,some v2,some v3,some v4,some (.ref p5),o6,o7,none,none,none,none,none,none,none,none,none] H'):
  wS Z L63.OY D0 [some v0,some v1,some v2,some v3,some v4,some (.ref p5),none,none,none,none,none,none,none,none,none,none,none] (upd Hb p5 (.lst [])):=by
 have sl:∀{H':Hp} {o6 o7:Option V} {r6 r7:Option GD},Same Hb H'->Sl Z.K H' [o6,o7,none,none,none,none,none,none,none,none,none] [r6,r7,none,none,none,none,none,none,none,none,none]->Sl Z.K H' [some v0,some v1,some v2,some v3,some v4,some (.ref p5),o6,o7,none,none,none,none,none,none,none,none,none] [some (.od,.list (xs.map .int)),some (.od,.bool b),some (.od,.list (fo2.map .str)),some (.od,.list (ga.map .str)),none,none,r6,r7,none,none,none,none,none,none,none,none,none]:=λ{H' o6 o7 r6 r7} s t=>.da (r0.same (B':=B) s λ_ z=>z) (.da (r1.same (B':=AnyB) s λ_ z=>z) (.da (r2.same (B':=AnyB) s λ_ z=>z) (.da (r3.same (B':=AnyB) s λ_ z=>z) (.no (.no t)))));have tl:∀{H':Hp},Sl Z.K H' [none,none,none,none,none,none,none,none,none] [none,none,none,none,none,none,none,none,none]:=λ{H'}=>.no (.no (.no (.no (.no (.no (.no (.no (.no .nil))))))));obtain⟨c2,e2⟩:=yL xs (k:=2) (by decide);have n0:0<=c2%7:=fm _ (by decide);have n7:c2%7<7:=gv _ (by decide);have ev:evW [] Φ63 (.fM (.cons (.bin .Mod (L63.ca 2) (.int 7)) .nil)) [some (.od,.list (xs.map .int)),some (.od,.bool b),some (.od,.list (fo2.map .str)),some (.od,.list (ga.map .str)),none,none,none,none,none,none,none,none,none,none,none,none,none]=.ok (.fr,(cn (c2%7).toNat).map λ(i:Nat)=>.int i):=Dl (aF (cJ (d:=.int (c2%7)) (eG (aF (aD rfl) (aF aN.e aW)) rfl e2) aN.e (lX (by decide)) rfl).e aW) (yt n0 (by omega));refine zdy hκ hφ (sl (Same.upd h5) (.no (.no tl))) ev (λb=>b=p5) (λb hb=>⟨.lst [],by rw[hb];exact bE,λz=>z⟩) (λj σ' H'=>Same Hb H'/\∃(cs:List Cs) (vs:List V) (o6 o7:Option V),cs.length=j/\(∀c∈cs,Wf ga c)/\H' p5=some (.lst vs)/\Reps Z.K H' rX vs (cs.map cD)/\σ'=[some v0,some v1,some v2,some v3,some v4,some (.ref p5),o6,o7,none,none,none,none,none,none,none,none,none]) (λH1 s1=>⟨(Same.upd h5).trans s1,[],[],none,none,rfl,(λ_ h=>by cases h),s1 _ _ bE,rfl,rfl⟩) ?_ ?_
 ·rintro k y d σ' H' H2 D2 hd ⟨s',cs,vs,o6,o7,hl,hw,hp,rv,rfl⟩ s2 ry hrt nx
  rw[bj]at hd;obtain⟨k',jO,rfl⟩:=b9.mp hd;have Jz:k<(c2%7).toNat:=by have:=(aq.mp jO).1;rw[d9]at this;exact this
  have ek:k'=k:=by rw[ma Jz]at jO;exact(vi jO).symm
  subst ek;refine Jh ry (by simp) λw bI=>?_;show wS Z _ D2 [some v0,some v1,some v2,some v3,some v4,some (.ref p5),some w,o7,none,none,none,none,none,none,none,none,none] H2;have xI:=s'.trans s2;obtain⟨c,ec⟩:=yL xs (k:=3+k') (by omega);refine fD (hU hκ hφ (sl xI (.da bI (.no tl))) (d:=.int c) (eG (aF (aD rfl) (aF (cJ aN.e (aD rfl) rfl rfl).e aW)) rfl ec) λv7 H3 s3 r7=>?_);show wS Z _ D2 [some v0,some v1,some v2,some v3,some v4,some (.ref p5),some w,some v7,none,none,none,none,none,none,none,none,none] H3;have pT:=s2.trans s3;obtain⟨qc,wq,vq⟩:=zbw hg (Φ:=Φ63) (ρ:=[some (.od,.list (xs.map .int)),some (.od,.bool b),some (.od,.list (fo2.map .str)),some (.od,.list (ga.map .str)),none,none,some (.od,.int k'),some (.od,.int c),none,none,none,none,none,none,none,none,none]) (tf:=.var 2) (ta:=.var 3) (tc:=.var 7) (ts:=.var 1) (i:=6) (j:=7) (c:=c) (b:=b) rfl rfl (aD rfl) (aD rfl) (aD rfl) (aD rfl);refine fA (DY (cG rfl ⟨.inl ⟨rfl,_,SqL.of (pT _ _ hp)⟩,hU hκ hφ (sl (s'.trans pT) (.da (bI.same (B':=AnyB) s3 λ_ z=>z) (.da r7 tl))) vq.e λvy H4 s4 JA=>?_⟩));have DZ:=pT.trans s4;have Pq:=DZ _ _ hp;have vl:=rv.length;refine⟨p5,vs,vy,rfl,rfl,Pq,by rw[vl,ac,hl,df];omega,iX Z ?_⟩;have fr:∀b o,b≠p5->H' b=some o->upd H4 p5 (.lst (vs++[vy])) b=some o:=λb o hb e=>by rw[aL hb];exact DZ b o e
  refine nx _ _ ⟨λb o e=>?_,cs++[qc],vs++[vy],_,_,by rw[au,hl];rfl,λc' hc=>?_,bE,?_,rfl⟩ fr
  ·rw[aL λz=>by rw[z,h5]at e;cases e];exact(s'.trans DZ) b o e
  ·rcases bo.mp hc with z|z
   ·exact hw c' z
   ·rw[am.mp z];exact wq
  ·rw[bp];exact Reps.Im Pq ((rv.same DZ λ_ z=>z).append (Reps.cons (Rep.bG _ (nB qc) JA) rfl))
 ·rintro σ' H' ⟨s',cs,vs,o6,o7,hl,hw,hp,rv,rfl⟩
  rw[ac,d9]at hl;exact q H' cs vs o6 o7 s' hp rv (by omega) hw
end
def Bn (p:Addr):Ad->Prop
 |some a=>a≠p
 |none=>True
def FV (H:Hp)(p:Addr):Fm:=⟨H,λa=>a≠p,λ_=>none,True⟩
inductive jG (K:W.Frag)(H:Hp)(p:Addr):L2.St->Rho->Prop where
 |nil:jG K H p [] []
 |no {Y:L2.St} {ρ:Rho} {o:Option V} (t:jG K H p Y ρ):jG K H p (o::Y) (none::ρ)
 |da {Y:L2.St} {ρ:Rho} {v:V} {d:D} (r:Rep K H (Bn p) v d) (t:jG K H p Y ρ):jG K H p (some v::Y) (some (.od,d)::ρ)
theorem jG.sl {K:W.Frag}{H:Hp}{p:Addr}{Y:L2.St}{ρ:Rho}(s:jG K H p Y ρ):Sl K H Y ρ:=by
 induction s with
 |nil=>exact .nil
 |no t ih=>exact .no ih
 |da r t ih=>exact .da r ih
theorem jG.at {K:W.Frag}{H:Hp}{p:Addr}{Y:L2.St}{ρ:Rho}(s:jG K H p Y ρ):∀(i:Nat) (g:G) (d:D),ρ[i]?=some (some (g,d))->g=G.od/\∃v,Y[i]?=some (some v)/\Rep K H (Bn p) v d:=by
 induction s with
 |nil=>intro i g d e;cases e
 |no t ih=>
  intro i g d e;cases i with
  |zero=>cases e
  |succ i=>exact ih i g d e
 |da r t ih=>
  intro i g d e;cases i with
  |zero=>cases e;exact⟨rfl,_,rfl,r⟩
  |succ i=>exact ih i g d e
theorem jG.so {K:W.Frag}{H:Hp}{p:Addr}{Y:L2.St}{ρ:Rho}(s:jG K H p Y ρ)(hp:H p≠none):StOk K (FV H p) H Y ρ where
 ext:=Same.refl H
 aM:=λa e z=>hp (z▸e)
 own:=λa i e=>by cases e
 len:=s.sl.len
 sl:=λi g d e=>by
  obtain⟨rfl,v,e1,r⟩:=s.at i g d e;refine⟨v,e1,(Rep.there _ r).weak λa h=>?_⟩;cases a with
  |none=>exact trivial
  |some a=>exact⟨λz=>h.2 z,h.1⟩
theorem JB {Z:Wc}{H:Hp}{p:Addr}{Y:L2.St}{Q:VK}{c:C}{ρ:Rho}{d:D}(s:jG Z.K H p Y ρ)(hp:H p≠none)(e:Ev Z.Κ Z.Φ c ρ d)(q:∀v H',Same H H'->Rep Z.K H' (Bn p) v d->Q v H'):wE Z (.bV c) Y H Q:=by
 obtain⟨g,e⟩:=e;refine⟨ρ,FV H p,(g,d),s.so hp,e,λv H' s' r=>q v H' s' (r.weak λa h=>?_)⟩;cases a with
 |none=>exact trivial
 |some a=>
  cases g with
  |fr=>exact λz=>hp (z▸h)
  |od=>exact h.2
  |al=>exact h
  |nu=>
   rcases h with h|h
   ·exact λz=>hp (z▸h)
   ·exact h.2.2
theorem JC {K:W.Frag}{H:Hp}{p:Addr}{v:V}{d:D}{B:Ad->Prop}(r:Rep K H B v d)(hp:H p=none):Rep K H (Bn p) v d:=(Rep.there _ r).weak λa h=>by
 cases a with
 |none=>exact trivial
 |some a=>exact λz=>h.2 (by rw[z];exact hp)
theorem Reps.JD {K:W.Frag}{H:Hp}{p:Addr}{zs ys vs:List V}{ds:List D}(h:H p=some (.lst zs))(r:Reps K H (Bn p) vs ds):Reps K (upd H p (.lst ys)) (Bn p) vs ds:=
 Reps.keep (λa o e z=>by
  rw[aL]
  ·exact e
  ·intro w;rcases z with z|z
   ·exact z w
   ·rw[w,h]at e;cases e;exact z) (λ_ z=>z) _ r
def pd (p:Prop):Bool:=@decide p (Classical.propDecidable p)
theorem JE {p:Prop}:pd p=true↔p:=@decide_eq_true_iff p (Classical.propDecidable p)
def uL (rs:List Ru)(cs:List Cs)(d:List Bool):Bool:=pd (okR biR sdR stC rs cs d)
theorem JF {rs:List Ru}{cs:List Cs}{d:List Bool}:uL rs cs d=true↔okR biR sdR stC rs cs d:=JE
def fB (rs:List Ru)(cs:List Cs)(j:Nat):List D:=(((cn j).map (aI cs.length)).filter (uL rs cs)).map λd=>hJ (aZ biE sdE z0n (bk0 rs) (eI cs) d,d)
theorem ZI (rs:List Ru)(cs:List Cs)(j:Nat):(fB rs cs j).length<=j:=by unfold fB;rw[ac];refine cg (lg _ _) ?_;rw[ac,d9];exact ag _
theorem Pr (rs:List Ru)(cs:List Cs)(j:Nat):fB rs cs (j+1)=fB rs cs j++if uL rs cs (aI cs.length j)=true then[hJ (aZ biE sdE z0n (bk0 rs) (eI cs) (aI cs.length j),aI cs.length j)]else[]:=by
 unfold fB;rw[j6,bp,j9,bp];refine congrArg (_++·) ?_;show((([aI cs.length j].filter (uL rs cs))).map _)=_;by_cases h:uL rs cs (aI cs.length j)=true
 ·rw[kt h,vg h];rfl
 ·rw[ku h,vh h];rfl
section
variable {Z:Wc}{Hb:Hp}{D0:Ends}{rs:List Ru}{cs:List Cs}{w0 w1 w2 w3 w4 v5 v8 v9 v10:V}{o6 o7:Option V}{p:Addr}
theorem zr0 (hκ:Z.Κ=[])(hφ:Z.Φ=Φ63)(hl:cs.length<=6)(hr:rs.length<=6)(r5:Rep Z.K Hb AnyB v5 (.list (cs.map cD)))(r9:Rep Z.K Hb AnyB v9 (.list (rs.map ruD)))(r10:Rep Z.K Hb AnyB v10 (.list (cs.map fun c=>sdD (bnd biR sdR rs c))))(hp:Hb p=none)
  (q:∀H' vs fP eR,Same Hb H'->H' p=some (.lst vs)->Reps Z.K H' (Bn p) vs (fB rs cs (2 ^ cs.length))->D0.nx [some w0,some w1,some w2,some w3,some w4,some v5,o6,o7,some v8,some v9,some v10,some (.ref p),fP,eR,none,none,none] H'):
  wS Z L63.OZ D0 [some w0,some w1,some w2,some w3,some w4,some v5,o6,o7,some v8,some v9,some v10,some (.ref p),none,none,none,none,none] (upd Hb p (.lst [])):=by
 have sl:∀{H':Hp} {fP eR:Option V} {JG pU:Option GD},Same Hb H'->jG Z.K H' p [fP,eR,none,none,none] [JG,pU,none,none,none]->jG Z.K H' p [some w0,some w1,some w2,some w3,some w4,some v5,o6,o7,some v8,some v9,some v10,some (.ref p),fP,eR,none,none,none] [none,none,none,none,none,some (.od,.list (cs.map cD)),none,none,none,some (.od,.list (rs.map ruD)),some (.od,.list (cs.map λc=>sdD (bnd biR sdR rs c))),none,JG,pU,none,none,none]:=λ{H' fP eR JG pU} s t=>.no (.no (.no (.no (.no (.da ((JC r5 hp).same (B':=Bn p) s λ_ z=>z) (.no (.no (.no (.da ((JC r9 hp).same (B':=Bn p) s λ_ z=>z) (.da ((JC r10 hp).same (B':=Bn p) s λ_ z=>z) (.no t)))))))))));have tl:∀{H':Hp},jG Z.K H' p [none,none,none] [none,none,none]:=λ{H'}=>.no (.no (.no .nil));have hlen:∀{Φ:List Fn} {ρ:Rho},ρ[5]?=some (some (.od,.list (cs.map cD)))->Vv [] Φ (.bi "len" (.cons (.var 5) .nil)) ρ (.int cs.length):=λh=>gY (aF (aD h) aW) (by show Res.ok (PyData.int ((cs.map cD).length:Nat))=_;rw[ac]) rfl;have pw:2 ^ cs.length<=2 ^ 6:=l5 (by decide) hl;have p64:(2:Nat) ^ 6=64:=by decide
 have ev:evW [] Φ63 (.fM (.cons (.call 0 "_law_two" (.cons (.bi "len" (.cons (.var 5) .nil)) .nil)) .nil)) [none,none,none,none,none,some (.od,.list (cs.map cD)),none,none,none,some (.od,.list (rs.map ruD)),some (.od,.list (cs.map λc=>sdD (bnd biR sdR rs c))),none,none,none,none,none,none]=.ok (.fr,(cn (2 ^ cs.length)).map λ(i:Nat)=>.int i):=by have:=yt (n:=((2 ^ cs.length:Nat):Int)) (Int.natCast_nonneg _) (by have h:((2 ^ cs.length:Nat):Int)<=((2 ^ 6:Nat):Int):=Int.ofNat_le.mpr pw;exact Int.le_trans h (by decide));rw[fi]at this;exact Dl (aF (eG (aF (hlen rfl).e aW) rfl (OK hl)) aW) this
 refine zdy hκ hφ (sl (Same.upd hp) (.no (.no tl))).sl ev (λb=>b=p) (λb hb=>⟨.lst [],by rw[hb];exact bE,λz=>z⟩) (λj σ' H'=>Same Hb H'/\∃(vs:List V) (fP eR:Option V),H' p=some (.lst vs)/\Reps Z.K H' (Bn p) vs (fB rs cs j)/\σ'=[some w0,some w1,some w2,some w3,some w4,some v5,o6,o7,some v8,some v9,some v10,some (.ref p),fP,eR,none,none,none]) (λH1 s1=>⟨(Same.upd hp).trans s1,[],none,none,s1 _ _ bE,rfl,rfl⟩) ?_ ?_
 ·rintro k y d σ' H' H2 D2 hd ⟨s',vs,fP,eR,hv,rv,rfl⟩ s2 ry hrt nx
  rw[bj]at hd;obtain⟨k',jO,rfl⟩:=b9.mp hd;have Jz:k<2 ^ cs.length:=by have:=(aq.mp jO).1;rw[d9]at this;exact this
  have ek:k'=k:=by rw[ma Jz]at jO;exact(vi jO).symm
  subst ek;refine Jh ry (by simp) λw bI=>?_;show wS Z _ D2 [some w0,some w1,some w2,some w3,some w4,some v5,o6,o7,some v8,some v9,some v10,some (.ref p),some w,eR,none,none,none] H2;have xI:=s'.trans s2;have D1:Rep Z.K H2 (Bn p) w (.int k'):=Rep.bG _ rfl bI;have hv2:=s2 _ _ hv;have hn2:H2 p≠none:=by rw[hv2];exact λz=>by cases z
  have fin:∀{H5:Hp} {eW:List V} {eR:Option V},Same H2 H5\/(∃H4,Same H2 H4/\H5=upd H4 p (.lst eW))->H5 p=some (.lst eW)->Reps Z.K H5 (Bn p) eW (fB rs cs (k'+1))->D2.nx [some w0,some w1,some w2,some w3,some w4,some v5,o6,o7,some v8,some v9,some v10,some (.ref p),some w,eR,none,none,none] H5:=λ{H5 eW eR} hs h5 ZJ=>by
   have fr:∀b o,b≠p->H2 b=some o->H5 b=some o:=λb o hb e=>by
    rcases hs with s|⟨H4,s,rfl⟩
    ·exact s b o e
    ·rw[aL hb];exact s b o e
   exact nx _ _ ⟨λb o e=>fr b o (λz=>by rw[z,hp]at e;cases e) (xI b o e),eW,_,_,h5,ZJ,rfl⟩ λb o hb e=>fr b o hb (s2 b o e)
  have Pt:=rv.same (B':=Bn p) s2 λ_ z=>z;rcases zml (rs:=rs) hl (code:=k') (by omega)with⟨ok,ed⟩|⟨nk,ed⟩
  ·have hok:uL rs cs (aI cs.length k')=true:=JF.mpr ok;refine fD (JB (sl xI (.da D1 (.no tl))) hn2 (d:=.list ((aI cs.length k').map .bool)) (by rw[hκ,hφ];exact eG (aF (aD rfl) (aF (aD rfl) (aF (aD rfl) aW))) rfl ed) λJH H3 s3 pU=>?_);show wS Z _ D2 [some w0,some w1,some w2,some w3,some w4,some v5,o6,o7,some v8,some v9,some v10,some (.ref p),some w,some JH,none,none,none] H3;have tM:∀{H4:Hp},Same H3 H4->jG Z.K H4 p _ _:=λ{H4} s4=>sl (xI.trans (s3.trans s4)) (.da (D1.same (B':=Bn p) (s3.trans s4) λ_ z=>z) (.da (pU.same (B':=Bn p) s4 λ_ z=>z) tl));refine fA (mL (nD hκ hφ (tM (Same.refl H3)).sl (b:=true) (aR (Bc (aD rfl)).e rfl) λH4 s4=>?_));have JI:=(s3.trans s4) _ _ hv2;obtain⟨g,ZK⟩:=Y8 (rs:=rs) (cs:=cs) (d:=aI cs.length k') hl (OM _ _) hr;refine fA (DY (cG rfl ⟨.inl ⟨rfl,_,SqL.of JI⟩,JB (tM s4) (by rw[JI];exact λz=>by cases z) (d:=hJ (aZ biE sdE z0n (bk0 rs) (eI cs) (aI cs.length k'),aI cs.length k')) (by rw[hκ,hφ];exact eG (aF (aD rfl) (aF (aD rfl) (aF (aD rfl) aW))) rfl ZK) λvy H5 s5 JA=>?_⟩));have Pu:=s5 _ _ JI;have Pw:=s3.trans (s4.trans s5);refine⟨p,vs,vy,rfl,rfl,Pu,by have:=rv.length;have:=ZI rs cs k';rw[df];omega,iX Z (iX Z ?_)⟩;refine fin (.inr ⟨H5,Pw,rfl⟩) bE ?_;rw[Pr,vg hok];exact Reps.JD Pu ((Pt.same Pw λ_ z=>z).append (Reps.cons JA rfl))
  ·have hok:¬uL rs cs (aI cs.length k')=true:=λz=>nk (JF.mp z);refine fD (JB (sl xI (.da D1 (.no tl))) hn2 (d:=.none) (by rw[hκ,hφ];exact eG (aF (aD rfl) (aF (aD rfl) (aF (aD rfl) aW))) rfl ed) λJH H3 s3 pU=>?_);show wS Z _ D2 [some w0,some w1,some w2,some w3,some w4,some v5,o6,o7,some v8,some v9,some v10,some (.ref p),some w,some JH,none,none,none] H3;refine fA (mL (nD hκ hφ (sl (xI.trans s3) (.da (D1.same (B':=Bn p) s3 λ_ z=>z) (.da pU tl))).sl (b:=false) (aR (Bc (aD rfl)).e rfl) λH4 s4=>iX Z (iX Z ?_)));refine fin (.inl (s3.trans s4)) ((s3.trans s4) _ _ hv2) ?_;rw[Pr,vh hok,cr];exact Pt.same (s3.trans s4) λ_ z=>z
 ·rintro σ' H' ⟨s',vs,fP,eR,hv,rv,rfl⟩
  rw[ac,d9]at rv;exact q H' vs fP eR s' hv rv
end
theorem ZL {n:Nat}{o:List Re}{d:List Bool}(h:d.length=n):rdD o (bN n d)=hJ (o,d):=by unfold rdD hJ bN;rw[h,ua,List.replicate_zero,cr,dz];rfl
theorem ZM {rs:List Ru}{cs:List Cs}(ha:∀r∈rs,∀s∈rs,agR r s=false):nG (rdX rs cs)=fB rs cs (2 ^ cs.length):=by
 have hb:Cons biE sdE (bk0 rs):=λr hr s hs c h1 h2=>by obtain⟨r',mH,rfl⟩:=bf.mp hr;obtain⟨s',pN,rfl⟩:=bf.mp hs;exact YR ha r' mH s' pN c.2 h1 h2
 have hl:=uJ cs;have m:=(zlk Y4 hb (λPx d=>pd (okR biE sdE DO (bk0 rs) Px d)) (λPx d=>JE) cs.length (eI cs) hl).1;have e:rdK rs cs cs.length=kC biE sdE z0n (bk0 rs) (eI cs):=by unfold rdK;rw[k8 (kw hl)]
 unfold nG rdX fB;rw[e,m,dz,dz,<-OP];have f:(bits cs.length).filter (λd=>pd (okR biE sdE DO (bk0 rs) (eI cs) d))=(bits cs.length).filter (uL rs cs):=List.filter_congr λd hd=>by have:=Y5 (rs:=rs) (cs:=cs) (Bu _ d hd);rw[j4,JE,JF];exact this
 rw[f];refine ju λd hd=>?_;exact ZL (Bu _ d (g7.mp hd).1)
theorem D4 (n:Nat)(l:P):aP (n+2) (pk l)=true:=by show cR (n+1) (l.map pr)=true;exact kJ.mpr λx hx=>by obtain⟨p,_,rfl⟩:=bf.mp hx;cases n<;>rfl
theorem Py (n:Nat)(f a:P):aP (n+3) (jE f a)=true:=by show(aP (n+2) (pk f)&&(aP (n+2) (pk a)&&true))=true;rw[D4,D4];rfl
theorem Pz (n:Nat)(r:Ru):aP (n+4) (ruD r)=true:=by show(aP (n+3) (jE r.2.1.1 r.2.2.1.1)&&(true&&(aP (n+1+2) (pk r.2.2.2.1)&&true)))=true;rw[Py,D4];rfl
theorem ZN (n:Nat)(e:Re):aP (n+5) (entD e)=true:=by show(true&&(true&&(aP (n+4) (ruD e.2)&&true)))=true;rw[Pz];rfl
theorem ZO (n:Nat)(x:List Str):aP (n+1) (kQ x)=true:=by show cR n (x.map .str)=true;exact DM n x
theorem ZP (n:Nat)(x:List Re×List Bool):aP (n+7) (hJ x)=true:=by show(cR (n+5) (x.1.map entD)&&(cR (n+5) (x.2.map mV)&&true))=true;rw[kJ.mpr λy hy=>by obtain⟨e,_,rfl⟩:=bf.mp hy;exact ZN n e,kJ.mpr λy hy=>by obtain⟨b,_,rfl⟩:=bf.mp hy;exact ZO (n+4) (jF b)];rfl
theorem ZQ (rs:List Ru)(cs:List Cs)(j:Nat):cR 39 (fB rs cs j)=true:=kJ.mpr λy hy=>by obtain⟨d,_,rfl⟩:=bf.mp hy;exact ZP 32 _
theorem ZR (n:Nat)(ga:List Str):cR (n+2) (dA ga)=true:=kJ.mpr λy hy=>by
 obtain⟨o,_,rfl⟩:=bf.mp hy;cases o with
 |some m=>rfl
 |none=>show(true&&(true&&(cR n (fo2.map .str)&&(cR n (ga.map .str)&&true))))=true;rw[DM,DM];rfl
theorem ZS (n:Nat)(cs:List Cs):cR (n+2) (dH cs)=true:=kJ.mpr λy hy=>by obtain⟨c,_,rfl⟩:=bf.mp hy;exact D4 n _
theorem PB {rs:List Ru}{cs:List Cs}:∀{k:Nat},k<=cs.length->rdK rs cs k≠[]
 |0,_=>λz=>by cases z
 |k+1,h=>by
  rw[Jr h];intro z;have:=PB (rs:=rs) (cs:=cs) (k:=k) (by omega);cases e:rdK rs cs k with
  |nil=>exact this e
  |cons y l=>rw[e,im]at z;have z:=(List.append_eq_nil_iff.mp z).1;unfold z1u at z;split at z<;>cases z
structure LwA (K:W.Frag)(Hr:Hp)(ga:List Str)(rs:List Ru)(cs:List Cs)(v4 v5 v8 v9 v11 v15:V)(pd:Addr):Prop where
 g:GA ga
 w:∀c∈cs,Wf ga c
 hl:cs.length<=6
 hr:rs.length<=6
 ha:∀r∈rs,∀s∈rs,agR r s=false
 r4:Rep K Hr AnyB v4 (.list (dA ga))
 r5:Rep K Hr AnyB v5 (.list (cs.map cD))
 r8:Rep K Hr AnyB v8 (.list (dH cs))
 r9:Rep K Hr AnyB v9 (.list (rs.map ruD))
 D5:Rep K Hr AnyB v11 (.list (fB rs cs (2 ^ cs.length)))
 PD:∃vb,Hr pd=some (.dK [(.inr "cruel",vb)])/\Rep K Hr AnyB vb (.list (rs.map ruD))
 D6:Rep K Hr AnyB v15 (.list [.list (dA ga),.list (dH cs)])
theorem JJ (q:wT Z a Y H λc H1=>if c=true then R true H1 else wT Z b Y H1 R):wT Z (.wN a b) Y H R:=q
theorem ZT {Z:Wc}{D0:Ends}{Y:L2.St}{H:Hp}{o:W}(q:wE Z o Y H λx H1=>tyV Z.K "list" x H1/\qD x [] H1 λ_ H3=>D0.nx Y H3):wS Z (.pop o) D0 Y H:=q
theorem ZU {Z:Wc}{Y:L2.St}{H:Hp}{a b:W}{R:Bool->Hp->Prop}(q:wE Z a Y H λx H1=>wE Z b Y H1 λy H2=>rU Z.K x y H2 λz H3=>∃k,z=.bl k/\R k H3):wT Z (.yA a b) Y H R:=q
theorem PF {K:W.Frag}{H:Hp}{Q:VK}{p:Addr}{xs:List V}{v:V}{k:Nat}(h:H p=some (.tup xs))(e:xs[k]?=some v)(q:Q v H):vH K (.ref p) (.int k) H Q:=.inr (.inl ⟨p,xs,k,v,rfl,rfl,bS.of h,by unfold L2.dM L2.jK;have:k<xs.length:=(aq.mp e).1;rw[vg (by omega),vg (by omega)];show xs[(k:Int).toNat]?=_;rw[fi];exact e,q⟩)
theorem ZV (xs:List D)(h:cR 39 xs=true):cmpD .NotEq (.list xs) (.list [])=.ok (!xs.isEmpty):=by show(if(aP 40 (.list xs)&&aP 40 (.list []))=true then Res.ok (!cQ (.list xs) (.list []))else .no)=_;rw[vg (by show(cR 39 xs&&true)=true;rw[h];rfl)];cases xs<;>simp[cQ,PyData.eqv,PyData.eqvAll]
theorem xJ:PyData.strOk "x"=true:=by decide+kernel
theorem PH (d:D)(l:List D):cut (d::l) (some 1) none=l:=by
 show((d::l).drop (aX (l.length+1) 0 (some 1))).take (l.length+1-aX (l.length+1) 0 (some 1))=l;have e:aX (l.length+1) 0 (some 1)=1:=by unfold aX;simp
 rw[e];show l.take (l.length+1-1)=l;rw[sg];exact oh
section
variable {Z:Wc}{Hr H:Hp}{D0:Ends}{ga:List Str}{rs:List Ru}{cs:List Cs}{v4 v5 v8 v9 v11 v15:V}{pd pf:Addr}{ra:List Ra}{o0 o1 o2 o3 o6 o7 xK fP eR:Option V}
abbrev D7 (o0 o1 o2 o3:Option V)(v4 v5:V)(o6 o7:Option V)(v8 v9:V)(xK:Option V)(v11:V)(fP eR:Option V)(pd:Addr)(v15:V)(pf:Addr):L2.St:=[o0,o1,o2,o3,some v4,some v5,o6,o7,some v8,some v9,xK,some v11,fP,eR,some (.ref pd),some v15,some (.ref pf)]
abbrev xM (ga:List Str)(rs:List Ru)(cs:List Cs)(d:D):Rho:=[none,none,none,none,some (.od,.list (dA ga)),some (.od,.list (cs.map cD)),none,none,some (.od,.list (dH cs)),some (.od,.list (rs.map ruD)),none,some (.od,.list (fB rs cs (2 ^ cs.length))),none,none,none,some (.od,.list [.list (dA ga),.list (dH cs)]),some (.od,d)]
theorem LwA.sl (a:LwA Z.K Hr ga rs cs v4 v5 v8 v9 v11 v15 pd){H':Hp}{d:D}(s:Same Hr H')(rf:Rep Z.K H' AnyB (.ref pf) d):Sl Z.K H' (D7 o0 o1 o2 o3 v4 v5 o6 o7 v8 v9 xK v11 fP eR pd v15 pf) (xM ga rs cs d):=.no (.no (.no (.no (.da (a.r4.same (B':=AnyB) s λ_ z=>z) (.da (a.r5.same (B':=AnyB) s λ_ z=>z) (.no (.no (.da (a.r8.same (B':=AnyB) s λ_ z=>z) (.da (a.r9.same (B':=AnyB) s λ_ z=>z) (.no (.da (a.D5.same (B':=AnyB) s λ_ z=>z) (.no (.no (.no (.da (a.D6.same (B':=AnyB) s λ_ z=>z) (.da rf .nil))))))))))))))))
theorem ZW (a:LwA Z.K Hr ga rs cs v4 v5 v8 v9 v11 v15 pd)(s:Same Hr H){R:Bool->Hp->Prop}(q:∀H',Same H H'->R false H'):wT Z (.yA (.raw 14) (.yB "cruel" (.raw 9))) (D7 o0 o1 o2 o3 v4 v5 o6 o7 v8 v9 xK v11 fP eR pd v15 pf) H R:=by
 obtain⟨vb,e1,r1⟩:=a.PD;refine ZU (cG (v:=.ref pd) rfl ?_);show Ca [(tD Z.K (aG Z.Κ Z.Φ (.str "cruel")),wE Z (.raw 9))] _ H _;intro p hp;have uP:Same H (upd H p (.dK [])):=Same.upd hp;refine Du BD λH1 s1=>cG (v:=v9) rfl ⟨s1 _ _ bE,[(.inr "cruel",v9)],rfl,by show 1<=15;decide,?_⟩;have e2:vG [] [((.inr "cruel":Key),v9)]=[(.inr "cruel",v9)]:=rfl;rw[e2];have xB:=uP.trans s1;have sF:Same H (upd H1 p (.dK [(.inr "cruel",v9)])):=λb o e=>by rw[aL λz=>by rw[z,hp]at e;cases e];exact xB b o e
 have sh:aP 39 (.list (rs.map ruD))=true:=kJ.mpr λy hy=>by obtain⟨r,_,rfl⟩:=bf.mp hy;exact Pz 34 r
 refine⟨pd,p,.inr "cruel",vb,v9,.list (rs.map ruD),.list (rs.map ruD),AnyB,rfl,rfl,sF _ _ (s _ _ e1),bE,r1.same (s.trans sF) λ_ z=>z,a.r9.same (s.trans sF) λ_ z=>z,sh,sh,_,rfl,?_⟩;have e3:cQ (.list (rs.map ruD)) (.list (rs.map ruD))=true:=tI _ 39 sh;rw[e3];exact q _ sF
theorem zka (hκ:Z.Κ=[])(hφ:Z.Φ=Φ63)(f0:Z.fn[0]?=some (spRd Z.K))(a:LwA Z.K Hr ga rs cs v4 v5 v8 v9 v11 v15 pd)(s:Same Hr H)(L:Lst Z.K Hr H pf ra (rdX rs cs))(q:∀H',Same Hr H'->D0.rt (.bl true) H'):
  wS Z L63.O0 D0 (D7 o0 o1 o2 o3 v4 v5 o6 o7 v8 v9 xK v11 fP eR pd v15 pf) H:=by
 obtain⟨n1,n2,nd,rl,ls⟩:=L;have JK:=ZM (cs:=cs) a.ha;have JL:=ZQ rs cs (2 ^ cs.length);have JM:∀{H':Hp} {xs:List (List Re×List (List Str))},RdL Z.K H' ra xs->H' pf=some (.lst (ra.map λr=>.ref r.t))->Rep Z.K H' AnyB (.ref pf) (.list (nG xs)):=λh1 h2=>⟨pf,_,rfl,.inl ⟨h2,trivial⟩,h1.dW⟩;have rf:=JM rl ls;rw[JK]at rf;refine fA (mL (JJ (nD hκ hφ (a.sl s rf) (b:=!true) (z9 (k:=true) (aR (Xm (x:=.list (fB rs cs (2 ^ cs.length))) (aD rfl)).e rfl)) λH1 s1=>?_)));rw[vh (show ¬(!true)=true by decide)];have xB:=s.trans s1;have PJ:=rf.same (B':=AnyB) s1 λ_ z=>z;refine JJ (nD hκ hφ (a.sl xB PJ) (b:=false) (aR (cY (k:=false) (aD rfl) (aD rfl) (Ip (d:=.list (fB rs cs (2 ^ cs.length))) JL)).e rfl) λH2 s2=>?_);rw[vh ce];have xG:=xB.trans s2;have ZX:=PJ.same (B':=AnyB) s2 λ_ z=>z;have hh:Ev [] Φ63 (.lst (.cons (.var 4) (.cons (.var 8) .nil))) (xM ga rs cs (.list (fB rs cs (2 ^ cs.length)))) (.list [.list (dA ga),.list (dH cs)]):=by obtain⟨ys,e1,e2⟩:=aF (Κ:=[]) (Φ:=Φ63) (ρ:=xM ga rs cs (.list (fB rs cs (2 ^ cs.length)))) (aD (i:=4) rfl) (aF (aD (i:=8) rfl) aW);exact⟨bO ys,by rw[HM,e1,Res.aC,e2]⟩
 have JN:aP 40 (.list [.list (dA ga),.list (dH cs)])=true:=by show(cR 38 (dA ga)&&(cR 38 (dH cs)&&true))=true;rw[ZR 36 ga,ZS 36 cs];rfl
 refine JJ (nD hκ hφ (a.sl xG ZX) (b:=false) (aR (cY (k:=false) (aD rfl) hh (Ip JN)).e rfl) λH3 s3=>?_);rw[vh ce];refine ZW a (xG.trans s3) λH4 s4=>iX Z ?_;have D8:=(xG.trans s3).trans s4;have JO:=s1.trans (s2.trans (s3.trans s4));have D9:=rl.same JO;have DX:=JO _ _ ls;obtain⟨np,PL⟩:=bg.mp nd
 obtain⟨x,xs,hX⟩:∃x xs,rdX rs cs=x::xs:=by
  cases e:rdX rs cs with
  |nil=>exact absurd (List.map_eq_nil_iff.mp e) (PB (ag _))
  |cons x xs=>exact⟨x,xs,rfl⟩
 have PM:(fB rs cs (2 ^ cs.length))=rdD x.1 x.2::nG xs:=by rw[<-JK,hX];rfl
 have xn:x.2.length=cs.length:=by
  have:x∈rdX rs cs:=by rw[hX];exact .head _
  obtain⟨y,hy,rfl⟩:=bf.mp this;exact Pf (kw ((Js (rs:=rs) (ag cs.length)).2 y hy).1)
 rw[hX]at D9
 obtain⟨r,rb,rfl⟩:∃r rb,ra=r::rb:=by
  cases ra with
  |nil=>exact D9.elim
  |cons r rb=>exact⟨r,rb,rfl⟩
 have ZY:fE (r::rb)=r.ad++fE rb:=im;rw[ZY]at PL np n2;obtain⟨m1,m2,m3⟩:=ij.mp PL;have rd:=D9.1;have PN:=D9.2
 have rest:∀{H5:Hp} {hs:List (List Str)},hs.length<=8->Same Hr H5->RdA Z.K H5 r x.1 hs->RdL Z.K H5 rb xs->H5 pf=some (.lst ((r::rb).map fun r=>.ref r.t))->wS Z (.seq (.ifS (.tp (.tv (.cmp .NotEq (.sl (.var 16) (.tv (.int 1)) .nil) (.sl (.var 11) (.tv (.int 1)) .nil)))) L63.rF .nil)
   (.seq (.app (.mY (.mY (.raw 16) (L63.i1 0)) (L63.i1 1)) (.lst (.cons (.bV (.str "x")) .nil)))
   (.seq (.pop (.raw 16)) (.seq (.ret (.cmp .Eq (L63.xx (.raw 4) (.raw 14) (.raw 8)) (.raw 11))) .nil)))) D0 (D7 o0 o1 o2 o3 v4 v5 o6 o7 v8 v9 xK v11 fP eR pd v15 pf) H5:=λ{H5 hs} h8 s5 uM PQ BM=>by
  have ZZ:Rep Z.K H5 AnyB (.ref pf) (.list (rdD x.1 hs::nG xs)):=⟨pf,_,rfl,.inl ⟨BM,trivial⟩,⟨_,_,rfl,uM.rep,PQ.dW⟩⟩;have Z0:aP 40 (.list (nG xs))=true:=by have:=JL;rw[PM]at this;exact(av.mp this).2
  have Z1:Ev [] Φ63 (.sl (.var 16) (.tv (.int 1)) .nil) (xM ga rs cs (.list (rdD x.1 hs::nG xs))) (.list (nG xs)):=sJ (aD rfl) (Dk aN.e) yb (by show Res.ok (PyData.list (cut (rdD x.1 hs::nG xs) (some 1) none))=_;rw[PH]);have Z2:Ev [] Φ63 (.sl (.var 11) (.tv (.int 1)) .nil) (xM ga rs cs (.list (rdD x.1 hs::nG xs))) (.list (nG xs)):=sJ (aD rfl) (Dk aN.e) yb (by show Res.ok (PyData.list (cut (fB rs cs (2 ^ cs.length)) (some 1) none))=_;rw[PM,PH]);refine fA (mL (nD hκ hφ (a.sl s5 ZZ) (b:=false) (aR (cY (k:=false) Z1 Z2 (Ip Z0)).e rfl) λH6 s6=>iX Z ?_));have Ea:=uM.same s6;have rl6:=PQ.same s6;have PR:=s6 _ _ BM;have DU:=s5.trans s6;refine fA (DY (yG (yG (cG (v:=.ref pf) rfl ?_))));refine yF λH7 s7=>DR (k:=0) (s7 _ _ PR) (v:=.ref r.t) rfl (by decide) ?_;refine yF λH8 s8=>PF (k:=1) (s8 _ _ (s7 _ _ Ea.tp)) (v:=.ref r.h) rfl ?_;have PU:=s7.trans s8;refine⟨.inl ⟨rfl,_,SqL.of (PU _ _ Ea.ho)⟩,oX (cS (Du xJ λH9 s9=>gE ⟨by rw[df];simp,λpn hn=>?_⟩))⟩;have JP:=PU.trans s9;have uN:Same H9 (upd H9 pn (.lst [.str "x"])):=Same.upd hn;have Z3:=uN _ _ (JP _ _ Ea.ho);have wl:r.ws.length=hs.length:=Ea.hl.len;refine⟨r.h,r.ws.map .ref,.ref pn,rfl,rfl,Z3,by rw[ac,wl,df];omega,?_⟩;have Z4:=DU.trans (JP.trans uN);have Z5:Hr r.h=none:=n2 r.h (bu _ (.tail _ (.tail _ (.head _))));have sA:Same Hr (upd (upd H9 pn (.lst [.str "x"])) r.h (.lst (r.ws.map .ref++[.ref pn]))):=λb o e=>by rw[aL λz=>by rw[z,Z5]at e;cases e];exact Z4 b o e
  have hf:pf≠r.h:=λz=>np (bu _ (by rw[z];exact .tail _ (.tail _ (.head _))));have JQ:upd (upd H9 pn (.lst [.str "x"])) r.h (.lst (r.ws.map .ref++[.ref pn])) pf=some (.lst ((r::rb).map λr=>.ref r.t)):=by rw[aL hf];exact uN _ _ (JP _ _ PR)
  generalize upd (upd H9 pn (.lst [.str "x"])) r.h (.lst (r.ws.map .ref++[.ref pn]))=HA at sA JQ ⊢;have JR:((r::rb).map λr=>V.ref r.t).length-1<((r::rb).map λr=>V.ref r.t).length:=by rw[ac,bv];omega
  refine fA (ZT (cG (v:=.ref pf) rfl ⟨.inl ⟨rfl,_,SqL.of JQ⟩,pf,_,_,rfl,rfl,JQ,aw JR,?_⟩));have sB:Same Hr (upd HA pf (.lst ((r::rb).map λr=>V.ref r.t).dropLast)):=λb o e=>by rw[aL λz=>by rw[z,n1]at e;cases e];exact sA b o e
  generalize upd HA pf (.lst ((r::rb).map λr=>V.ref r.t).dropLast)=HB at sB ⊢;obtain⟨vb,e1,r1⟩:=a.PD;refine yN (X5 (xE f0 (cS (cG (v:=v4) rfl (cS (cG (v:=.ref pd) rfl (cS (cG (v:=v8) rfl (gE ?_)))))))));refine⟨ga,rs,cs,v4,.ref pd,v8,AnyB,rfl,⟨a.g,a.w,a.r4.same sB λ_ z=>z,⟨pd,_,rfl,sB _ _ e1,trivial,⟨.inr "cruel",vb,[],rfl,rfl,BD,r1.same sB λ_ z=>z,rfl⟩⟩,a.r8.same sB λ_ z=>z,a.hl,a.hr⟩,λH' p ra' s' L'=>cG (v:=v11) rfl ?_⟩;have Z6:Rep Z.K H' AnyB (.ref p) (.list (fB rs cs (2 ^ cs.length))):=by rw[<-JK];exact⟨p,_,rfl,.inl ⟨L'.2.2.2.2,trivial⟩,L'.2.2.2.1.dW⟩
  exact Oh Z6 (a.D5.same (B':=AnyB) (sB.trans s') λ_ z=>z) (eq_self (d:=.list (fB rs cs (2 ^ cs.length))) JL) λfC mP=>q _ ((sB.trans s').trans mP)
 have PV:Rep Z.K H4 AnyB (.ref pf) (.list (fB rs cs (2 ^ cs.length))):=rf.same (B':=AnyB) JO λ_ z=>z;have Z7:cR 39 (cs.map cD)=true:=kJ.mpr λy hy=>by obtain⟨c,_,rfl⟩:=bf.mp hy;exact Py 36 _ _
 have tC:Tt [] Φ63 (.tv (.cmp .NotEq (.var 5) (.lst .nil))) (xM ga rs cs (.list (fB rs cs (2 ^ cs.length)))) (!cs.isEmpty):=by have:=aR (cY (aD (Κ:=[]) (Φ:=Φ63) (ρ:=xM ga rs cs (.list (fB rs cs (2 ^ cs.length)))) (i:=5) rfl) (Ev.of (gX dF)) (ZV _ Z7)).e rfl;rw[i9]at this;exact this
 have PX:x.2.length<=8:=by rw[xn];have:=a.hl;omega
 cases hC:cs.isEmpty with
 |true=>rw[hC]at tC;refine fA (mL (nD hκ hφ (a.sl D8 PV) tC λH5 s5=>iX Z ?_));exact rest PX (D8.trans s5) (rd.same s5) (PN.same s5) (s5 _ _ DX)
 |false=>
  rw[hC]at tC;refine fA (mL (nD hκ hφ (a.sl D8 PV) tC λH5 s5=>?_));have uM:=rd.same s5;have BM:=s5 _ _ DX
  have hn0:0<cs.length:=by
   cases cs with
   |nil=>cases hC
   |cons c l=>exact Nat.succ_pos _
  have wl:r.ws.length=x.2.length:=uM.hl.len;have JS:0<r.ws.length:=by omega
  have ew:r.ws[0]?=some r.ws[0]:=aw JS;obtain⟨y,ey,hy⟩:=uM.hl.at _ ew;refine fA (DY (yG (yG (yG (cG (v:=.ref pf) rfl ?_)))));refine yF λH6 s6=>DR (k:=0) (s6 _ _ BM) (v:=.ref r.t) rfl (by decide) ?_;refine yF λH7 s7=>PF (k:=1) (s7 _ _ (s6 _ _ uM.tp)) (v:=.ref r.h) rfl ?_;refine yF λH8 s8=>DR (k:=0) (s8 _ _ (s7 _ _ (s6 _ _ uM.ho))) (v:=.ref r.ws[0]) (by rw[bj,ew];rfl) (by decide) ?_;have uO:=s6.trans (s7.trans s8);refine⟨.inl ⟨rfl,_,SqL.of (uO _ _ hy)⟩,Du xJ λH9 s9=>⟨r.ws[0],y.map V.str,.str "x",rfl,rfl,s9 _ _ (uO _ _ hy),?_,iX Z ?_⟩⟩
  ·rw[ac,df];have:y∈x.2:=cj ey;have hx:x∈rdX rs cs:=by rw[hX];exact .head _
   obtain⟨z,hz,rfl⟩:=bf.mp hx;have:=Ph y this;omega
  have BN:=uO.trans s9;have xN:=uM.same BN;have wm:r.ws[0]∈r.ad:=.tail _ (.tail _ (.tail _ (dh JS)));have wr:Hr r.ws[0]=none:=n2 _ (bu _ wm);obtain⟨a1,a2⟩:=bg.mp m1;obtain⟨a3,a4⟩:=bg.mp a2;obtain⟨a5,a6⟩:=bg.mp a4;have JT:r.ws[0]∈r.ws:=dh JS;rw[show y.map V.str++[V.str "x"]=(y++[("x":Str)]).map V.str by rw[bp];rfl];have up:∀{b:Addr} {o:HO},b≠r.ws[0]->H9 b=some o->upd H9 r.ws[0] (.lst ((y++[("x":Str)]).map V.str)) b=some o:=λhb e=>by rw[aL hb];exact e
  have fx:∀b o,H9 b=some o->Fix o->upd H9 r.ws[0] (.lst ((y++[("x":Str)]).map V.str)) b=some o:=λb o e z=>up (λw=>by rw[w,BN _ _ hy]at e;cases e;exact z) e;obtain⟨vs,Z8,Z9⟩:=xN.en;refine rest (hs:=x.2.set 0 (y++[("x":Str)])) (by rw[cu];exact PX) (λb o e=>up (λz=>by rw[z,wr]at e;cases e) ((D8.trans (s5.trans BN)) b o e)) ⟨up (λz=>a1 (.tail _ (.tail _ (by rw[z];exact JT)))) xN.tp,⟨vs,up (λz=>a3 (.tail _ (by rw[z];exact JT))) Z8,Reps.keep (λb o e z=>fx b o e (z.elim (λz=>z.elim) id)) (λ_ z=>z) _ Z9⟩,up (λz=>a5 (by rw[z];exact JT)) xN.ho,xN.hl.set a6 _ ew,xN.nd,?_⟩ ((PN.same (s5.trans BN)).keep (λb hb o e=>up (λz=>m3 _ wm _ hb z.symm) e) fx) (up (λz=>np (bu _ (by rw[z];exact wm))) (BN _ _ BM));intro z hz s hs;rcases m6 hz with hz|rfl
  ·exact xN.ok z hz s hs
  ·rcases bo.mp hs with w|w
   ·exact xN.ok y (cj ey) s w
   ·rw[am.mp w];exact xJ
end
theorem Z' (ga:List Str):imms (dA ga)=true:=qK.mpr λd hd=>by obtain⟨o,_,rfl⟩:=bf.mp hd;exact Bw ga o
theorem zlu (cs:List Cs):imms (dH cs)=true:=qK.mpr λd hd=>by obtain⟨c,_,rfl⟩:=bf.mp hd;exact cP _
section
variable {Z:Wc}{H:Hp}{D0:Ends}{xs:List Int}{v0:V}{B:Ad->Prop}
theorem zpe (hκ:Z.Κ=[])(hφ:Z.Φ=Φ63)(f0:Z.fn[0]?=some (spRd Z.K))(r0:Rep Z.K H B v0 (.list (xs.map .int)))(q:∀H',Same H H'->D0.rt (.bl true) H'):
  wS Z L63.lw D0 [some v0,none,none,none,none,none,none,none,none,none,none,none,none,none,none,none,none] H:=by
 have tl:∀{H':Hp} {n:Nat},Sl Z.K H' (ba n none) (ba n none):=λ{H' n}=>by have:=Ze (K:=Z.K) (H:=H') (ba n none);rw[cf]at this;exact this
 obtain⟨b,e1⟩:=ZD (xs:=xs) (ρ:=[some (.od,.list (xs.map .int)),none,none,none,none,none,none,none,none,none,none,none,none,none,none,none,none]) rfl;refine fD (hU hκ hφ (.da r0 (tl (n:=16))) e1.e λv1 H1 s1 r1=>?_);show wS Z _ D0 [some v0,some v1,none,none,none,none,none,none,none,none,none,none,none,none,none,none,none] H1;have PY:=r0.same (B':=B) s1 λ_ z=>z;refine fD (hU hκ hφ (.da PY (.no (tl (n:=15)))) (d:=.list (fo2.map .str)) (Ev.of (gX (bJ dR (bJ dR dF)))) λv2 H2 s2 r2=>?_);show wS Z _ D0 [some v0,some v1,some v2,none,none,none,none,none,none,none,none,none,none,none,none,none,none] H2;have PZ:=PY.same (B':=B) s2 λ_ z=>z;obtain⟨ga,hg,e3⟩:=ZE (xs:=xs) (ρ:=[some (.od,.list (xs.map .int)),none,none,none,none,none,none,none,none,none,none,none,none,none,none,none,none]) rfl;refine fD (hU hκ hφ (.da PZ (.no (.no (tl (n:=14))))) e3 λv3 H3 s3 r3=>?_);show wS Z _ D0 [some v0,some v1,some v2,some v3,none,none,none,none,none,none,none,none,none,none,none,none,none] H3;have r03:=PZ.same (B':=B) s3 λ_ z=>z;have pU:=r1.same (B':=AnyB) (s2.trans s3) λ_ z=>z;have JU:=r2.same (B':=AnyB) s3 λ_ z=>z;have e4:=ZF hg (ρ:=[none,none,some (.od,.list (fo2.map .str)),some (.od,.list (ga.map .str)),none,none,none,none,none,none,none,none,none,none,none,none,none]) rfl rfl;refine fD (hU hκ hφ (.no (.no (.da JU (.da r3 (tl (n:=13)))))) e4 λv4 H4 s4 r4=>?_);show wS Z _ D0 [some v0,some v1,some v2,some v3,some v4,none,none,none,none,none,none,none,none,none,none,none,none] H4;refine fD (oX (gE ⟨cz _,λp5 h5=>?_⟩));show wS Z _ D0 [some v0,some v1,some v2,some v3,some v4,some (.ref p5),none,none,none,none,none,none,none,none,none,none,none] (upd H4 p5 (.lst []));refine fA (zqv hκ hφ hg (r03.same (B':=B) s4 λ_ z=>z) (pU.same (B':=AnyB) s4 λ_ z=>z) (JU.same (B':=AnyB) s4 λ_ z=>z) (r3.same (B':=AnyB) s4 λ_ z=>z) h5 λH5 cs vs o6 o7 s5 hp5 rv5 hl hw=>?_);have P0:=s1.trans (s2.trans (s3.trans (s4.trans s5)));have r05:=r0.same (B':=B) P0 λ_ z=>z;have rc:Rep Z.K H5 AnyB (.ref p5) (.list (cs.map cD)):=⟨p5,vs,rfl,.inl ⟨hp5,trivial⟩,rv5.weak λ_ z=>z.elim⟩;refine fD (hU hκ hφ (.no (.no (.no (.no (.no (.da rc (.no (.no (tl (n:=9)))))))))) (Ev.of (ZG rfl)) λv8 H8 s8 r8=>?_);show wS Z _ D0 [some v0,some v1,some v2,some v3,some v4,some (.ref p5),o6,o7,some v8,none,none,none,none,none,none,none,none] H8;obtain⟨rs,hr,ha,eb⟩:=Y1 xs hg b;have uO:=s5.trans s8;have r08:=r05.same (B':=B) s8 λ_ z=>z;have r18:=pU.same (B':=AnyB) (s4.trans uO) λ_ z=>z;have r28:=JU.same (B':=AnyB) (s4.trans uO) λ_ z=>z;have r38:=r3.same (B':=AnyB) (s4.trans uO) λ_ z=>z;refine fD (hU hκ hφ (.da r08 (.da r18 (.da r28 (.da r38 (.no (.no (.no (.no (.no (tl (n:=8))))))))))) (eG (aF (aD rfl) (aF (aD rfl) (aF (aD rfl) (aF (aD rfl) aW)))) rfl eb) λv9 H9 s9 r9=>?_);show wS Z _ D0 [some v0,some v1,some v2,some v3,some v4,some (.ref p5),o6,o7,some v8,some v9,none,none,none,none,none,none,none] H9;have JV:=rc.same (B':=AnyB) (s8.trans s9) λ_ z=>z;refine fD (hU hκ hφ (.no (.no (.no (.no (.no (.da JV (.no (.no (.no (.da r9 (tl (n:=7)))))))))))) (Ev.of (ZH rfl rfl)) λv10 P1 JW r10=>?_);show wS Z _ D0 [some v0,some v1,some v2,some v3,some v4,some (.ref p5),o6,o7,some v8,some v9,some v10,none,none,none,none,none,none] P1;refine fD (oX (gE ⟨cz _,λsP GB=>?_⟩));show wS Z _ D0 [some v0,some v1,some v2,some v3,some v4,some (.ref p5),o6,o7,some v8,some v9,some v10,some (.ref sP),none,none,none,none,none] (upd P1 sP (.lst []));refine fA (zr0 hκ hφ hl hr (JV.same (B':=AnyB) JW λ_ z=>z) (r9.same (B':=AnyB) JW λ_ z=>z) r10 GB λBO ws fP eR xF JX JY=>?_);have pB:=JW.trans xF;have D5:Rep Z.K BO AnyB (.ref sP) (.list (fB rs cs (2 ^ cs.length))):=⟨sP,ws,rfl,.inl ⟨JX,trivial⟩,JY.weak λ_ _=>trivial⟩;have P2:=r9.same (B':=AnyB) pB λ_ z=>z;refine fD ?_;show Ca [(tD Z.K (aG Z.Κ Z.Φ (.str "cruel")),wE Z (.bV (.eD "list" (.tv (.var 9)))))] [some v0,some v1,some v2,some v3,some v4,some (.ref p5),o6,o7,some v8,some v9,some v10,some (.ref sP),fP,eR,none,none,none] BO _;intro pd P4;have uD:Same BO (upd BO pd (.dK [])):=Same.upd P4;refine Du BD λH13 kR=>?_;have sD:=uD.trans kR;refine hU hκ hφ (.no (.no (.no (.no (.no (.no (.no (.no (.no (.da (P2.same (B':=AnyB) sD λ_ z=>z) (.no (.no (.no (.no (tl (n:=3)))))))))))))))) (d:=.list (rs.map ruD)) (Ev.of (yw (aD rfl) rfl (Dh _ _) (sM gZ rs))) λvb xO JZ rb=>?_;refine⟨JZ _ _ (kR _ _ bE),[(.inr "cruel",vb)],rfl,by show 1<=15;decide,?_⟩;have eM:vG [] [((.inr "cruel":Key),vb)]=[(.inr "cruel",vb)]:=rfl;rw[eM];have sF:Same BO (upd xO pd (.dK [(.inr "cruel",vb)])):=λa o e=>by rw[aL λz=>by rw[z,P4]at e;cases e];exact(sD.trans JZ) a o e
 have J4:Rep Z.K (upd xO pd (.dK [(.inr "cruel",vb)])) AnyB vb (.list (rs.map ruD)):=by
  obtain⟨pb,us,rfl,hpb,rus⟩:=rb;have P5:xO pd=some (.dK []):=JZ _ _ (kR _ _ bE);have kp:∀a o,xO a=some o->Fix o->upd xO pd (.dK [(.inr "cruel",.ref pb)]) a=some o:=λa o e z=>by rw[aL λw=>by rw[w,P5]at e;cases e;exact z];exact e
  refine⟨pb,us,rfl,?_,Reps.bG _ (sM gZ rs) (Reps.keep (B:=rX) (B':=rX) (λa o e z=>kp a o e (z.elim (λz=>z.elim) id)) (λ_ z=>z) _ (Reps.bG (B':=rX) _ (sM gZ rs) rus))⟩;rcases hpb with⟨h,_⟩|⟨h,_⟩
  ·refine .inl ⟨?_,trivial⟩;rw[aL λw=>by rw[w,P5]at h;cases h];exact h
  ·exact .inr ⟨FL.keep (B:=rX) (λa o e z=>kp a o e (z.elim (λz=>z.elim) id)) h,trivial⟩
 have J5:upd xO pd (.dK [(.inr "cruel",vb)]) pd=some (.dK [(.inr "cruel",vb)]):=bE;generalize upd xO pd (.dK [(.inr "cruel",vb)])=H15 at sF J4 J5 ⊢;show wS Z _ D0 [some v0,some v1,some v2,some v3,some v4,some (.ref p5),o6,o7,some v8,some v9,some v10,some (.ref sP),fP,eR,some (.ref pd),none,none] H15;have J6:=uO.trans (s9.trans (pB.trans sF));have P6:=r4.same (B':=AnyB) J6 λ_ z=>z;have P7:=r8.same (B':=AnyB) (s9.trans (pB.trans sF)) λ_ z=>z;have e15:Ev [] Φ63 (.lst (.cons (.eD "list" (.tv (.var 4))) (.cons (.eD "list" (.tv (.var 8))) .nil))) [none,none,none,none,some (.od,.list (dA ga)),none,none,none,some (.od,.list (dH cs)),none,none,none,none,none,none,none,none] (.list [.list (dA ga),.list (dH cs)]):=by obtain⟨ys,f1,f2⟩:=aF (Κ:=[]) (Φ:=Φ63) (ρ:=[none,none,none,none,some (.od,.list (dA ga)),none,none,none,some (.od,.list (dH cs)),none,none,none,none,none,none,none,none]) (Ev.of (yw (f:="list") (a:=.var 4) (aD rfl) rfl (Dh _ _) (Z' ga))) (aF (Ev.of (yw (f:="list") (a:=.var 8) (aD rfl) rfl (Dh _ _) (zlu cs))) aW);exact⟨bO ys,by rw[HM,f1,Res.aC,f2]⟩
 refine fD (hU hκ hφ (.no (.no (.no (.no (.da P6 (.no (.no (.no (.da P7 (.no (.no (.no (.no (.no (.no (tl (n:=2))))))))))))))))) e15 λv15 J7 Jl D6=>?_);show wS Z _ D0 [some v0,some v1,some v2,some v3,some v4,some (.ref p5),o6,o7,some v8,some v9,some v10,some (.ref sP),fP,eR,some (.ref pd),some v15,none] J7;have BP:∀{H':Hp},Same J7 H'->Sl Z.K H' [some v0,some v1,some v2,some v3,some v4,some (.ref p5),o6,o7,some v8,some v9,some v10,some (.ref sP),fP,eR,some (.ref pd),some v15,none] [none,none,none,none,none,none,none,none,none,none,none,none,none,none,none,some (.od,.list [.list (dA ga),.list (dH cs)]),none]:=λ{H'} s=>.no (.no (.no (.no (.no (.no (.no (.no (.no (.no (.no (.no (.no (.no (.no (.da (D6.same (B':=AnyB) s λ_ z=>z) (.no .nil))))))))))))))));refine fD (xE f0 (cS (hU hκ hφ (BP (Same.refl J7)) (sO (d:=.list (dA ga)) (aD rfl) aN.e rfl) λva H17 P8 rA=>?_)));refine cS (cG (v:=.ref pd) rfl (cS (hU hκ hφ (BP P8) (sO (d:=.list (dH cs)) (aD rfl) aN.e rfl) λvt H18 P9 rT=>gE ?_)));have uQ:=P8.trans P9;have fJ:=Jl.trans uQ;have kS:=sF.trans fJ;refine⟨ga,rs,cs,va,.ref pd,vt,AnyB,rfl,⟨hg,hw,rA.same P9 λ_ z=>z,⟨pd,_,rfl,fJ _ _ J5,trivial,⟨.inr "cruel",vb,[],rfl,rfl,BD,J4.same fJ λ_ z=>z,rfl⟩⟩,rT,hl,hr⟩,λH19 pf ra s19 hL=>?_⟩;have lw:LwA Z.K H18 ga rs cs v4 (.ref p5) v8 v9 (.ref sP) v15 pd:=⟨hg,hw,hl,hr,ha,P6.same fJ λ_ z=>z,JV.same (pB.trans kS) λ_ z=>z,P7.same fJ λ_ z=>z,P2.same kS λ_ z=>z,D5.same kS λ_ z=>z,⟨vb,fJ _ _ J5,J4.same fJ λ_ z=>z⟩,D6.same uQ λ_ z=>z⟩;exact zka (o0:=some v0) (o1:=some v1) (o2:=some v2) (o3:=some v3) (xK:=some v10) hκ hφ f0 lw s19 hL λH' s'=>q H' ((P0.trans (s8.trans (s9.trans (pB.trans kS)))).trans s')
end
def top (i:Nat):Stmt:=PySem.Challenge.pw_likebook_k63_readings_of_one_word.main.body.getD i (.Pass ⟨0,0,0,0⟩)
def Sb:Nat->S
 |0=>.nil
 |n+1=>.seq .bad (Sb n)
abbrev FREE:List Str:=["isinstance","str","len","range","list","min","max","ValueError","int","bool","enumerate","dict","sorted","tuple"]
abbrev P':List Str:=["reading","entries","number","names","holding"]
abbrev Qa:List Str:=["row","book","number","thing","reading","name","case","bound"]
abbrev Qb:List Str:=["row","book","known","found","number","thing","longer","reading"]
abbrev Qc:List Str:=["act","books","things","known","found","row"]
abbrev Nlw:List Str:=["_law_script","_law_small","_law_fors","_law_againsts","_law_rows","_law_cases","_law_k","_law_cell","_law_things","_law_book_here","_law_sides","_law_due_here","_law_code","_law_deal_here","_law_books","_law_handed","_law_found"]
abbrev Rz:List DRow:=[
 ⟨"check_side",top 6,["side"],["side"],["isinstance","str"],[],Bl,rZ,.n,[]⟩,
 ⟨"other_side",top 7,["side"],["side"],[],[0],Bm,mD,.n,[]⟩,
 ⟨"side_of",top 8,["case","side"],["case","side"],[],[0],Bo,iW,.n,[]⟩,
 ⟨"greatest",top 10,["pairs","found","name","amount"],["pairs"],["tuple","sorted","max"],[],wU,mE,.n,[]⟩,
 ⟨"degree",top 11,["one","name"],["one","name"],["dict"],[],wV,mF,.n,[]⟩,
 ⟨"over",top 13,["one","other","held"],["one","other"],["dict"],[],wW,kB,.n,[]⟩,
 ⟨"within",top 12,["one","other"],["one","other"],[],[5],wY,sE,.n,[]⟩,
 ⟨"ruling",top 15,["case","side","reason"],["case","side","reason"],[],[6,2],wZ,sG,.n,[]⟩,
 ⟨"opposed_of",top 16,["one"],["one"],[],[2,1],xb,mG,.n,[]⟩,
 ⟨"apart",top 18,["one","case","side","less","more"],["one","case"],[],[5,8,2,1],xg,sI,.n,[]⟩,
 ⟨"binds",top 17,["one","case"],["one","case"],[],[9],Iq,xh,.n,[]⟩,
 ⟨"binding",top 20,["book","case","k","one"],["book","case"],["enumerate"],[10],Dv,Ir,.n,[]⟩,
 ⟨"fullest",top 21,["case","side"],["case","side"],[],[7,2],Iu,Dw,.n,[]⟩,
 ⟨"of_facts",top 23,["act","thing","facts"],["act","thing"],["tuple"],[],Iv,Dx,.n,[]⟩,
 ⟨"pack_of",top 25,["names","thing","words"],["names","thing","words"],[],[3,4],Iw,Dy,.n,[]⟩,
 ⟨"case_of",top 26,["row","thing","words"],["row","thing","words"],[],[14],Iy,Dz,.n,[]⟩,
 ⟨"open_uses",top 29,["act","many"],["act","many"],["len"],[],Iz,DA,.n,[]⟩,
 ⟨"_law_cell_at",top 36,["_law_script","_law_k"],["_law_script","_law_k"],["len"],[],Ol,Bp,.n,[]⟩,
 ⟨"_law_mix",top 37,["_law_cell","_law_k","_law_some"],["_law_cell","_law_k"],[],[],IA,z4u,.n,[]⟩,
 ⟨"_law_degree",top 38,["_law_cell","_law_small"],["_law_cell","_law_small"],[],[],Om,yH,.n,[]⟩,
 ⟨"_law_pack",top 39,["_law_names","_law_cell","_law_small","_law_pairs","_law_k","_law_name","_law_count"],["_law_names","_law_cell","_law_small"],["tuple","enumerate"],[19,18],DB,zax,.n,[]⟩,
 ⟨"_law_within",top 40,["_law_one","_law_other","_law_name","_law_count"],["_law_one","_law_other"],[],[],IB,tZ,.n,[]⟩,
 ⟨"_law_binds",top 41,["_law_one","_law_case","_law_at"],["_law_one","_law_case"],["int"],[21],IC,Bq,.n,[]⟩,
 ⟨"_law_against",top 42,["_law_one","_law_other","_law_at"],["_law_one","_law_other"],["int"],[21],ID,Br,.n,[]⟩,
 ⟨"_law_book",top 43,["_law_script","_law_fors","_law_againsts","_law_small","_law_book_here","_law_k","_law_cell","_law_case","_law_at","_law_reason","_law_one"],["_law_script","_law_fors","_law_againsts","_law_small"],["range","tuple","enumerate"],[17,23,18,20],DC,IE,.n,[]⟩,
 ⟨"_law_side",top 44,["_law_book_here","_law_case","_law_one"],["_law_book_here","_law_case"],[],[22],IF,kP,.n,[]⟩,
 ⟨"_law_two",top 46,["_law_number","_law_many","_law_k"],["_law_number"],["range"],[],IG,yI,.n,[]⟩,
 ⟨"_law_deal",top 45,["_law_cases","_law_sides","_law_code","_law_deal_here","_law_k","_law_j","_law_stronger"],["_law_cases","_law_sides","_law_code"],["range","len"],[21,26],Bt,DD,.n,[]⟩,
 ⟨"_law_due",top 47,["_law_cases","_law_deal_here","_law_book_here","_law_grown_book","_law_rulings","_law_k","_law_case","_law_side_here","_law_one"],["_law_cases","_law_deal_here","_law_book_here"],["int","enumerate","list"],[25],DE,IH,.n,[]⟩,
 ⟨"continued",top 34,P',P'.take 4,FREE,[],Sb 3,aS [] [] 5 (Sb 3),.n,[]⟩,
 ⟨"ways",top 33,Qa,Qa.take 5,FREE,[12,11,15],Sb 5,aS [] Φy 8 (Sb 5),.n,[]⟩,
 ⟨"with_open",top 32,Qb,Qb.take 4,FREE,[],Sb 2,aS [] [] 8 (Sb 2),.n,[]⟩,
 ⟨"readings",top 30,Qc,Qc.take 3,FREE,[13,16],Sb 5,aS [] Φr 6 (Sb 5),.n,[]⟩]
abbrev Lr:DRow:=⟨"law",top 48,Nlw,["_law_script"],FREE,[26,28,27,25,24,17,20,18],Sb 20,aS [] Φ63 17 (Sb 20),.n,[]⟩
abbrev Xt:List XR:=[]
theorem mM:AZ (Rz++[Lr]) Xt FREE 0 (Rz++[Lr])=true:=by decide+kernel
theorem t_F:rO (Rz++[Lr]) (Rz++[Lr]):=⟨rfl,rfl,rfl,rfl,rfl,rfl,rfl,rfl,rfl,rfl,rfl,rfl,rfl,rfl,rfl,rfl,rfl,rfl,rfl,rfl,rfl,rfl,rfl,rfl,rfl,rfl,rfl,rfl,rfl,rfl,rfl,rfl,rfl,rfl,trivial⟩
inductive fK {α β:Type}(R:α->β->Prop):List α->List β->Prop where
 |nil:fK R [] []
 |cons {a:α} {b:β} {l:List α} {m:List β} (h:R a b) (t:fK R l m):fK R (a::l) (b::m)
theorem fK.at {α β:Type}{R:α->β->Prop}{l:List α}{m:List β}(h:fK R l m):∀{j:Nat} {a:α},l[j]?=some a->∃b,m[j]?=some b/\R a b:=by
 induction h with
 |nil=>intro j a e;cases e
 |cons h t ih=>
  intro j a e;cases j with
  |zero=>cases e;exact⟨_,rfl,h⟩
  |succ j=>exact ih e
section
variable (P:bx)(w:World)(K:W.Frag)(mg:Str->Option Value)(base:Heap)
abbrev FX (k:Nat)(f:Addr)(fd:eh)(ps:List Str)(sp:Sp):Prop:=FnOk P w K mg base (CXE P w base) k f fd ps sp
def Fc (r:Nat)(x:Str×Nat)(sp:Sp):Prop:=∃f fd ps k,k<=r/\FX P w K mg base k f fd ps sp/\mg x.1=some (.ref f)/\W.keepIn K (.ref f)=true/\Binds K fd ps []
variable {P w K mg base}
theorem zsc {Γ:Gw}{Z:Wc}{r:Nat}(e1:Z.K=K)(e2:Z.mg=mg)(f:fK (Fc P w K mg base r) Γ.fn Z.fn)(g:fK (λ(x:Str) (n:Int)=>∃t,mg x=some (.int n t)) Γ.gi Z.gi)(h1:Γ.me=[])(h2:Γ.cl=[])(h3:Γ.hf=[])(h4:Γ.md=[])(h5:Γ.mq=[]):Zok Γ Z (CXE P w base) P w K mg base r where
 kk:=e1
 mm:=e2
 fn:=λj x n e=>by obtain⟨sp,e1,f,fd,ps,k,h1,h2,h3,h4,h5⟩:=f.at e;exact⟨sp,f,fd,ps,k,e1,h1,h2,h3,h4,h5⟩
 me:=λj x n e=>by rw[h1]at e;cases e
 cl:=λj x n e=>by rw[h2]at e;cases e
 gi:=λj x e=>by obtain⟨n,e1,t,e2⟩:=g.at e;exact⟨n,t,e1,e2⟩
 hf:=λj x n e=>by rw[h3]at e;cases e
 md:=λj x n e=>by rw[h4]at e;cases e
 mq:=λj x n e=>by rw[h5]at e;cases e
end
abbrev gM (st:Stmt)(N:List Str)(fns:List (Str×Nat)):Gm:={N:=N,sc:=z09 st,free:=FREE,fns:=fns,cst:=[],sub:=(Xt.map XR.subs).flatten,rs:=Xt.map (·.c),iA:=Xt.map λr=>(r.c,r.B)}
abbrev gH (r:DRow)(fn fns:List (Str×Nat))(gi:List Str):Gw:={g:=gM r.st r.N fns,fn:=fn,me:=[],cl:=[],gi:=gi}
abbrev zH (K:W.Frag)(mg:Str->Option Value)(fn:List Sp)(Φ:List Fn)(gi:List Int):Wc:={K:=K,mg:=mg,Κ:=[],Φ:=Φ,E:=λ_ _ _=>False,fn:=fn,me:=[],cl:=[],gi:=gi}
theorem BQ {i:Nat}(h:AZ Rs Xt FREE 0 Rs=true)(e:Rs[i]?=some r):FnScope r.N r.ps (z09 r.st):=(A0 (Hl h e)).1
theorem to0 {P:bx}{w:World}{K:W.Frag}{mg:Str->Option Value}{base:Heap}{k:Nat}{f:Addr}{fd:eh}{ps:List Str}{sp Qd:Sp}(F:FnOk P w K mg base (CXE P w base) k f fd ps sp)(h:∀vs H Q E,Qd vs H Q E->sp vs H Q λ_ _ _=>False):FnOk P w K mg base nW k f fd ps Qd:=
 ⟨λvs H Q E q=>F.len vs H Q _ (h _ _ _ _ q),λA outer s H args us vs Q E hr he hb hv hs=>om (F.run A outer s H args us vs Q _ hr he hb hv (h _ _ _ _ hs)) λr s' z=>by
  cases r with
  |error e=>obtain⟨_,_,_,_,_,_,z⟩:=z;exact z.elim
  |ok x=>cases x<;>exact z⟩
def yS:Fn:=λds=>match ds with
 | [.list xs]=>if(xs.all λx=>match x with|.int _=>true|_=>false)&&decide (xs.length<=63)then .ok (.fr,.bool true)else .no
 |_=>.no
theorem zue {xs:List Int}(hl:xs.length<=63):yS [.list (xs.map .int)]=.ok (.fr,.bool true):=by show(if((xs.map PyData.int).all _&&decide ((xs.map PyData.int).length<=63))=true then Res.ok (G.fr,PyData.bool true)else Res.no)=_;rw[vg];rw[ac,vn hl,Bool.and_true,List.all_map,b8];intro x _;rfl
theorem kU:∀{ys:List D},(ys.all λx=>match x with|.int _=>true|_=>false)=true->∃xs:List Int,ys=xs.map .int
 | [],_=>⟨[],rfl⟩
 |y::ys,h=>by
  rw[cv,av]at h;obtain⟨xs,e⟩:=kU h.2;cases y with
  |int i=>exact⟨i::xs,by rw[e];rfl⟩
  |_=>cases h.1
section
variable {P:bx}{w:World}{K:W.Frag}{mg:Str->Option Value}{base:Heap}
structure Tx (K:W.Frag)(mg:Str->Option Value):Prop where
 T:∀n∈FREE,mg n=none
 xk:∀Γ:Gm,Γ.sub=(Xt.map XR.subs).flatten->Γ.rs=Xt.map (·.c)->(Γ.iA=Xt.map λr=>(r.c,r.B))->wH Γ K mg
 mu:∃t,mg "MOST_USES"=some (.int 8 t)
def Fd (P:bx)(w:World)(K:W.Frag)(mg:Str->Option Value)(base:Heap)(k:Nat)(x:Str×Nat)(m:Fn):Prop:=∃ps k',k'<=k/\Cal P w K mg base k' x.1 ps (spD K x.2 m)/\oQ P w K mg base k' x.1 ps x.2 m
theorem fdD (h:tN P w K mg base i r)(hk:r.kd=.n)(hi:i+1<=k):Fd P w K mg base k (r.nm,r.ps.length) r.F:=by unfold tN at h;rw[hk]at h;exact⟨r.ps,i+1,hi,h.1,h.2⟩
theorem J8 (t:Tx K mg){st:Stmt}{N:List Str}{k:Nat}{fns:List (Str×Nat)}{Φ:List Fn}(h:fK (Fd P w K mg base k) fns Φ):Dok (gM st N fns) [] Φ P w K mg base k where
 free:=λx hx=>t.T x (c8.mp hx)
 fns:=λj f n e=>by obtain⟨m,e1,ps,k',h1,h2,h3⟩:=h.at (show fns[j]?=some (f,n)from e);exact⟨m,k',ps,e1,h1,h2⟩
 cst:=λj x e=>by cases e
 pP:=λj f n e=>by obtain⟨m,e1,ps,k',h1,h2,h3⟩:=h.at (show fns[j]?=some (f,n)from e);exact⟨m,k',ps,e1,h1,h3⟩
 xk:=t.xk _ rfl rfl rfl
theorem wm63 {r:DRow}{s:WS}{x qual:Str}{f:Addr}{fd:eh}{sp:Sp}{k:Nat}{fns fn:List (Str×Nat)}{gi:List Str}{Φ:List Fn}{fS:List Sp}{gS:List Int}(t:Tx K mg)(Fu:Fun K x qual r.st f fd)(Sc:FnScope r.N r.ps (z09 r.st))
  (a0:fK (Fd P w K mg base k) fns Φ:=by exact .nil) (a1:fK (Fc P w K mg base k) fn fS:=by exact .nil) (a2:fK (λ(x:Str) (n:Int)=>∃t,mg x=some (.int n t)) gi gS:=by exact .nil)
  (hc:wkL (gH r fn fns gi) s (z0o r.st)=true:=by decide+kernel) (run:∀vs H Q E (zG:Prop),(vs.length=r.ps.length->wS {zH K mg fS Φ gS with E:=E} s {nx:=λ_ H'=>Q .bA H',rt:=Q} (start r.N vs) H->zG)->sp vs H Q E->zG):FX P w K mg base (k+1) f fd r.ps sp:=
 Il (Γ:=gH r fn fns gi) (Z:=zH K mg fS Φ gS) Fu Sc rfl rfl (J8 t a0) (λE=>zsc rfl rfl a1 a2 rfl rfl rfl rfl rfl) rfl (.inl rfl) hc (λvs H Q E=>run vs H Q E _ λa _=>a) λvs H Q E=>run vs H Q E _ λ_ b=>b
theorem zvb (t:Tx K mg)(dd:∀i r,i<29->(Rz++[Lr])[i]?=some r->tN P w K mg base i r)(O:∀i r,i<33->(Rz++[Lr])[i]?=some r->Own K mg r.nm r.st r.ps){f:Addr}{fd:eh}(Fl:Fun K "law" "law" (top 48) f fd):FnOk P w K mg base nW 34 f fd ["_law_script"] (spD K 1 yS):=by
 obtain⟨f1,fd1,Fu1,m1,k1,b1⟩:=O 29 _ (by decide) rfl;obtain⟨f2,Ob,Fu2,m2,k2,b2⟩:=O 30 _ (by decide) rfl;obtain⟨f3,fd3,Fu3,m3,k3,b3⟩:=O 31 _ (by decide) rfl;obtain⟨f4,fd4,Fu4,m4,k4,b4⟩:=O 32 _ (by decide) rfl;have d:∀{i k:Nat} {r:DRow},(Rz++[Lr])[i]?=some r->i<29->r.kd=.n->i<k->Fd P w K mg base k (r.nm,r.ps.length) r.F:=λe hi hk h=>fdD (dd _ _ hi e) hk h;have A1:Fc P w K mg base 30 ("continued",4) (spCt K):=⟨f1,fd1,_,30,ag _,wm63 (s:=L63.ct) t Fu1 (BQ mM (i:=29) rfl) (run:=by rintro _ _ _ _ _ zq ⟨v,ve,pn,k,o,es,hs,ns,B,rfl,rv,re,rn,ok,on,hk,hl,ho,hx,hn,q⟩;exact zq rfl (zot rfl rfl rv re rn ok on hk hl ho hx hn q)),m1,k1,b1⟩;have A2:Fc P w K mg base 31 ("ways",5) (spWy K):=⟨f2,Ob,_,31,ag _,wm63 (s:=L63.wy) t Fu2 (BQ mM (i:=30) rfl) (a0:=.cons (d (i:=12) rfl (by decide) rfl (by decide)) (.cons (d (i:=11) rfl (by decide) rfl (by decide)) (.cons (d (i:=15) rfl (by decide) rfl (by decide)) .nil))) (a1:=.cons A1 .nil) (run:=by rintro _ _ _ _ _ zq ⟨ga,rs,c,k,o,hs,vr,vb,vt,v,B,rfl,a,q⟩;exact zq rfl (zru rfl rfl rfl a q)),m2,k2,b2⟩;have A3:Fc P w K mg base 32 ("with_open",4) (spWo K):=⟨f3,fd3,_,32,ag _,wm63 (s:=L63.wo) t Fu3 (BQ mM (i:=31) rfl) (a1:=.cons A2 .nil) (run:=by rintro _ _ _ _ _ zq ⟨ga,rs,cs,p0,ra0,vr,vb,vk,B,rfl,a,q⟩;exact zq rfl (zoz rfl rfl rfl a q)),m3,k3,b3⟩;have A4:Fc P w K mg base 33 ("readings",3) (spRd K):=⟨f4,fd4,_,33,ag _,wm63 (s:=L63.rg) t Fu4 (BQ mM (i:=32) rfl) (a0:=.cons (d (i:=13) rfl (by decide) rfl (by decide)) (.cons (d (i:=16) rfl (by decide) rfl (by decide)) .nil)) (a1:=.cons A3 .nil) (a2:=.cons (b:=8) t.mu .nil) (run:=by rintro _ _ _ _ _ zq ⟨ga,rs,cs,va,vb,vt,B,rfl,a,q⟩;exact zq rfl (zpd rfl rfl rfl rfl a q)),m4,k4,b4⟩
 let sp:Sp:=λvs H Q _=>∃(v0:V) (xs:List Int) (B:Ad->Prop),vs=[v0]/\Rep K H B v0 (.list (xs.map PyData.int))/\∀H',Same H H'->Q (.bl true) H'
 have F8:FX P w K mg base 34 f fd ["_law_script"] sp:=wm63 (r:=Lr) (s:=L63.lw) t Fl (BQ mM (i:=33) rfl) (a0:=.cons (d (i:=26) rfl (by decide) rfl (by decide)) (.cons (d (i:=28) rfl (by decide) rfl (by decide)) (.cons (d (i:=27) rfl (by decide) rfl (by decide)) (.cons (d (i:=25) rfl (by decide) rfl (by decide)) (.cons (d (i:=24) rfl (by decide) rfl (by decide)) (.cons (d (i:=17) rfl (by decide) rfl (by decide)) (.cons (d (i:=20) rfl (by decide) rfl (by decide)) (.cons (d (i:=18) rfl (by decide) rfl (by decide)) .nil)))))))) (a1:=.cons A4 .nil) (run:=by rintro _ _ _ _ _ zq ⟨v0,xs,B,rfl,r0,q⟩;exact zq rfl (zpe rfl rfl rfl r0 q));refine to0 F8 λvs H Q E ⟨A,ds,x,h1,h2,h3,q⟩=>?_;unfold yS at h3;split at h3
 ·rename_i ys;split at h3
  ·rename_i hc;rw[av,decide_eq_true_eq]at hc;cases h3;obtain⟨xs,rfl⟩:=kU hc.1;obtain⟨v,t,rfl,r0,hr⟩:=h2;have:t=[]:=hr;subst this;exact⟨v,xs,A,rfl,r0,λH' s=>q (.bl true) H' s rfl⟩
  ·cases h3
 ·cases h3
end
section
variable {w:World}{K:W.Frag}{mg:Str->Option Value}
theorem all63 {l:W.OpenLaw}{h:Heap}{fa:Addr}(X:K.In h)(G:h.Ns bz mg)(hfa:mg "law"=some (.ref fa))(hK:kOks K Rz)(kl:∃f fd,Kf K Lr f fd)(hz:∀n∈FREE,W.nsIn K bz n=some none)(hkx:kxs K Xt)(mu:∃t,W.nsIn K bz "MOST_USES"=some (some (.int 8 t))):
  ∃fd:eh,(∀(s:af) (v:Value),qd s fd ⟨[v],[]⟩ [("_law_script",v)])/\∀base:Heap,K.In base->base.Ns bz mg->FnOk l.prog w K mg base nW 34 fa fd ["_law_script"] (spD K 1 yS):=by
 obtain⟨f,fd,a,oc,od,an,sl,kV,dc,pm,cd,ct,rfl,lk,hc,hk⟩:=kl;have e:=hfa.symm.trans (W.mg_of X G a);cases e;have T:∀n∈FREE,mg n=none:=λn hn=>W.mg_none_of X G (hz n hn);refine⟨W.fnOf "law" "law" (z1a (top 48)) (z0o (top 48)) (z09 (top 48)) .none kV dc pm an cd ct,λs v=>.of_eq rfl,λbase _ _=>?_⟩;have O:∀i r,i<33->(Rz++[Lr])[i]?=some r->Own K mg r.nm r.st r.ps:=λi r hi e=>by rw[fq (show i<Rz.length from hi)]at e;obtain⟨⟨f,fd,a,oc,od,an,sl,kV,dc,pm,cd,ct,rfl,lk,hc,hk⟩,hb⟩:=M8 hK e;exact znr X G a lk hc hk hb
 have xk:∀Γ:Gm,Γ.sub=(Xt.map XR.subs).flatten->Γ.rs=Xt.map (·.c)->(Γ.iA=Xt.map λr=>(r.c,r.B))->wH Γ K mg:=λΓ h1 h2 h3=>WD X G hkx (λ_=>T "ValueError" (by decide)) h1 h2 h3;have J9:((Rz++[Lr]).all λr=>r.kc.isEmpty)=true:=rfl;have hCs:∀r∈Rz++[Lr],∀y∈r.kc,Hm K mg y:=λr hr y hy=>by have:=b8.mp J9 r hr;rw[ln.mp this]at hy;cases hy
 obtain⟨t,mu⟩:=mu;exact zvb ⟨T,xk,t,W.mg_of X G mu⟩ (λi r hi e=>WG mM t_F T xk 29 hCs (λi r hi e=>O i r (by omega) e) i r hi e) O (E4 (st:=top 48) lk hc hk)
end
def xP:DefRec:=⟨"law",z1a (top 48),z0o (top 48),z09 (top 48),⟨186,0,214,72⟩⟩
theorem Eb:KEq yV (Rz++[Lr]) FREE Xt:=by
 rw[PySem.W.Fast.tkeq_eq];intro P
 kernel_rfl
theorem zT1:Tp.said PySem.Challenge.rw_likebook_k63_readings_of_one_word=true:=by
 rw[PySem.W.Fast.tsaid_eq]
 kernel_rfl
theorem zT2:W.opening nH=W.plainProg nH.main.scope.names:=by kernel_rfl
theorem zT3:∀s,fenceModules? nH s=some s:=λs=>by kernel_rfl
theorem zT4:W.defOf yU PySem.Challenge.rw_likebook_k63_readings_of_one_word.row.name=some (xP,[]):=by kernel_rfl
theorem zT5:nH.theDef PySem.Challenge.rw_likebook_k63_readings_of_one_word.row.name=some (xP.params,xP.body,xP.scope):=by kernel_rfl
theorem zT6:W.kwWritten? xP.params.kwonlyargs xP.params.kw_defaults=some []:=by kernel_rfl
theorem zT7:(!PySem.Challenge.rw_likebook_k63_readings_of_one_word.row.writes||PySem.Challenge.rw_likebook_k63_readings_of_one_word.row.records.isEmpty)=true:=by kernel_rfl
theorem zT8:(W.chainsOk yU&&W.opensWell nH&&(W.frees PySem.Challenge.rw_likebook_k63_readings_of_one_word.row.toRowW&&PySem.Challenge.rw_likebook_k63_readings_of_one_word.row.within.isEmpty))=true:=by kernel_rfl
theorem walk {l:W.OpenLaw}{q:bx}{loose:List Str}{XP:(Str->Option Value)->Heap->Prop}{YP:World->Heap->Prop}{d:DefRec}{K:fz->W.Frag}(hn:l.most=some 63)(hdf:d.params.defaults=[])
  (hY:∀(w:World) (h:Heap),YP w h->(K w.params).In h)
  (F:∀(w:World) (mg:Str->Option Value) (fa:Addr) (h:Heap),(K w.params).In h->h.Ns bz mg->mg d.name=some (.ref fa)->∃fd:eh,(∀(s:af) (u:Value),qd s fd ⟨[u],[]⟩ [("_law_script",u)])/\∀base:Heap,(K w.params).In base->base.Ns bz mg->FnOk l.prog w (K w.params) mg base nW 34 fa fd ["_law_script"] (spD (K w.params) 1 yS)):
  W.WalkO q loose XP YP l.row.toRowW d [] (λf vs=>PySem.call f vs):=
 L2.walk_of (n:=63) (k:=34) (x:="_law_script") (CX:=λ_=>nW) (sp:=λw=>spD (K w.params) 1 yS) hn (by decide) hdf ⟨rfl,by decide,by decide⟩ hY F (λ_ _ a ns hl _ hS=>⟨_,_,_,rfl,WC hS,zue hl,λv H' _ r=>r⟩) λ_ _ _ _ _ z=>z
theorem kX:KXq yV [] [("MOST_USES",8)]:=by
 rw[PySem.W.Fast.tkxq_eq];intro P
 kernel_rfl
theorem J':wK Rz:=⟨λ_ _ _ _ _ _=>yq λ_=>rfl,λ_ _ _ _ _ _=>yq λ_=>rfl,λ_ _ _ _ _ _=>iE λ_ _=>rfl,λ_ _ _ _ _ _=>yq λ_=>rfl,λ_ _ _ _ _ _=>iE λ_ _=>rfl,λ_ _ _ _ _ _=>iE λ_ _=>rfl,λ_ _ _ _ _ _=>iE λ_ _=>rfl,λ_ _ _ _ _ _=>tO λ_ _ _=>rfl,λ_ _ _ _ _ _=>yq λ_=>rfl,λ_ _ _ _ _ _=>iE λ_ _=>rfl,λ_ _ _ _ _ _=>iE λ_ _=>rfl,λ_ _ _ _ _ _=>iE λ_ _=>rfl,λ_ _ _ _ _ _=>iE λ_ _=>rfl,λ_ _ _ _ _ _=>iE λ_ _=>rfl,λ_ _ _ _ _ _=>tO λ_ _ _=>rfl,λ_ _ _ _ _ _=>tO λ_ _ _=>rfl,λ_ _ _ _ _ _=>iE λ_ _=>rfl,λ_ _ _ _ _ _=>iE λ_ _=>rfl,λ_ _ _ _ _ _=>iE λ_ _=>rfl,λ_ _ _ _ _ _=>iE λ_ _=>rfl,λ_ _ _ _ _ _=>tO λ_ _ _=>rfl,λ_ _ _ _ _ _=>iE λ_ _=>rfl,λ_ _ _ _ _ _=>iE λ_ _=>rfl,λ_ _ _ _ _ _=>iE λ_ _=>rfl,λ_ _ _ _ _ _=>by4 λ_ _ _ _=>rfl,λ_ _ _ _ _ _=>iE λ_ _=>rfl,λ_ _ _ _ _ _=>yq λ_=>rfl,λ_ _ _ _ _ _=>tO λ_ _ _=>rfl,λ_ _ _ _ _ _=>tO λ_ _ _=>rfl,λ_ _ _ _ _ _=>by4 λ_ _ _ _=>rfl,λ_ _ _ _ _ _=>WH λ_ _ _ _ _=>rfl,λ_ _ _ _ _ _=>by4 λ_ _ _ _=>rfl,λ_ _ _ _ _ _=>tO λ_ _ _=>rfl,trivial⟩
end Mk
open PySem PySem.W PyProof.Rows Mi
set_option maxRecDepth 100000 in
set_option maxHeartbeats 0 in
theorem PySem.Challenge.cw_likebook_k63_readings_of_one_word_holds : PySem.Challenge.rw_likebook_k63_readings_of_one_word.Holds := by
 refine Tp.holds (l:=PySem.Challenge.rw_likebook_k63_readings_of_one_word) (q:=Mk.yU) (d:=Mk.xP) (K:=Mk.yV) (M:=100000) (N:=200000) Mk.zT1 (Tp.yT _ _ Mk.BS) Mk.zT2 rfl Mk.zT3 (by decide) Mk.Qf Mk.Qg Mk.zT4 Mk.zT5 Mk.zT6 Mk.zT7 Mk.zT8 ⟨rfl,rfl,rfl,rfl,rfl,by decide+kernel⟩ (by w_witness2) ?_;refine Mk.walk (l:=PySem.Challenge.rw_likebook_k63_readings_of_one_word) rfl rfl (λw h aB=>aB) ?_;intro w mg fa h KX G zE;exact Mk.all63 KX G zE (Nd (λr hr=>(C9 Mk.Eb w.params).1 r (bu _ hr)) Mk.J') ((C9 Mk.Eb w.params).1 Mk.Lr (ay _ (.head _))) (C9 Mk.Eb w.params).2.1 (C9 Mk.Eb w.params).2.2.1 ((X1 Mk.kX w.params).2 ("MOST_USES",8) (.head _))
