import PyProof.Rows.All
import Wide.All
import OpenK.AllK
import PySem.Challenge.RW_likebook_k54_askings
open Lean.Parser.Command in
local macro_rules|`(def $a:declId $b:optDeclSig $c:declVal)=>`(noncomputable def $a:declId $b:optDeclSig $c:declVal)
noncomputable section
open Array renaming length_toList→cv,getElem?_eq_some_iff→e8,toArray_toList→fm,all_toList→jq,getElem?_eq_getElem→kq,getElem?_toList→l6,toList_append→m9,append_assoc→nv,find?_toList→n7
open Bool renaming and_eq_true→au,and_eq_true_iff→ba,false_ne_true→ca,or_eq_true_iff→d8,eq_iff_iff→j1,not_eq_true'→kx,beq_eq_decide_eq→l7,eq_false_iff→o9,or_true→pe
open Char renaming toNat→fo
open Int renaming eq_ofNat_of_zero_le→d4,emod_nonneg→i8,toNat_natCast→jk,emod_lt_of_pos→ol,ofNat_le→pr
open List renaming mem_singleton→ah,mem_cons_of_mem→ai,mem_cons_self→aj,length_map→ak,getD_eq_getElem?_getD→ao,mem_cons→aq,length_append→ax,length_cons→ay,replicate→bd,getElem?_eq_some_iff→bg,mem_append→bh,all_eq_true→bj,size_toArray→bn,getElem?_eq_getElem→bo,mem_append_right→bq,map_cons→br,getElem?_map→bu,append_nil→bx,getElem?_set_ne→bz,map_append→b8,contains_iff_mem→ce,getElem?_set_self→cg,getElem?_replicate→ci,all_cons→cj,mem_map→cr,length_replicate→cu,lookup_cons→cy,map_inj_left→cz,length_take→c8,length_set→c9,mem_append_left→db,mem_of_getElem?→de,find?_cons→dg,length_drop→dh,filterMap_cons→dj,getElem?_set→dk,range→dm,length_range→du,map_map→dv,getElem?_append_left→ec,mem_range→ew,length→fj,filter_eq_self→fv,length_eq_zero_iff→f8,getElem?_cons_succ→f9,eq_nil_of_length_eq_zero→gh,nodup_cons→gq,dropLast_concat_getLast→gr,getElem?_eq_none→gz,append_assoc→ib,nodup_append→ig,getElem?_append_right→ij,mem_of_mem_drop→ik,mem_of_mem_take→il,not_mem_nil→iz,drop_eq_getElem_cons→i3,any_cons→i5,lookup→ja,any_eq_true→jt,getElem?_append→jx,length_pos_iff→j4,mem_filterMap→j8,contains_cons→ka,drop_drop→kj,mem_of_find?_eq_some→kr,ext_getElem?→ky,filterMap_cons_none→k8,filterMap_cons_some→k9,append_cancel_right→la,getElem_mem→ll,mem_flatten→lm,drop_length→ln,find?_cons_of_pos→lw,all_map→lx,of_mem_zip→lz,dropLast_eq_take→l8,length_dropLast→mh,map_id→mr,drop_left→mu,replicate_succ→my,map_congr_left→mz,flatMap_append→nh,Pairwise→nq,sum_cons→nr,getElem?_drop→oh,find?_eq_none→om,take_sublist→oy,flatten_cons→pa,set_set→pf,pairwise_map→pj,flatMap_cons→pp
open List.Pairwise renaming imp_of_mem→lb
open Nat renaming le_refl→ag,le_trans→bp,lt_of_lt_of_le→bv,ne_of_lt→b9,lt_irrefl→cx,zero_le→c7,toDigits→di,succ_le_succ→d3,le_add_right→gb,le_succ→gc,min_eq_left→gu,le_of_succ_le_succ→jm,lt_succ_self→jo,toDigits_append_toDigits→j2,lt_trans→j6,repr_eq_ofList_toDigits→j7,lt_of_le_of_lt→ki,length_toDigits_le_iff→km,le_succ_of_le→k4,digitChar→lc,toDigits_of_lt_base→lp,ne_of_gt→lq,strongRecOn→l4,one_lt_two→mo,add_sub_cancel'→mx,add_le_add_left→m8,le_of_lt→on,le_of_eq→oq,lt_or_ge→pi
open Option renaming map_eq_some_iff→cw,isNone_iff_eq_none→ee,bind_eq_some_iff→jd,isSome_map→ji
open Prod renaming fst→ph,snd→qb
open PyProof.Rows renaming AllBare→j5,subscriptTail_builtinR→lu,size_push'→ly,envOfC→md,IntsAre→mw,Constant_none→ni
open PySem renaming wpAny_bind→aa,PyData→ae,wpAny_pure→am,sizeLine→av,Shared→aw,mainGlobals→bc,wpAny_loadPart_at→bw,sizeLine_eq→cb,Program→cc,compareOp→cf,starEach→cn,bootBuiltins→cq,wpAny_field→df,behindInMarks→dq,wpAny_truthy_bool→dt,assignEach→dw,wpAny_setField_rec→dz,NameKind→d5,Params→d9,FuncData→ef,wpAny_holding→ei,PassesOwn→ej,foldedSetIterable→ek,wpAny_callSpecial?_slot→en,binaryOp→eo,wpAny_Call_Name_kw→ey,wpAny_seqItems→ez,Around→e9,wpAny_passesOwn→fh,wpAny_newObj_type→fk,wpAny_isSubtype_exc→fq,wpAny_call_entry→fy,wpAny_getItem_str_slice→fz,sysModules→gj,wpAny_mono→gk,tupleKind_room_in1→gm,letOwnedTupleGo→gp,attributeBase→gv,wpAny_standAt→gw,noteFrame→gx,backTo→gy,codeAny_call_builtin→ip,swapsWith→iu,codeAny_mono→iw,rawInt→i4,importedModules→i7,Paired→i9,sliceBounds→jb,setFlight→jc,treeTable→jf,wpAny_pyIter_list→jg,codeAny→jh,wpAny_setField→jl,plainObj_wpAny_Assign_Attribute→jn,call_meets→jp,checkBuiltinCall→jr,wpAny_onRaise→ju,OsState→jv,unbindBehindTheSuite→jy,wpAny_execs_nil→jz,post_val_or_str→j0,wpAny_rule→j9,isInstance→kb,keywordEach→ku,wpAny_comprehension_free→k6,tupleKind→lg,lastMarks→li,noFill_tuple_add→lj,Keyword→lr,concat_meets→ls,wpAny_isTrue_Compare1→l5,wpAny_loadName_local→l9,sliceRange_one→mf,Operator→mj,excClassObj→ml,handleBy→mn,wpAny_raiseNew_none→m7,swapsWithSole→nj,swappedStores→nk,seq_tuple_add→nn,wpAny_Name→ny,assign→nz,wpAny_call→n9,IsPart→oa,typeIs_str→og,wpAny_pyIter_tuple→oj,wpAny_assign_Name→oo,BindsTo→ox,valueAt→oz,getItem→o0,backToKw→o4,call_meetsIn→o5,seqIndex_neg→o6,slot_list_getitem→o7,callerA→o8,wpAny_pyIter_enum→pb,OwnTail→pc,GenState→pd,isTrue→pu,pyNext→pv,pyIter→pw,seqIndex_of→py,wpAny_letGo→p3,builtinKind→p4,leaving→p5,builtinsNs→p6,wpAny_load→p7,bindArgs→p8,PlainAttrs→p9,excMatches→qa,getAttr→qc,typeOf→qd
open PySem.Builtin.Slice renaming slicePlaces→fg,sliceAdjust→kn
open PySem.Builtin.SmallTypes renaming ownedTupleIsFree→i6,nextOf→ko
open PySem.Builtin.Str renaming occurrences→d0,strSliceIndices→eu,strKind→m5
open PySem.Calls renaming Name_function_global→ii,callWith_builtin→jj,evalArgs_plain→jw,loadGlobal_global→lh,spliced_cons→n8,spliced_nil→ow
open PySem.Heap renaming get?_push_of_some→af,get?_push_size→az,lt_size→bb,SameBut→b7,get?_update_other→d6,get?_update_self→eh,get?_none_of_le→fi,get?_update_ne→j3,MadeExcOf→ke,get?_push_at→kz,size_push→ma
open PySem.Heap.Ns1 renaming of_empty→ou
open PySem.Heap.SameBut renaming update→m6
open String renaming toList_ofList→mv
set_option Elab.async false
set_option genInjectivity false
set_option genSizeOf false
set_option linter.all false
set_option maxRecDepth 100000
theorem dc {p:Prop} [Decidable p] (h:decide p=true:=by rfl):p:=by simpa using h
theorem qe {c:Prop}{d:Decidable c}(h:c){α:Sort _}{a b:α}:@ite α c d a b=a:=if_pos h
theorem qf {c:Prop}{d:Decidable c}(h:¬c){α:Sort _}{a b:α}:@ite α c d a b=b:=if_neg h
theorem qg {α}{a b:α}(h:some a=some b):a=b:=Option.some.inj h
theorem qh {α β}{a c:α}{b d:β}(h:(a,b)=(c,d)):a=c∧b=d:=Prod.mk.inj h
theorem qi {a:Prop}(h:¬¬a):a:=Classical.not_not.mp h
theorem qj {p:Prop} [Decidable p] (h:decide p=true):p:=of_decide_eq_true h
theorem qk {p:Prop} [Decidable p] (h:p):decide p=true:=decide_eq_true h
theorem ql {p:Prop} [Decidable p] (h:¬p):decide p=false:=decide_eq_false h
theorem qm {α} [BEq α] [LawfulBEq α] {a b:α}(h:(a==b)=true):a=b:=beq_iff_eq.mp h
abbrev Ue (x:PySem.Str):Prop:=(x==("__debug__":PySem.Str))=false
namespace Tp
open PySem PySem.W PyProof.Rows
def q0:Pos:=⟨0,0,0,0⟩
def an:Option Value:=some (.ref 6)
def ev (p:cc):Env:={scope:=p.main.scope,locals:=mainNs,globals:=mainNs,cells:=[],code:=.ref 13,frame:=some 14}
def cd (p:cc):Code:=.body (behindTheImports p) (ev p)
def grow:List Obj->Nat->BT->BT
 | [],_,t=>t
 |o::l,i,t=>grow l (i+1) (t.ins i o)
def lift (s:aw):SharedT:=⟨grow s.heap.objs.toList 0 .nil,s.heap.objs.size,s.heap.life,s.gens,s.drawn,s.toks,s.os⟩
def pre (p:cc)(H:d9->Heap)(d:Drawn)(k:Nat)(w:World)(os:jv):Option (aw×Thread):=topGo jf p w 11 an 12 ⟨H w.params,#[],d,k,os⟩ (topStub p)
def oA (p:cc)(H:d9->Heap)(d:Drawn)(k:Nat)(w:World)(os:jv):SharedT:=lift (((pre p H d k w os).map ph).getD ⟨H w.params,#[],d,k,os⟩)
def run (p:cc)(H:d9->Heap)(d:Drawn)(k N:Nat)(w:World)(os:jv):Option (Flow×SharedT×Code×Pos):=segRunT jf p w 11 an 1 N (oA p H d k w os) (piecesOf (behindTheImports p) (ev p) (cd p) q0 [topFrame q0])
def PreEq (p:cc)(H:d9->Heap)(d:Drawn)(k:Nat):Prop:=∀(w:World) (os:jv),((H w.params).isNs bc&&(#[]:Array pd).size==0,(H w.params).objs.size,(H w.params).nsMap bc "__annotations__",pre p H d k w os,λs c=>segRun jf p w 11 an 1 1 s (blockOf (behindTheImports p) (ev p) c q0 [topFrame q0]))=(true,11,an,some ((oA p H d k w os).abs,⟨denote jf (cd p),cd p,q0,[topFrame q0]⟩),λs c=>some (.next,s,c,q0))
def seen (p q:cc)(R:WRecords)(as:List Addr)(H:d9->Heap)(w:World)(s:SharedT):=(staticsOk (i7 p.main.body) (H w.params) s.abs.heap&&namesBound p s.abs.heap&&gensDone s.abs&&laidKept (H w.params) s.abs.heap,openSeen q [] (i7 p.main.body) (λs=>xlAt q [] s&&recOk R s) true s.abs,as.map s.abs.heap.get?)
def pick {α:Type}(f:SharedT->α):Flow×SharedT×Code×Pos->Option (Code×α)
 |(.next,s,c,_)=>some (c,f s)
 |_=>none
def jO (p q:cc)(R:WRecords)(as:List Addr)(K:d9->List (Addr×Obj))(H:d9->Heap)(d:Drawn)(k N:Nat):Prop:=∀(w:World) (os:jv),(run p H d k N w os).bind (pick (seen p q R as H w))=some (cd p,true,openGood q [],(K w.params).map λx=>some x.2)
theorem zo (b:String->Option Builtin)(p:cc)(w:World)(n:Nat)(a:Option Value)(s:aw)(c:Code)(ps q:Pos):topRun b p w n a 2 s ⟨doneF .next,c,ps,[topFrame q]⟩=some s:=by rfl
theorem left {K:d9->List (Addr×Obj)}(o:∀w,(fencedOpening jf p w N).map (fun s=>(s.heap,s.gens,s.drawn,s.toks))=some (boot_heap w.params,#[],boot_drawn,boot_toks))(le:12+(1+(M+2))<=N)
  (A:PreEq p boot_heap boot_drawn boot_toks) (B:jO p q R C K boot_heap boot_drawn boot_toks M):LeftO p q [] (λs=>xlAt q [] s&&recOk R s) (λs=>C.map s.heap.get?) (λw=>(K w.params).map λx=>some x.2) N:=λw=>by
 obtain⟨⟨h,gs,d,k,os⟩,e,D⟩:=cw.mp (o w);have g:=qh D;have i:=qh g.2;have j:=qh i.2;obtain rfl:h=boot_heap w.params:=g.1;obtain rfl:gs=#[]:=i.1;obtain rfl:d=boot_drawn:=j.1;obtain rfl:k=boot_toks:=j.2;have a:=qh (A w os);have l:=qh a.2;have m:=qh l.2;have n:=qh m.2;obtain⟨⟨f,s,c,ps⟩,E,r⟩:=jd.mp (B w os);cases f with
 |next=>
  have b:=qh (qg r);have u:=qh b.2;have v:=qh u.2;obtain rfl:c=cd p:=b.1;have y:topRun jf p w 11 an (M+2) (oA p boot_heap boot_drawn boot_toks w os).abs (restOf (behindTheImports p++[]) (ev p) (cd p) q0 [topFrame q0])=some s.abs:=piece_app (segRun_of E) (zo jf p w 11 an s.abs (cd p) ps q0);rw[bx]at y;have F:=piece_block (congrFun (congrFun n.2 (oA p boot_heap boot_drawn boot_toks w os).abs) (cd p)) y;have G:=go_top n.1 F;have z:=topRun_mono (N-(12+(1+(M+2)))) _ _ _ _ G;rw[mx le]at z;have t:topFrom jf p w N ⟨boot_heap w.params,#[],boot_drawn,boot_toks,os⟩=some s.abs:=by unfold topFrom;rw[a.1,l.1,m.1,z];show(match staticsOk (i7 p.main.body) (boot_heap w.params) s.abs.heap&&namesBound p s.abs.heap&&gensDone s.abs&&laidKept (boot_heap w.params) s.abs.heap with|true=>some s.abs|false=>none)=_;rw[u.1]
  unfold openEnds;rw[e];show(topFrom jf p w N _).map _=_;rw[t];exact congrArg some (Prod.ext v.1 v.2)
 |_=>cases r
theorem pre_r:PreEq=PreEq:=rfl
def zp (p q:cc)(R:WRecords)(H:d9->Heap)(w:World)(s:SharedT):=(staticsOk (i7 p.main.body) (H w.params) s.abs.heap&&namesBound p s.abs.heap&&gensDone s.abs&&laidKept (H w.params) s.abs.heap,openSeen q [] (i7 p.main.body) (λs=>xlAt q [] s&&recOk R s) true s.abs)
def RunA (p q:cc)(R:WRecords)(H:d9->Heap)(d:Drawn)(k N:Nat):Prop:=∀(w:World) (os:jv),(run p H d k N w os).bind (pick (zp p q R H w))=some (cd p,true,openGood q [])
def RunB (p:cc)(as:List Addr)(K:d9->List (Addr×Obj))(H:d9->Heap)(d:Drawn)(k N:Nat):Prop:=∀(w:World) (os:jv),(run p H d k N w os).bind (pick λs=>as.map s.abs.heap.get?)=some (cd p,(K w.params).map λx=>some x.2)
theorem Jh {e h:Type}{f:SharedT->e}{g:SharedT->h}{x:Option (Flow×SharedT×Code×Pos)}{a:e}{b:h}(d:x.bind (pick f)=some (c,a))(j:x.bind (pick g)=some (c,b)):x.bind (pick λs=>(f s,g s))=some (c,a,b):=by
 cases x with
 |none=>cases d
 |some y=>
  obtain⟨fl,s,k,ps⟩:=y;cases fl with
  |next=>have i:=qh (qg d);have l:=qh (qg j);show some (k,f s,g s)=_;rw[i.1,i.2,l.2]
  |_=>cases d
theorem qW {K:d9->List (Addr×Obj)}(f:RunA p q R H d k N)(g:RunB p a K H d k N):jO p q R a K H d k N:=λw os=>by
 have h:=Jh (f w os) (g w os);cases e:run p H d k N w os with
 |none=>rw[e]at h;cases h
 |some y=>
  rw[e]at h;obtain⟨fl,s,i,ps⟩:=y;cases fl with
  |next=>have b:=qh (qg h);have c:=qh b.2;show some (i,(zp p q R H w s).1,(zp p q R H w s).2,a.map s.abs.heap.get?)=_;rw[b.1,c.2,c.1]
  |_=>cases h
theorem runA_r:RunA=RunA:=rfl
theorem runB_r:RunB=RunB:=rfl
end Tp
lay_quick Tp.PreEq Tp.RunA Tp.RunB
name_quick tpre for Tp.PreEq by Tp.pre_r
name_quick truna for Tp.RunA by Tp.runA_r
name_quick trunb for Tp.RunB by Tp.runB_r
namespace Tp
open PySem PySem.W PyProof.Rows
theorem rn_r:run=run:=rfl
end Tp
name_quick trn for Tp.run by Tp.rn_r
namespace Tp
open PySem PySem.W PyProof.Rows
def obj (p:cc)(M:Nat)(P:d9)(a:Addr):Obj:=((PySem.W.Fast.trn p boot_heap boot_drawn boot_toks M ⟨λ_ _=>0,P⟩ default).map λx=>(x.2.1.tree.get a).getD default).getD default
def Ko (p:cc)(M:Nat)(as:List Addr)(P:d9):Frag:=as.map λa=>(a,obj p M P a)
theorem uh (p:cc)(M:Nat)(a:List Addr)(P:d9):a=(Ko p M a P).map (·.1):=by unfold Ko;rw[dv];exact(mr _).symm
def said (l:OpenLaw):Bool:=l.wellSaid
theorem said_r:said=said:=rfl
theorem holds {K:d9->Frag}(ws:said l=true)(a:∀P,b=(K P).map (·.1))(c:opening l.row.prog=plainProg l.row.prog.main.scope.names)(g:Nat.ble 600 N=true)(h:∀s,fenceModules? l.row.prog s=some s)(le:12+(1+(M+2))<=N)
  (i:PreEq l.row.prog boot_heap boot_drawn boot_toks) (j:jO l.row.prog q l.row.records b K boot_heap boot_drawn boot_toks M) (k:defOf q l.row.name=some (d,[])) (m:l.row.prog.theDef l.row.name=some (d.params,d.body,d.scope)) (n:kwWritten? d.params.kwonlyargs d.params.kw_defaults=some []) (o:(!l.row.writes||l.row.records.isEmpty)=true)
  (p:(chainsOk q&&opensWell l.row.prog&&(frees l.row.toRowW&&l.row.within.isEmpty))=true) (r:l.row.prog.bare) (t:l.row.toRowW.promised) (call:WalkO q [] (XL q []) (InK K) l.row.toRowW d [] λf u=>PySem.call f u):l.Holds:=
 holds_law ws λz=>holds_open (left (boot_open c g h) le i j) (InK.of a) InK.keeps (λs e=>xl_of s (ba.mp e).1) XL.keeps k m n (λs e=>recFacts_of (ba.mp e).2) o z p r t call
end Tp
lay_quick Tp.said
name_quick tsaid for Tp.said by Tp.said_r
namespace Mk
open PySem PySem.Spec PyProof.Rows
abbrev l':cc:=PySem.Challenge.rw_likebook_k54_askings.row.prog
def ui:cc:=W.view l' [1,2,3,4,5,6,7,8,9,10,11,12,13,15,16,18,20,21,22,23,24,25,26,27,28,29,30,31,32,33,34,36,37,38,39,40,41,42,43,44,45,46,47,48,49,50,51,52,53,54]
def wN:List Addr:=dm 461
def sR:d9->W.Frag:=Tp.Ko l' 100000 wN
theorem Ji:Tp.PreEq l' W.boot_heap W.boot_drawn W.boot_toks:=by
 intro w os
 kernel_rfl
theorem zq:Tp.RunA l' ui PySem.Challenge.rw_likebook_k54_askings.row.records W.boot_heap W.boot_drawn W.boot_toks 100000:=by
 rw[PySem.W.Fast.truna_eq];intro w os
 kernel_rfl
theorem zr:Tp.RunB l' wN sR W.boot_heap W.boot_drawn W.boot_toks 100000:=by
 rw[PySem.W.Fast.trunb_eq];intro w os
 kernel_rfl
theorem Jj:Tp.jO l' ui PySem.Challenge.rw_likebook_k54_askings.row.records wN sR W.boot_heap W.boot_drawn W.boot_toks 100000:=Tp.qW zq zr
end Mk
namespace L2
open PySem PySem.Spec PyProof.Rows
abbrev Key:=Sum Int Str
def sS:Key->Value->Bool
 |.inl k,v=>Value.isInt k v
 |.inr x,v=>Value.isStrOf x v
def zt (w:World):Key->Int
 |.inl k=>hashInt k
 |.inr x=>hashStr w x
theorem oB:∀{k:Key} {v:Value},sS k v=true->(∃i t,k=Sum.inl i/\v=Value.int i t)\/(∃x t,k=Sum.inr x/\v=Value.str x t)
 |.inl i,v,h=>by obtain⟨t,e⟩:=Value.isInt_shape h;exact .inl ⟨i,t,rfl,e⟩
 |.inr x,v,h=>by obtain⟨t,e⟩:=Value.isStrOf_shape h;exact .inr ⟨x,t,rfl,e⟩
theorem Jk (i:Int)(t:Tok):sS (.inl i) (.int i t)=true:=by simp[sS,Value.isInt]
theorem Jl (x:Str)(t:Tok):sS (.inr x) (.str x t)=true:=by simp[sS,Value.isStrOf]
theorem Jm (a b:Int):decide ((Sum.inl a:Key)=Sum.inl b)=(a==b):=by grind
theorem Jo (a b:Str):decide ((Sum.inr a:Key)=Sum.inr b)=decide (a=b):=by grind
theorem Jp (a:Int)(b:Str):decide ((Sum.inl a:Key)=Sum.inr b)=false:=ql (λq=>nomatch q)
theorem Jq (a:Str)(b:Int):decide ((Sum.inr a:Key)=Sum.inl b)=false:=ql (λq=>nomatch q)
def hX (prog:cc)(w:World):PySem.KeyKind prog w Key where
 is:=sS
 hash:=zt w
 inj:=λv a b ha hb=>by
  rcases oB ha with⟨i,t,rfl,rfl⟩|⟨x,t,rfl,rfl⟩
  ·rcases oB hb with⟨j,u,rfl,e⟩|⟨y,u,rfl,e⟩
   ·injection e with e1 _;rw[e1]
   ·exact nomatch e
  ·rcases oB hb with⟨j,u,rfl,e⟩|⟨y,u,rfl,e⟩
   ·exact nomatch e
   ·injection e with e1 _;rw[e1]
 byValue:=λk v h=>by rcases oB h with⟨i,t,rfl,rfl⟩|⟨x,t,rfl,rfl⟩<;>rfl
 pyHash:=λhv h=>by
  rcases oB hv with⟨i,t,rfl,rfl⟩|⟨x,t,rfl,rfl⟩
  ·exact wpAny_pyHash_int h
  ·exact wpAny_pyHash_str h
 eqBool:=λhu hv h=>by
  rcases oB hu with⟨i,t,rfl,rfl⟩|⟨x,t,rfl,rfl⟩
  ·rcases oB hv with⟨j,u,rfl,rfl⟩|⟨y,u,rfl,rfl⟩
   ·rw[Jm]at h;exact wpAny_eqBool_int h
   ·rw[Jp]at h;exact SeqAt.EqAt.int_str i t y u _ _ _ _ h
  ·rcases oB hv with⟨j,u,rfl,rfl⟩|⟨y,u,rfl,rfl⟩
   ·rw[Jq]at h;exact SeqAt.EqAt.str_int x t j u _ _ _ _ h
   ·rw[Jo]at h;exact wpAny_eqBool_str h
 «strs»:=λk x t v h=>by
  rcases oB h with⟨i,u,rfl,e⟩|⟨y,u,rfl,e⟩
  ·exact nomatch e
  ·injection e with e1 _;subst e1;cases v<;>rfl
theorem Jr (prog:cc)(w:World)(i:Int)(t:Tok):(hX prog w).is (.inl i) (.int i t)=true:=Jk i t
theorem Js (prog:cc)(w:World)(x:Str)(t:Tok):(hX prog w).is (.inr x) (.str x t)=true:=Jl x t
inductive V where
 |non|bl (b:Bool)|int (i:Int)|str (x:Str)|ref (a:Addr)|ty (n:String)
 deriving DecidableEq
def RelV:V->Value->Prop
 |.non,u=>u=Value.none
 |.bl b,u=>u=Value.bool b
 |.int i,u=>∃t,u=Value.int i t
 |.str x,u=>∃t,u=Value.str x t
 |.ref a,u=>u=Value.ref a
 |.ty n,u=>u=Value.type n
abbrev Vals:List V->List Value->Prop:=i9 RelV
theorem Vals.length (r:Vals xs a):xs.length=a.length:=Paired.length r
theorem Vals.get:∀{a:List V} {d:List Value} {i:Nat} {x:V},Vals a d->a[i]?=some x->∃u,d[i]?=some u/\RelV x u
 |_,_,_,_,.nil,e=>by simp at e
 |_,_,0,_,.cons r _,e=>by simp at e;subst e;exact⟨_,rfl,r⟩
 |_,_,i+1,x,.cons _ t,e=>by obtain⟨u,b,c⟩:=Vals.get t (by simpa using e);exact⟨u,by simpa using b,c⟩
theorem Vals.set (r:RelV x u):∀{a:List V} {b:List Value} i,Vals a b->Vals (a.set i x) (b.set i u)
 |_,_,_,.nil=>.nil
 |_,_,0,.cons _ t=>.cons r t
 |_,_,i+1,.cons q t=>.cons q (Vals.set r i t)
theorem Vals.append:∀{a b:List V} {c ws:List Value},Vals a c->Vals b ws->Vals (a++b) (c++ws)
 |_,_,_,_,.nil,s=>s
 |_,_,_,_,.cons r t,s=>.cons r (Vals.append t s)
theorem Vals.take:∀{a:List V} {b:List Value} n,Vals a b->Vals (a.take n) (b.take n)
 |_,_,0,_=>.nil
 |_,_,_+1,.nil=>.nil
 |_,_,n+1,.cons r t=>.cons r (Vals.take n t)
theorem Vals.drop:∀{a:List V} {b:List Value} n,Vals a b->Vals (a.drop n) (b.drop n)
 |_,_,0,r=>r
 |_,_,_+1,.nil=>.nil
 |_,_,n+1,.cons _ t=>Vals.drop n t
def cJ:Option V->Option Value->Prop
 |some v,some u=>RelV v u
 |none,none=>True
 |_,_=>False
def KV {κ:Type}:List (κ×V)->List (κ×Value)->Prop:=i9 λ(p:κ×V) (q:κ×Value)=>p.1=q.1/\RelV p.2 q.2
def kV:Key->V
 |.inl i=>.int i
 |.inr x=>.str x
inductive HO where
 |lst (xs:List V)
 |tup (xs:List V)
 |dK (aW:List (Key×V))|dT (aW:List (List Key×V))
 |set (S:Int->Bool) (n:Nat)
 |ins (C dx:Addr) (fs:List (Str×V))
 |own (x:Addr)
 |xd (fs:List (Str×V))
 |gO (o:Obj) (u:HO)
 |nK (ps:Array Value)
 |ext (φ:Heap->Prop)
abbrev Hp:=Addr->Option HO
def upd (H:Hp)(a:Addr)(o:HO):Hp:=λb=>if b=a then some o else H b
theorem bG:upd H a o a=some o:=by unfold upd;rw[qe rfl]
theorem aH (h:b≠a):upd H a o b=H b:=by unfold upd;rw[qf h]
theorem Jt {H:Hp}(h:H a=some o)(c:H b=some u)(d:o≠u):a≠b:=by intro e;subst e;rw[h]at c;simp_all
theorem fZ {H:Hp}(h:H a=some o)(c:H b=none):a≠b:=by intro e;subst e;rw[h]at c;cases c
def hY (h:Heap)(a:Addr)(l:Array Value):Prop:=∃n,h.get? a=some {cls:=.type "tuple",data:=.seq l n}
theorem hY.tup {h:Heap}{a:Addr}{l:Array Value}(x:hY h a l):IsTup h a l:=let⟨n,q⟩:=x;⟨_,q,rfl,n,rfl⟩
theorem hY.new (h:Heap)(l:Array Value):hY (h.push {cls:=.type "tuple",data:=.seq l}) h.objs.size l:=⟨_,az _ rfl⟩
section
variable (P:cc)(w:World)
def z1y (H:Hp)(h:Heap)(a:Addr):HO->Prop
 |.lst xs=>xs.length<=av/\∃(fN:List Value) (n:Nat),Vals xs fN/\h.get? a=some {cls:=.type "list",data:=.seq fN.toArray n}
 |.tup xs=>xs.length<=av/\∃fN:List Value,Vals xs fN/\hY h a fN.toArray
 |.dK aW=>aW.length<=av/\(a==gj)=false/\∃vs,KV aW vs/\h.DictOf (hX P w) a vs
 |.dT aW=>aW.length<=av/\(a==gj)=false/\∃xs:List (List Key×Addr×Value),
  i9 (λ(p:List Key×V) (q:List Key×Addr×Value)=>p.1=q.1/\H q.2.1=some (.tup (p.1.map kV))/\RelV p.2 q.2.2) aW xs/\
  ∃o es ep,h.get? a=some o/\o.ExactDict/\o.data=.dict es ep/\es.toList=xs.map (entryOfKey (lg (hX P w)))/\(xs.map (·.1)).Nodup
 |.set S n=>h.SetOf (intKind P w) a S n
 |.ins C dx fs=>H dx=some (.own a)/\fs.length<=1000/\dx≠a/\h.get? a=some (W.instObj C dx)/\∃mA,h.Ns1 dx mA/\(∀f,cJ (fs.lookup f) (mA f))/\PySem.Within mA (fs.map (·.1))
 |.own _=>∃o,h.get? a=some o
 |.xd fs=>∃mA,h.Ns1 a mA/\∀f,cJ (fs.lookup f) (mA f)
 |.gO o u=>h.get? a=some o/\z1y H h a u
 |.nK ps=>h.get? a=some {cls:=.none,data:=.fields ps}
 |.ext φ=>φ h/\(∃o,h.get? a=some o)/\∀h1 h2:Heap,φ h1->(∀o,h1.get? a=some o->h2.get? a=some o)->φ h2
def HOk (H:Hp)(h:Heap):Prop:=∀a o,H a=some o->z1y P w H h a o
end
theorem z1y.lt (x:z1y P w H h a o):a<h.objs.size:=by
 cases o with
 |lst c=>obtain⟨_,_,_,_,e⟩:=x;exact bb e
 |tup c=>obtain⟨_,_,_,_,q⟩:=x;exact bb q
 |dK b=>obtain⟨_,_,_,_,o,_,_,e,_⟩:=x;exact bb e
 |dT b=>obtain⟨_,_,_,_,o,_,_,e,_⟩:=x;exact bb e
 |set S n=>obtain⟨o,_,_,_,e,_⟩:=x;exact bb e
 |ins C f fs=>obtain⟨_,_,_,e,_⟩:=x;exact bb e
 |own y=>obtain⟨_,e⟩:=x;exact bb e
 |xd fs=>obtain⟨_,⟨_,_,_,e,_⟩,_⟩:=x;exact bb e
 |gO ob u=>obtain⟨e,_⟩:=x;exact bb e
 |nK ps=>exact bb x
 |ext d=>obtain⟨_,⟨_,e⟩,_⟩:=x;exact bb e
theorem Paired.qX {e g:Type}{F G:e->g->Prop}:∀{c:List e} {d:List g},i9 F c d->(∀a b,F a b->G a b)->i9 G c d
 |_,_,.nil,_=>.nil
 |_,_,.cons r t,f=>.cons (f _ _ r) (Paired.qX t f)
theorem z1y.stay (x:z1y P w H h a o)(k:∀b u,(b=a\/H b=some (.own a))->h.get? b=some u->h'.get? b=some u)
  (m:∀b,H b=some (.own a)->F b=some (.own a)) (s:∀b g,H b=some (.tup g)->F b=some (.tup g)):z1y P w F h' a o:=by
 induction o with
 |lst g=>obtain⟨z,i,n,r,e⟩:=x;exact⟨z,i,n,r,k _ _ (.inl rfl) e⟩
 |tup g=>obtain⟨z,l,r,n,q⟩:=x;exact⟨z,l,r,n,k _ _ (.inl rfl) q⟩
 |dK j=>obtain⟨z,y,G,r,ob,D,f,e,c⟩:=x;exact⟨z,y,G,r,ob,D,f,k _ _ (.inl rfl) e,c⟩
 |dT j=>obtain⟨z,y,g,r,ob,D,f,e,c⟩:=x;exact⟨z,y,g,Paired.qX r λp q z=>⟨z.1,s _ _ z.2.1,z.2.2⟩,ob,D,f,k _ _ (.inl rfl) e,c⟩
 |set S n=>obtain⟨ob,D,f,t,e,c⟩:=x;exact⟨ob,D,f,t,k _ _ (.inl rfl) e,c⟩
 |ins C I fs=>obtain⟨d,z,ne,e,E,⟨od,D,f,v,c⟩,r⟩:=x;exact⟨m _ d,z,ne,k _ _ (.inl rfl) e,E,⟨od,D,f,k _ _ (.inr d) v,c⟩,r⟩
 |own y=>obtain⟨ob,e⟩:=x;exact⟨ob,k _ _ (.inl rfl) e⟩
 |xd fs=>obtain⟨E,⟨od,D,f,e,c⟩,r⟩:=x;exact⟨E,⟨od,D,f,k _ _ (.inl rfl) e,c⟩,r⟩
 |gO ob u A=>obtain⟨e,q⟩:=x;exact⟨k _ _ (.inl rfl) e,A q⟩
 |nK ps=>have e:h.get? a=some {cls:=.none,data:=.fields ps}:=x;exact k a _ (.inl rfl) e
 |ext B=>obtain⟨p,⟨o,e⟩,st⟩:=x;exact⟨st _ _ p λo q=>k _ _ (.inl rfl) q,⟨o,k _ _ (.inl rfl) e⟩,st⟩
theorem HOk.lt (x:HOk P w H h)(e:H a=some o):a<h.objs.size:=(x a o e).lt
theorem HOk.fresh (x:HOk P w H h)(e:h.objs.size<=a):H a=none:=by
 cases q:H a with
 |none=>rfl
 |some u=>exact absurd (bv (x.lt q) e) (cx _)
theorem HOk.kept (x:HOk P w H h)(k:∀b u,h.get? b=some u->c.get? b=some u):HOk P w H c:=λa o e=>(x a o e).stay (λb u _ q=>k b u q) (λ_ q=>q) λ_ _ q=>q
theorem HOk.laid (x:HOk P w H h)(k:∀b u,h.get? b=some u->d.get? b=some u)(g:h.objs.size<=a)(new:z1y P w (upd H a o) d a o):HOk P w (upd H a o) d:=λb u e=>by
 have hn:=x.fresh g;by_cases f:b=a
 ·subst f;rw[bG]at e;cases e;exact new
 ·rw[aH f]at e;exact(x b u e).stay (λc v _ q=>k c v q) (λc q=>by rw[aH (fZ q hn)];exact q) λc i q=>by rw[aH (fZ q hn)];exact q
def Rd (H:Hp)(a:Addr)(u:HO):Prop:=H a=some u\/∃o,H a=some (.gO o u)
theorem Rd.ok (r:Rd H a u)(x:HOk P w H h):z1y P w H h a u:=by
 rcases r with r|⟨o,r⟩
 ·exact x a u r
 ·obtain⟨_,q⟩:=x a _ r;exact q
def Mut:Option HO->Prop
 |some (.lst _)=>True
 |some (.dK _)=>True
 |some (.dT _)=>True
 |some (.set _ _)=>True
 |some (.ins _ _ _)=>True
 |some (.ext _)=>True
 |_=>False
theorem HOk.write (ok:HOk P w H h)(f:Mut (H x))(m:e=x\/H e=some (.own x))(k:∀b u,b≠e->h.get? b=some u->j.get? b=some u)(l:∃u,j.get? e=some u)
  (new:z1y P w (upd H x n) j x n):HOk P w (upd H x n) j:=λb u q=>by
 have d:∀c y,H c=some (.own y)->c≠x:=λc y r z=>by subst z;rw[r]at f;exact f
 by_cases g:b=x
 ·subst g;rw[bG]at q;cases q;exact new
 ·rw[aH g]at q;by_cases a:b=e
  ·have o:H b=some (.own x):=by
    rcases m with z|z
    ·exact absurd (a.trans z) g
    ·rw[a];exact z
   rw[q]at o;cases o;obtain⟨v,s⟩:=l;exact⟨v,by rw[a];exact s⟩
  ·refine(ok b u q).stay (λc v i r=>k c v ?_ r) (λc r=>by rw[aH (d c b r)];exact r) λc p r=>by rw[aH ((λc p r z=>by subst z;rw[r]at f;exact f) c p r)];exact r
   rcases i with rfl|i
   ·exact a
   ·rintro rfl
    rcases m with z|z
    ·exact d c b i z
    ·rw[i]at z;cases z;exact g rfl
structure Un (fs ex:List Addr)(H H':Hp)(h h':Heap):Prop where
 keep:∀b o,h.get? b=some o->H b=none->b∉fs->b∉ex->h'.get? b=some o
 slot:∀b o,h.get? b=some o->H b=none->b∈fs->b∉ex->∃sl,h'.get? b=some {o with slots:=sl}
 free:∀b o,h.get? b=some o->H b=none->b∉ex->H' b=none
 there:∀b o,h.get? b=some o->b∉ex->∃o',h'.get? b=some o'
 cS:∀b xs,H b=some (.tup xs)->H' b=some (.tup xs)
 cO:∀b o u,H b=some (.gO o u)->H' b=some (.gO o u)
 cT:∀b ps,H b=some (.nK ps)->∃more,H' b=some (.nK (ps++more))
theorem Un.any (u:Un fs ex H e h d)(q:h.get? b=some ob)(n:H b=none)(a:b∉ex):∃sl,d.get? b=some {ob with slots:=sl}:=by
 by_cases c:b∈fs
 ·exact u.slot b ob q n c a
 ·exact⟨ob.slots,u.keep b ob q n c a⟩
theorem Un.kept (k:∀b u,h.get? b=some u->a.get? b=some u):Un fs ex H H h a:=⟨λb ob q _ _ _=>k b ob q,λb ob q _ _ _=>⟨ob.slots,k b ob q⟩,λ_ _ _ n _=>n,λb ob q _=>⟨ob,k b ob q⟩,λ_ _ q=>q,λ_ _ _ q=>q,λ_ ps q=>⟨#[],by rw[q];simp⟩⟩
theorem Un.refl:Un fs ex H H h h:=Un.kept λ_ _ q=>q
theorem Un.laid (k:∀b u,h.get? b=some u->c.get? b=some u)(d:h.objs.size<=a)(hn:H a=none):Un fs ex H (upd H a o) h c where
 keep:=λb u q _ _ _=>k b u q
 slot:=λb u q _ _ _=>⟨u.slots,k b u q⟩
 free:=λb u q n _=>by rw[aH (b9 (bv (bb q) d))];exact n
 there:=λb u q _=>⟨u,k b u q⟩
 cS:=λb e q=>by rw[aH (fZ q hn)];exact q
 cO:=λb u e q=>by rw[aH (fZ q hn)];exact q
 cT:=λb ps q=>⟨#[],by rw[aH (fZ q hn),q];simp⟩
theorem Un.write (c:Mut (H x))(j:e=x\/H e=some (.own x))(k:∀b u,b≠e->h.get? b=some u->f.get? b=some u)(d:∃u,f.get? e=some u):Un fs ex H (upd H x o) h f:=by
 have g:∀b,H b=none->b≠x:=λb n z=>by subst z;rw[n]at c;exact c
 have i:∀b,H b=none->b≠e:=λb n z=>by
  subst z;rcases j with r|r
  ·exact g b n r
  ·rw[n]at r;cases r
 have hm:∀b u,H b=some u->¬Mut (some u)->b≠x:=λb u q nm z=>by subst z;rw[q]at c;exact nm c
 refine⟨λb u q n _ _=>k b u (i b n) q,λb u q n _ _=>⟨u.slots,k b u (i b n) q⟩,λb u q n _=>by rw[aH (g b n)];exact n,λb u q _=>?_,λb l q=>by rw[aH (hm b _ q λz=>z)];exact q,λb u l q=>by rw[aH (hm b _ q λz=>z)];exact q,λb ps q=>⟨#[],by rw[aH (hm b _ q λz=>z),q];simp⟩⟩;by_cases a:b=e
 ·subst a;exact d
 ·exact⟨u,k b u a q⟩
def zu (h:Heap)(H:Hp):List Addr:=(dm h.objs.size).filter λa=>(H a).isSome
def jX (h:Heap)(H:Hp):Heap:=W.hideAll h (zu h H)
theorem Ju (h:Heap)(H:Hp):(jX h H).objs.size=h.objs.size:=W.hideAll_size _ _
theorem Jv (e:h.get? b=some o)(n:H b=none):(jX h H).get? b=some o:=W.hideAll_get _ e λhm=>by have q:=(List.mem_filter.mp hm).2;rw[n]at q;simp at q
theorem Jw (e:(jX h H).get? b=some o):h.get? b=some o/\H b=none:=by
 have a:=W.of_hideAll (zu h H) e;refine⟨a,?_⟩;cases q:H b with
 |none=>rfl
 |some x=>have z:(jX h H).get? b=none:=W.hideAll_none (zu h H) (List.mem_filter.mpr ⟨ew.mpr (bb a),by simp[q]⟩);rw[z]at e;cases e
def Jx (g h:Heap)(L:Addr):List (Addr×Obj):=(dm h.objs.size).filterMap λa=>if a=L\/(g.get? a).isSome=true then none else(h.get? a).map λo=>(a,o)
def rest (g h:Heap)(L d:Addr):List (Addr×Obj):=(Jx g h L).filter λp=>decide (p.1≠d)
structure Mod (K:W.Frag)(mg:Str->Option Value)(base:Heap):Prop where
 sT:K.In base
 glob:base.Ns bc mg
 blt:∃mb,base.Ns p6 mb/\∀x:Str,x≠"__name__"->mb x=cq x
 nolimit:base.NoLimit
structure Cx where
 prog:cc
 w:World
 K:W.Frag
 mg:Str->Option Value
 base:Heap
 A:e9
 N:List Str
 s₀:aw
 hZ:Hp
 env:Env
 outer:List Env
 stack:List Env
 ex:List Addr
 fn:Str->Bool
 calm:Bool
 pn:List (Addr×Obj)
 xe:Value->aw->Prop
 fx:Option (Str×Value):=none
def frs (l:List Env):List Addr:=l.filterMap (·.frame)
abbrev Cx.fs (X:Cx):List Addr:=frs X.outer
def Vis (sc:Scope)(x:Str):Prop:=sc.names.lookup x=some .local\/sc.names.lookup x=some .cell\/sc.names.lookup x=some .free
def Loc (sc:Scope)(x:Str):Prop:=sc.names.lookup x=some .local\/sc.names.lookup x=some .cell
def Look (env:Env)(h:Heap)(m:Str->Option Value)(x:Str)(u:Value):Prop:=(env.kindOf x=some .local/\m x=some u)\/((env.kindOf x=some .cell\/env.kindOf x=some .free)/\∃c,env.cells.lookup x=some c/\h.IsCell c (some u))
structure Cx.Ok (X:Cx):Prop where
 mod:Mod X.K X.mg X.base
 kind:X.env.scope.kind=.function
 glob:X.env.globals=bc
 blt:X.env.builtins=p6
 above:X.s₀.heap.objs.size<=X.env.locals
 inj:∀x y c,X.env.cells.lookup x=some c->X.env.cells.lookup y=some c->x=y
 has:∀x,(X.env.kindOf x=some .cell\/X.env.kindOf x=some .free)->∃c,X.env.cells.lookup x=some c
 qY:∀x c,X.fn x=true->X.env.cells.lookup x=some c->X.s₀.heap.objs.size<=c
 hd:X.calm=true->X.A.handled=none
 frames:X.A.frames=some X.stack
 sU:X.stack=X.outer\/(X.stack=X.env::X.outer/\X.env.frame=some X.env.locals)
 fI:∀b∈X.ex,b≠X.env.locals/\∀x c,X.env.cells.lookup x=some c->c≠b
 bs:∀b o,X.base.get? b=some o->X.s₀.heap.get? b=some o/\X.hZ b=none
 lF:X.base.objs.size<=X.s₀.heap.objs.size
 iV:∀b o,X.base.get? b=some o->b∉X.ex
 iW:∀b∈X.ex,b∉X.fs
 cU:X.s₀.heap.FunFrames X.base X.outer
 oE:∀b∈X.fs,X.hZ b=none
 wO:∀x u,X.fx=some (x,u)->x∉X.N/\X.env.scope.names.lookup x=some .local
structure Inv (X:Cx)(pins:List (Addr×Obj))(σ:List (Option V))(H:Hp)(s:aw):Prop where
 ok:X.Ok
 os:s.os=X.s₀.os
 bare:j5 s.gens
 base:Un X.fs X.ex X.hZ H X.s₀.heap s.heap
 loc:∃m,s.heap.Ns X.env.locals m/\∀(i:Nat) (x:Str) (v:V),X.N[i]?=some x->σ[i]?=some (some v)->Vis X.env.scope x->∃u,RelV v u/\Look X.env s.heap m x u
 cell:∀x c,X.env.cells.lookup x=some c->∃v,s.heap.IsCell c v
 free:H X.env.locals=none
 bH:∀x c,X.env.cells.lookup x=some c->H c=none
 pin:∀p∈X.pn++pins,s.heap.get? p.1=some p.2/\H p.1=none/\p.1≠X.env.locals/\p.1∉X.fs/\∀v,p.2.data≠.cell v
 hok:HOk X.prog X.w H s.heap
 len:σ.length=X.N.length
 fx:∀x u,X.fx=some (x,u)->∃m,s.heap.Ns X.env.locals m/\m x=some u
section
variable {X:Cx}
theorem Cx.Ok.uj (ok:X.Ok)(e:X.base.get? b=some o):b∉X.fs:=λa=>by have:=(ok.cU.mem a).1;rw[e]at this;cases this
theorem Inv.bs (I:Inv X a c H s):∀b o,X.base.get? b=some o->s.heap.get? b=some o/\H b=none:=λb o e=>⟨I.base.keep b o (I.ok.bs b o e).1 (I.ok.bs b o e).2 (I.ok.uj e) (I.ok.iV b o e),I.base.free b o (I.ok.bs b o e).1 (I.ok.bs b o e).2 (I.ok.iV b o e)⟩
theorem Inv.bk (I:Inv X a c H s):∀b o,X.base.get? b=some o->s.heap.get? b=some o:=λb o e=>(I.bs b o e).1
theorem Inv.mod (I:Inv X a b H s):Mod X.K X.mg X.base:=I.ok.mod
theorem Inv.cZ (I:Inv X a b H s):X.K.In s.heap:=I.ok.mod.sT.keeps I.bk
theorem Inv.fr (I:Inv X a b H s):∃m,Fr X.base X.env.locals s.heap m:=
 let⟨m,hn,_⟩:=I.loc
 ⟨m,hn,I.bk,bp I.ok.lF I.ok.above⟩
theorem Inv.lt (I:Inv X a b H s):X.env.locals<s.heap.objs.size:=let⟨_,hn,_⟩:=I.loc;hn.lt
theorem Inv.sz (I:Inv X a b H s):X.s₀.heap.objs.size<=s.heap.objs.size:=bp I.ok.above (on I.lt)
theorem Inv.uk (I:Inv X d e H s)(h:s.heap.objs.size<=a):a∉X.fs:=λb=>by obtain⟨_,o,c,_⟩:=I.ok.cU.mem b;exact absurd (bv (bb c) (bp I.sz h)) (cx _)
theorem Inv.lG (I:Inv X h i H s):∀x c,X.env.cells.lookup x=some c->c≠X.env.locals:=λx c e z=>by obtain⟨v,o,d,hd⟩:=I.cell x c e;obtain⟨m,⟨f,j,g,a,b,_⟩,_⟩:=I.loc;rw[z,a]at d;cases d;rw[b]at hd;cases hd
theorem Inv.cU (I:Inv X h i H s):s.heap.FunFrames X.base X.outer:=by
 have all:∀l,(∀b∈frs l,b∈X.fs)->X.s₀.heap.FunFrames X.base l->s.heap.FunFrames X.base l:=by
  intro l
  induction l with
  |nil=>intro _ _;trivial
  |cons env r d=>
   rintro hs ⟨hk,⟨L,o,hf,hn,f,hd⟩,g⟩
   have a:=hs L (by unfold frs;rw[dj,hf];exact aj);obtain⟨sl,e⟩:=I.base.slot L o f (I.ok.oE L a) a λz=>I.ok.iW L z a;exact⟨hk,⟨L,_,hf,hn,e,hd⟩,d (λb c=>hs b (by unfold frs;rw[dj,hf];exact ai _ c)) g⟩
 exact all X.outer (λ_ c=>c) I.ok.cU
theorem Inv.stack (I:Inv X a b H s):s.heap.FunFrames X.base X.stack:=by
 rcases I.ok.sU with e|⟨e,hf⟩
 ·rw[e];exact I.cU
 ·rw[e];obtain⟨m,hn,_⟩:=I.loc;refine .cons (by rw[I.ok.kind];decide) hf hn ?_ I.cU;exact fi (bp I.ok.lF I.ok.above)
theorem Inv.gP (I:Inv X c d H s):∀b∈frs X.stack,b∈X.env.locals::X.fs:=λb a=>by
 rcases I.ok.sU with e|⟨e,hf⟩
 ·rw[e]at a;simp_all
 ·rw[e]at a;unfold frs at a;rw[dj,hf]at a;exact a
theorem Inv.gQ (I:Inv X d f H s):∀b∈frs X.stack,H b=none:=λb a=>by
 rcases aq.mp (I.gP b a)with e|a
 ·rw[e];exact I.free
 ·obtain⟨_,o,c,_⟩:=I.ok.cU.mem a;exact I.base.free b o c (I.ok.oE b a) λz=>I.ok.iW b z a
theorem Inv.step {ch:List Addr}(I:Inv X P Q H s)
  (f:∀b∈ch,(b∈X.ex\/X.s₀.heap.objs.size<=b)/\b≠X.env.locals/\(∀x c,X.env.cells.lookup x=some c->c≠b)/\∀p∈X.pn++P,p.1≠b)
  (keep:∀b o,b≠X.env.locals->b∉X.fs->b∉ch->s.heap.get? b=some o->H b=none->h'.get? b=some o)
  (slot:∀b o,b≠X.env.locals->b∈X.fs->b∉ch->s.heap.get? b=some o->H b=none->∃sl,h'.get? b=some {o with slots:=sl}) (free:∀b o,b∉ch->s.heap.get? b=some o->H b=none->H' b=none)
  (there:∀b o,b∉ch->s.heap.get? b=some o->∃C,h'.get? b=some C)
  (cS:∀b y,H b=some (.tup y)->H' b=some (.tup y)) (cO:∀b o u,H b=some (.gO o u)->H' b=some (.gO o u)) (cT:∀b ps,H b=some (.nK ps)->∃D,H' b=some (.nK (ps++D)))
  (ns:∀m,s.heap.Ns X.env.locals m->h'.Ns X.env.locals m) (hok:HOk X.prog X.w H' h') (L:j5 g'):
  Inv X P Q H' {s with heap:=h',gens:=g',drawn:=d',toks:=t'}:=by
 have E:∀b o,X.s₀.heap.get? b=some o->b≠X.env.locals:=λb o e=>b9 (bv (bb e) I.ok.above)
 have j:∀b o,X.s₀.heap.get? b=some o->b∉X.ex->b∉ch:=λb o e a A=>by
  rcases(f b A).1 with z|z
  ·exact a z
  ·exact absurd (bv (bb e) z) (cx _)
 have g:∀x c,X.env.cells.lookup x=some c->∀v,s.heap.IsCell c v->h'.IsCell c v:=λx c e v ⟨o,B,hd⟩=>by
  have h:=λz=>(f c z).2.2.1 x c e rfl;by_cases J:c∈X.fs
  ·obtain⟨sl,q⟩:=slot c o (I.lG x c e) J h B (I.bH x c e);exact⟨_,q,hd⟩
  ·exact⟨o,keep c o (I.lG x c e) J h B (I.bH x c e),hd⟩
 refine⟨I.ok,I.os,L,⟨λb o e n A a=>?_,λb o e n A a=>?_,λb o e n a=>?_,λb o e a=>?_,λb y e=>cS b y (I.base.cS b y e),λb o y e=>cO b o y (I.base.cO b o y e),λb ps e=>?_⟩,?_,λx c e=>?_,?_,λx c e=>?_,λp K=>?_,hok,I.len,λx u e=>let⟨m,hn,q⟩:=I.fx x u e;⟨m,ns m hn,q⟩⟩
 ·exact keep b o (E b o e) A (j b o e a) (I.base.keep b o e n A a) (I.base.free b o e n a)
 ·obtain⟨sl,t⟩:=I.base.slot b o e n A a;obtain⟨G,F⟩:=slot b _ (E b o e) A (j b o e a) t (I.base.free b o e n a);exact⟨G,F⟩
 ·obtain⟨C,t⟩:=I.base.there b o e a;exact free b C (j b o e a) t (I.base.free b o e n a)
 ·obtain⟨C,t⟩:=I.base.there b o e a;exact there b C (j b o e a) t
 ·obtain⟨m1,t⟩:=I.base.cT b ps e;obtain⟨M,F⟩:=cT b _ t;exact⟨m1++M,by rw[F,nv]⟩
 ·obtain⟨m,hn,N⟩:=I.loc;refine⟨m,ns m hn,λi x v t F O=>?_⟩;obtain⟨u,r,l⟩:=N i x v t F O;refine⟨u,r,?_⟩;rcases l with l|⟨k,c,e,z⟩
  ·exact .inl l
  ·exact .inr ⟨k,c,e,g x c e _ z⟩
 ·obtain⟨v,z⟩:=I.cell x c e;exact⟨v,g x c e v z⟩
 ·obtain⟨m,⟨o,_,_,B,_⟩,_⟩:=I.loc;exact free _ o (λz=>(f _ z).2.1 rfl) B I.free
 ·obtain⟨v,o,B,hd⟩:=I.cell x c e;exact free c o (λz=>(f c z).2.2.1 x c e rfl) B (I.bH x c e)
 ·obtain⟨e,n,ne,nf,d⟩:=I.pin p K;have h:=λz=>(f p.1 z).2.2.2 p K rfl;exact⟨keep p.1 p.2 ne nf h e n,free p.1 p.2 h e n,ne,nf,d⟩
theorem Inv.un (I:Inv X p t H s)(u:Un X.fs [] H q s.heap h')(hok:HOk X.prog X.w q h'):Inv X p t q {s with heap:=h',toks:=t'}:=by obtain⟨m,⟨o,v,j,g,r⟩,_⟩:=id I.loc;obtain⟨sl,h⟩:=u.any g I.free (by simp);exact I.step (ch:=[]) (λ_ z=>nomatch z) (λb o _ c _ e n=>u.keep b o e n c (by simp)) (λb o _ c _ e n=>u.slot b o e n c (by simp)) (λb o _ e n=>u.free b o e n (by simp)) (λb o _ e=>u.there b o e (by simp)) u.cS u.cO u.cT (λk ⟨l,d,f,a,i⟩=>by rw[g]at a;cases a;exact⟨_,d,f,h,i⟩) hok I.bare
theorem Inv.call (I:Inv X C E H s)(u:Un (frs X.stack) ch H D s.heap j)(hok:HOk X.prog X.w D j)(l:j5 q)
  (d:∀b∈ch,(b∈X.ex\/X.s₀.heap.objs.size<=b)/\b≠X.env.locals/\(∀x c,X.env.cells.lookup x=some c->c≠b)/\∀p∈X.pn++C,p.1≠b):
  Inv X C E D {s with heap:=j,gens:=q,drawn:=d',toks:=t'}:=by
 obtain⟨m,⟨o,F,y,k,r⟩,_⟩:=id I.loc;obtain⟨sl,g⟩:=u.any k I.free λz=>(d _ z).2.1 rfl;exact I.step d (λb o g t a e n=>u.keep b o e n (λz=>(aq.mp (I.gP b z)).elim g t) a) (λb o _ _ a e n=>u.any e n a) (λb o a e n=>u.free b o e n a) (λb o a e=>u.there b o e a) u.cS u.cO u.cT (λA ⟨B,h,i,f,v⟩=>by rw[k]at f;cases f;exact⟨_,h,i,g,v⟩) hok l
theorem Inv.turned (I:Inv X y A H s)(k:∀b o,b≠a->s.heap.get? b=some o->h'.get? b=some o)(hn:H a=none)(g:a≠X.env.locals)
  (h:a∈X.ex\/X.s₀.heap.objs.size<=a) (i:∀x c,X.env.cells.lookup x=some c->c≠a) (j:∀p∈X.pn++y,p.1≠a):Inv X y A H {s with heap:=h',toks:=t'}:=by
 have f:∀b u,H b=some u->b≠a:=λb u e z=>by rw[z,hn]at e;cases e
 refine I.step (ch:=[a]) (λb l=>?_) (λb o _ _ d e _=>k b o (λz=>d (by simp[z])) e) (λb o _ _ d e _=>⟨o.slots,k b o (λz=>d (by simp[z])) e⟩) (λ_ _ _ _ n=>n) (λb o d e=>⟨o,k b o (λz=>d (by simp[z])) e⟩) (λ_ _ e=>e) (λ_ _ _ e=>e) (λb ps e=>⟨#[],by rw[e];simp⟩) (λm hm=>?_) (λb u e=>?_) I.bare
 ·have e:b=a:=by simpa using l
  subst e;exact⟨h,g,i,j⟩
 ·obtain⟨o,B,t,w,r⟩:=hm;exact⟨o,B,t,k _ o (Ne.symm g) w,r⟩
 ·refine(I.hok b u e).stay (λc v d q=>k c v ?_ q) (λ_ q=>q) λ_ _ q=>q;rcases d with z|z
  ·rw[z];exact f b u e
  ·exact f c _ z
theorem Inv.tok (I:Inv X a b H s)(t:Nat):Inv X a b H {s with toks:=t}:=I.un (h':=s.heap) (t':=t) Un.refl I.hok
theorem Inv.kept (I:Inv X c d H s)(k:∀b u,s.heap.get? b=some u->a.get? b=some u):Inv X c d H {s with heap:=a,toks:=t'}:=I.un (Un.kept k) (I.hok.kept k)
theorem Inv.laid (I:Inv X e f H s)(k:∀b u,s.heap.get? b=some u->d.get? b=some u)(c:s.heap.objs.size<=a)(new:z1y X.prog X.w (upd H a o) d a o): Inv X e f (upd H a o) {s with heap:=d,toks:=t'}:=I.un (Un.laid k c (I.hok.fresh c)) (I.hok.laid k c new)
theorem Inv.write (I:Inv X g h H s)(d:Mut (H x))(f:e=x\/H e=some (.own x))(k:∀b u,b≠e->s.heap.get? b=some u->c.get? b=some u)(a:∃u,c.get? e=some u) (new:z1y X.prog X.w (upd H x o) c x o):Inv X g h (upd H x o) {s with heap:=c,toks:=t'}:=I.un (Un.write d f k a) (I.hok.write d f k a new)
theorem Inv.weak (I:Inv X f g H s)(b:a.length=g.length)(w:∀(i:Nat) v,a[i]?=some (some v)->g[i]?=some (some v)):Inv X f a H s:=⟨I.ok,I.os,I.bare,I.base,let⟨m,hn,Jy⟩:=I.loc;⟨m,hn,λi x v c d e=>Jy i x v c (w i v d) e⟩,I.cell,I.free,I.bH,I.pin,I.hok,b.trans I.len,I.fx⟩
theorem Inv.gR (I:Inv X b c H s)(h:∀p∈qu,s.heap.get? p.1=some p.2/\H p.1=none/\p.1≠X.env.locals/\p.1∉X.fs/\∀v,p.2.data≠.cell v):Inv X qu c H s:=⟨I.ok,I.os,I.bare,I.base,I.loc,I.cell,I.free,I.bH,λp a=>(bh.mp a).elim (λz=>I.pin p (db _ z)) (h p),I.hok,I.len,I.fx⟩
theorem Jz {h:Heap}(x:h.Ns a m)(y:h.Ns a g)(n:Str):m n=g n:=by obtain⟨o,q,l,e,d,_,f⟩:=x;obtain⟨p,i,j,b,c,_,k⟩:=y;rw[e]at b;cases b;rw[d]at c;cases c;rw[<-f n,k n]
theorem wQ {N:List Str}(hN:N.Nodup){j:Nat}(a:N[i]?=some x)(b:N[j]?=some x):i=j:=by obtain⟨e,c⟩:=bg.mp a;obtain⟨f,d⟩:=bg.mp b;exact(List.getElem_inj hN).mp (c.trans d.symm)
theorem z4c (I:Inv X pins σ H s)(hN:X.N.Nodup)(hi:X.N[i]?=some x)(t:Loc X.env.scope x)(r:RelV v u)
  (h:∀s',Inv X pins (σ.set i (some v)) H s'->(∃a,b7 a s.heap s'.heap/\(a=X.env.locals\/X.env.cells.lookup x=some a))->Q () s') (hf:X.fn x=true\/X.env.scope.names.lookup x=some .local:=by first|exact .inl rfl|exact .inr rfl|assumption):wpAny M A (storeName X.env x u) Q E s:=by
 obtain⟨m,hn,hl⟩:=id I.loc;have D:i<σ.length:=I.len▸(bg.mp hi).1;have lG:=I.lG
 have f:∀{a:Addr} {L:Heap},(∃o,s.heap.get? a=some o/\H a=none)->b7 a s.heap L->HOk X.prog X.w H L:=λ{a L} ha hs b ob e=>by
  obtain⟨_,_,B⟩:=ha;refine(I.hok b ob e).stay (λc U l q=>(hs.2 c ?_).trans q) (λ_ q=>q) λ_ _ q=>q
  rintro rfl
  rcases l with rfl|l
  ·rw[B]at e;cases e
  ·rw[B]at l;cases l
 rcases t with hk|hk
 ·refine wpAny_storeName_local hk hn (λL O hs=>?_) (by rw[I.ok.kind];rfl);obtain⟨oL,_,_,W,_⟩:=id hn;refine h _ ⟨I.ok,I.os,I.bare,⟨λb o e n F t=>?_,λb o e n F t=>?_,I.base.free,λb o e t=>?_,I.base.cS,I.base.cO,I.base.cT⟩,⟨_,O,λj y Y g C e3=>?_⟩,λy c e=>?_,I.free,I.bH,λp hp=>?_,f ⟨oL,W,I.free⟩ hs,by simpa using I.len,λy u e=>by obtain⟨m',G,q⟩:=I.fx y u e;refine⟨_,O,?_⟩;have hy:y≠x:=λz=>(I.ok.wO y u e).1 (z▸de hi);have:=Jz hn G y;simp[hy,this,q]⟩ ⟨_,hs,.inl rfl⟩
  ·exact(hs.2 b (b9 (bv (bb e) I.ok.above))).trans (I.base.keep b o e n F t)
  ·obtain⟨sl,g⟩:=I.base.slot b o e n F t;exact⟨sl,(hs.2 b (b9 (bv (bb e) I.ok.above))).trans g⟩
  ·obtain⟨o',g⟩:=I.base.there b o e t;exact⟨o',(hs.2 b (b9 (bv (bb e) I.ok.above))).trans g⟩
  ·by_cases J:j=i
   ·subst J;rw[hi]at g;cases g;rw[cg D]at C;cases C;exact⟨u,r,.inl ⟨hk,by simp⟩⟩
   ·rw[bz (Ne.symm J)]at C;obtain⟨u',r',q⟩:=hl j y Y g C e3;refine⟨u',r',?_⟩;rcases q with⟨k,e⟩|⟨k,c,e,z⟩
    ·refine .inl ⟨k,?_⟩;have:y≠x:=λe=>J (wQ hN g (e▸hi));simp[this,e]
    ·exact .inr ⟨k,c,e,z.sameBut hs (lG y c e)⟩
  ·obtain⟨U,z⟩:=I.cell y c e;exact⟨U,z.sameBut hs (lG y c e)⟩
  ·obtain⟨e,n,ne,nf,d⟩:=I.pin p hp;exact⟨(hs.2 p.1 ne).trans e,n,ne,nf,d⟩
 ·have K:X.fn x=true:=by
   rcases hf with z|z
   ·exact z
   ·rw[z]at hk;cases hk
  obtain⟨c,l⟩:=I.ok.has x (.inl hk);obtain⟨U,z⟩:=I.cell x c l;refine wpAny_storeName_cell I.ok.kind hk l z (λL P hs=>?_);obtain⟨oc,R,S⟩:=id z;refine h {s with heap:=L} ⟨I.ok,I.os,I.bare,⟨λb o e n F t=>?_,λb o e n F t=>?_,I.base.free,λb o e t=>?_,I.base.cS,I.base.cO,I.base.cT⟩,⟨m,hn.sameBut hs (Ne.symm (lG x c l)),λj y Y g C e3=>?_⟩,λy V e=>?_,I.free,I.bH,λp hp=>?_,f ⟨oc,R,I.bH x c l⟩ hs,by simpa using I.len,λy u e=>let⟨m',G,q⟩:=I.fx y u e;⟨m',G.sameBut hs (Ne.symm (lG x c l)),q⟩⟩ ⟨c,hs,.inr l⟩
  ·exact(hs.2 b (b9 (bv (bb e) (I.ok.qY x c K l)))).trans (I.base.keep b o e n F t)
  ·obtain⟨sl,g⟩:=I.base.slot b o e n F t;exact⟨sl,(hs.2 b (b9 (bv (bb e) (I.ok.qY x c K l)))).trans g⟩
  ·obtain⟨o',g⟩:=I.base.there b o e t;exact⟨o',(hs.2 b (b9 (bv (bb e) (I.ok.qY x c K l)))).trans g⟩
  ·by_cases J:j=i
   ·subst J;rw[hi]at g;cases g;rw[cg D]at C;cases C;exact⟨u,r,.inr ⟨.inl hk,c,l,P⟩⟩
   ·rw[bz (Ne.symm J)]at C;obtain⟨u',r',q⟩:=hl j y Y g C e3;refine⟨u',r',?_⟩;rcases q with q|⟨k,V,e,z'⟩
    ·exact .inl q
    ·refine .inr ⟨k,V,e,z'.sameBut hs ?_⟩
     rintro rfl
     exact J (wQ hN g (I.ok.inj _ _ _ e l▸hi))
  ·by_cases T:V=c
   ·subst T;exact⟨_,P⟩
   ·obtain⟨w2,z2⟩:=I.cell y V e;exact⟨w2,z2.sameBut hs T⟩
  ·obtain⟨e,n,ne,nf,d⟩:=I.pin p hp;refine⟨(hs.2 p.1 ?_).trans e,n,ne,nf,d⟩;intro q;rw[q,R]at e;exact d U (qg e▸S)
theorem z5g (I:Inv X c e H s)(hN:X.N.Nodup)(f:X.N[i]?=some x)(a:Loc X.env.scope x)(r:RelV v u)
  (h:∀d,Inv X c (e.set i (some v)) H d->Q () d) (hf:X.fn x=true\/X.env.scope.names.lookup x=some .local:=by first|exact .inl rfl|exact .inr rfl|assumption):wpAny M A (storeName X.env x u) Q E s:=
 z4c I hN f a r (λd b _=>h d b) hf
theorem Inv.call' (I:Inv X k n H s)(d:l.os=s.os)(u:Un (frs X.stack) ch H m s.heap l.heap)(hok:HOk X.prog X.w m l.heap)(e:j5 l.gens)
  (a:∀b∈ch,(b∈X.ex\/X.s₀.heap.objs.size<=b)/\b≠X.env.locals/\(∀x c,X.env.cells.lookup x=some c->c≠b)/\∀p∈X.pn++k,p.1≠b):Inv X k n m l:=by
 obtain⟨f,g,h,i,j⟩:=l;subst d;exact I.call u hok e a
end
abbrev XK:=Value->Option Addr->Hp->Prop
abbrev St:=List (Option V)
abbrev VK:=V->Hp->Prop
abbrev TE:=St->Hp->VK->Prop
abbrev TT:=St->Hp->(Bool->Hp->Prop)->Prop
abbrev TA:=St->Hp->(List V->Hp->Prop)->Prop
structure Ends where
 nx:St->Hp->Prop
 rt:VK
 bk:St->Hp->Prop:=λ_ _=>False
 ct:St->Hp->Prop:=λ_ _=>False
abbrev TS:=Ends->St->Hp->Prop
def EP (X:Cx)(pins:List (Addr×Obj))(σ:St)(Q:VK)(u:Value)(s':aw):Prop:=∃v H',Inv X pins σ H' s'/\RelV v u/\Q v H'
def TP (X:Cx)(pins:List (Addr×Obj))(σ:St)(Q:Bool->Hp->Prop)(b:Bool)(s':aw):Prop:=∃H',Inv X pins σ H' s'/\Q b H'
def AP (X:Cx)(pins:List (Addr×Obj))(σ:St)(Q:List V->Hp->Prop)(us:List Value)(s':aw):Prop:=∃vs H',Inv X pins σ H' s'/\Vals vs us/\Q vs H'
def SP (X:Cx)(pins:List (Addr×Obj))(D:Ends)(f:Flow)(s':aw):Prop:=
 match f with
 |.next=>∃bN H',Inv X pins bN H' s'/\D.nx bN H'
 |.brk=>∃bN H',Inv X pins bN H' s'/\D.bk bN H'
 |.cont=>∃bN H',Inv X pins bN H' s'/\D.ct bN H'
 |.ret u=>∃v bN H',Inv X pins bN H' s'/\RelV v u/\D.rt v H'
def PE (X:Cx)(e:Expr)(t:TE):Prop:=∀(pins:List (Addr×Obj)) (s:aw) (σ:St) (H:Hp) (Q:VK),Inv X pins σ H s->t σ H Q->wpAny (model X.prog X.w) X.A (eval e X.env) (EP X pins σ Q) X.xe s
def PT (X:Cx)(e:Expr)(t:TT):Prop:=∀(pins:List (Addr×Obj)) (s:aw) (σ:St) (H:Hp) (Q:Bool->Hp->Prop),Inv X pins σ H s->t σ H Q->wpAny (model X.prog X.w) X.A (pu e X.env (eval e X.env)) (TP X pins σ Q) X.xe s
def PW (X:Cx)(e:Expr)(t:TT):Prop:=∀(whole:Sem Value) (pins:List (Addr×Obj)) (s:aw) (σ:St) (H:Hp) (Q:Bool->Hp->Prop),Inv X pins σ H s->t σ H Q->wpAny (model X.prog X.w) X.A (pu e X.env whole) (TP X pins σ Q) X.xe s
theorem PW.pt (h:PW X e t):PT X e t:=h _
def PA (X:Cx)(es:List Expr)(t:TA):Prop:=∀(pos:Pos) (pins:List (Addr×Obj)) (s:aw) (σ:St) (H:Hp) (Q:List V->Hp->Prop),Inv X pins σ H s->t σ H Q->wpAny (model X.prog X.w) X.A (spliced (gy pos (cn es X.env))) (AP X pins σ Q) X.xe s
def PS (X:Cx)(st:Stmt)(t:TS):Prop:=∀(pins:List (Addr×Obj)) (s:aw) (σ:St) (H:Hp) (D:Ends),Inv X pins σ H s->t D σ H->wpAny (model X.prog X.w) X.A (exec st X.env) (SP X pins D) X.xe s
def PSs (X:Cx)(st:List Stmt)(t:TS):Prop:=∀(pins:List (Addr×Obj)) (s:aw) (σ:St) (H:Hp) (D:Ends),Inv X pins σ H s->t D σ H->wpAny (model X.prog X.w) X.A (execs st X.env) (SP X pins D) X.xe s
theorem aM (h:wpAny M A t Q E s)(b:∀a s,Q a s->c a s):wpAny M A t c E s:=gk h b λ_ _ x=>x
section
variable {X:Cx}
theorem bin (j:PE X a B)(k:PE X b C){R:V->V->Hp->Prop}(I:Inv X r t H s)(h:B t H fun x z=>C t z fun y c=>R x y c)
  {i:Type} {Q:i->aw->Prop} {f:Value->Value->Sem i}
  (hf:∀v u g x y c,Inv X r t c g->RelV x v->RelV y u->R x y c->wpAny (model X.prog X.w) X.A (f v u) Q X.xe g):
  wpAny (model X.prog X.w) X.A (eval a X.env) (λv d=>wpAny (model X.prog X.w) X.A (eval b X.env) (λu e=>wpAny (model X.prog X.w) X.A (f v u) Q X.xe e) X.xe d) X.xe s:=by
 exact aM (j r s t H _ I h) λv s1 ⟨x,z,l,m,n⟩=>aM (k r s1 t z _ l n) λu g ⟨y,c,o,p,q⟩=>hf v u g x y c o m p q
def um (i:Nat):TE:=λσ H Q=>∃v,σ[i]?=some (some v)/\Q v H
def tC (v:V):TE:=λ_ H Q=>Q v H
theorem oF (hN:X.N[i]?=some x)(g:Vis X.env.scope x)(hd:Ue x:=by decide)(d:(x==("__classdict__":Str))=false:=by decide):PE X (.Name x pos) (um i):=by
 rintro k s n H Q I ⟨v,e,h⟩
 obtain⟨m,hn,j⟩:=I.loc;obtain⟨u,r,l⟩:=j i x v hN e g;have b:EP X k n Q u s:=⟨v,H,I,r,h⟩;rcases l with⟨hk,hm⟩|⟨hk,c,f,a⟩
 ·exact ny (l9 I.ok.kind hk hn hm b) hd
 ·rcases hk with hk|hk
  ·exact ny (wpAny_loadName_cell I.ok.kind hk f a b) hd
  ·exact ny (wpAny_loadName_free I.ok.kind hk f a b d) hd
theorem JA {i j a}:PE X (.Constant (.int i) j a) (tC (.int i)):=λ_ _ _ H _ I h=>wpAny_Constant_int ⟨.int i,H,I.tok _,⟨_,rfl⟩,h⟩
theorem JB {b j a}:PE X (.Constant (.bool b) j a) (tC (.bl b)):=λ_ _ _ H _ I h=>Constant_bool ⟨.bl b,H,I,rfl,h⟩
theorem JC {j a}:PE X (.Constant .none j a) (tC .non):=λ_ _ _ H _ I h=>ni ⟨.non,H,I,rfl,h⟩
theorem JD {x j a}:PE X (.Constant (.str x) j a) (tC (.str x)):=λ_ _ _ H _ I h=>Calls.Constant_str ⟨.str x,H,I.tok _,⟨_,rfl⟩,h⟩
def Gl (X:Cx)(x:Str):Prop:=X.env.kindOf x=some .globalImplicit
theorem z2m (I:Inv X b c H s)(a:Gl X x)(hm:X.mg x=some u)(h:Q u s)
  (hd:Ue x:=by decide):wpAny (model X.prog X.w) X.A (eval (.Name x pos) X.env) Q E s:=
 ii I.ok.kind a (lh (I.ok.glob▸I.mod.glob.keeps I.bk) hm h) hd
theorem z2j (I:Inv X f g H s)(a:Gl X x)(hm:X.mg x=none)(b:cq x=some u)(h:Q u s)
  (hn:x≠"__name__":=by decide) (hd:Ue x:=by decide):wpAny (model X.prog X.w) X.A (eval (.Name x pos) X.env) Q E s:=by
 obtain⟨e,c,d⟩:=I.mod.blt;exact ii I.ok.kind a (Calls.loadGlobal_builtin (I.ok.glob▸I.mod.glob.keeps I.bk) hm (I.ok.blt▸c.keeps I.bk) ((d x hn).trans b) h) hd
theorem JE (a:Gl X x)(hm:X.mg x=some u)(r:RelV v u)(hd:Ue x:=by decide):PE X (.Name x pos) (tC v):=λ_ _ _ H _ I h=>z2m I a hm ⟨v,H,I,r,h⟩ hd
theorem JF (a:Gl X x)(hm:X.mg x=none)(b:cq x=some u)(r:RelV v u)(hn:x≠"__name__":=by decide)(hd:Ue x:=by decide):PE X (.Name x pos) (tC v):=λ_ _ _ H _ I h=>z2j I a hm b ⟨v,H,I,r,h⟩ hn hd
variable {a b:Expr}{ta tb:TE}{pos:Pos}
def PC (X:Cx)(op:CmpOp)(a b:Expr)(t:TE):Prop:=∀(pins:List (Addr×Obj)) (s:aw) (σ:St) (H:Hp) (Q:VK),Inv X pins σ H s->t σ H Q->wpAny (model X.prog X.w) X.A (eval a X.env) (λv zv=>wpAny (model X.prog X.w) X.A (eval b X.env) (λu zw=>wpAny (model X.prog X.w) X.A (cf op v u) (EP X pins σ Q) X.xe zw) X.xe zv) X.xe s
theorem Dz (b:Expr)(h:e≠.In)(a:e≠.NotIn):dq e b=false:=by
 have c:(e==CmpOp.In)=false:=by cases e<;>first|rfl|exact absurd rfl h
 have d:(e==CmpOp.NotIn)=false:=by cases e<;>first|rfl|exact absurd rfl a
 cases b<;>simp[dq,c,d]
def uo (ta:TE):TE:=λσ H Q=>ta σ H λx H1=>Q (.bl (decide (x=.non))) H1
def DA (ta:TE):TE:=λσ H Q=>ta σ H λx H1=>Q (.bl (!decide (x=.non))) H1
theorem RelV.iA (r:RelV x v):(v==Value.none)=decide (x=.non):=by
 cases x with
 |non=>cases r;rfl
 |bl _=>cases r;rfl
 |int _=>obtain⟨t,rfl⟩:=r;rfl
 |str _=>obtain⟨t,rfl⟩:=r;rfl
 |ref _=>cases r;rfl
 |ty _=>cases r;rfl
theorem DB {j pos'}(ha:PE X a ta):PC X .Is a (.Constant .none j pos') (uo ta):=by intro pins s σ H Q I h;exact aM (ha pins s σ H _ I h) λv s1 ⟨x,H1,I1,r1,q1⟩=>ni (is_none_gen ⟨.bl _,H1,I1,by rw[r1.iA];rfl,q1⟩)
theorem DC {j pos'}(ha:PE X a ta):PC X .IsNot a (.Constant .none j pos') (DA ta):=by intro pins s σ H Q I h;exact aM (ha pins s σ H _ I h) λv s1 ⟨x,H1,I1,r1,q1⟩=>ni (isnot_none_gen ⟨.bl _,H1,I1,by rw[r1.iA];rfl,q1⟩)
def tB (t:TE):TT:=λσ H Q=>t σ H λx H1=>∃c,x=.bl c/\Q c H1
theorem DD (h:PC X c a b t)(d:dq c b=false:=by first|exact Dz _ dc dc|rfl):PE X (.Compare a [c] [b] pos) t:=λf s g H Q I e=>wpAny_Compare1 (h f s g H Q I e) d
theorem DE (h:PC X f a b t)(e:dq f b=false:=by first|exact Dz _ dc dc|rfl):PT X (.Compare a [f] [b] pos) (tB t):=by intro o s p H Q I g;refine l5 (aM (h o s p H _ I g) λv s1 e=>aM e λu m i=>aM i λc n ⟨x,r,j,k,l⟩=>?_) e;obtain⟨d,rfl,q⟩:=l;cases k;exact dt ⟨r,j,q⟩
variable {tA wR:TT}{rest:List Expr}
def zx (t u:TT):TT:=λσ H Q=>t σ H λc H1=>if c=true then u σ H1 Q else Q false H1
def DF (t u:TT):TT:=λσ H Q=>t σ H λc H1=>if c=true then Q true H1 else u σ H1 Q
def uq (t:TT):TT:=λσ H Q=>t σ H λc H1=>Q (!c) H1
theorem JG (b:PT X a tA):PW X (.BoolOp .And [a] pos) tA:=by
 intro wh d s f H Q I h;refine isTrue_and (aM (b d s f H Q I h) λc s1 e=>?_);cases c with
 |true=>exact isTrue_and_nil e
 |false=>exact e
theorem DG (b:PT X a tA):PW X (.BoolOp .Or [a] pos) tA:=by
 intro wh d s f H Q I h;refine isTrue_or (aM (b d s f H Q I h) λc s1 e=>?_);cases c with
 |false=>exact isTrue_or_nil e
 |true=>exact e
theorem JH (f:PT X a tA)(g:PW X (.BoolOp .And (b::rest) pos) wR):PW X (.BoolOp .And (a::b::rest) pos) (zx tA wR):=by
 intro wh i s j H Q I h;refine isTrue_and (aM (f i s j H _ I h) λc s1 ⟨k,d,e⟩=>?_);cases c with
 |true=>exact g wh i s1 j k Q d e
 |false=>exact⟨k,d,e⟩
theorem zy (f:PT X a tA)(g:PW X (.BoolOp .Or (b::rest) pos) wR):PW X (.BoolOp .Or (a::b::rest) pos) (DF tA wR):=by
 intro wh i s j H Q I h;refine isTrue_or (aM (f i s j H _ I h) λc s1 ⟨k,d,e⟩=>?_);cases c with
 |true=>exact⟨k,d,e⟩
 |false=>exact g wh i s1 j k Q d e
theorem DH (b:PT X a tA):PT X (.UnaryOp .Not a pos) (uq tA):=by intro d s e H Q I h;exact isTrue_not (b d s e H (λc f=>Q (!c) f) I h)
def JI (ta tb:TE):TE:=λσ H Q=>ta σ H λx H1=>∃c,x=.bl c/\if c=true then tb σ H1 Q else Q (.bl false) H1
def zA (ta tb:TE):TE:=λσ H Q=>ta σ H λx H1=>∃c,x=.bl c/\if c=true then Q (.bl true) H1 else tb σ H1 Q
theorem DI {op}(h:PE X a t):PE X (.BoolOp op [a] pos) t:=λpins s σ H Q I hw=>BoolOp_one (h pins s σ H Q I hw)
theorem JJ (f:PE X a ta)(g:PE X (.BoolOp .And (b::rest) pos) tb):PE X (.BoolOp .And (a::b::rest) pos) (JI ta tb):=by
 intro j s k H Q I h;refine BoolOp_and (aM (f j s k H _ I h) λv s1 ⟨x,l,e,i,d⟩=>?_);obtain⟨c,rfl,d⟩:=d;cases i;refine dt ?_;cases c with
 |true=>exact g j s1 k l Q e d
 |false=>exact⟨.bl false,l,e,rfl,d⟩
theorem JK (f:PE X a ta)(g:PE X (.BoolOp .Or (b::rest) pos) tb):PE X (.BoolOp .Or (a::b::rest) pos) (zA ta tb):=by
 intro j s k H Q I h;refine BoolOp_or (aM (f j s k H _ I h) λv s1 ⟨x,l,e,i,d⟩=>?_);obtain⟨c,rfl,d⟩:=d;cases i;refine dt ?_;cases c with
 |false=>exact g j s1 k l Q e d
 |true=>exact⟨.bl true,l,e,rfl,d⟩
def DJ (t:TT)(ta tb:TE):TE:=λσ H Q=>t σ H λc H1=>if c=true then ta σ H1 Q else tb σ H1 Q
theorem JL (g:PT X c tA)(i:PE X a ta)(j:PE X b tb):PE X (.IfExp c a b pos) (DJ tA ta tb):=by
 intro k s l H Q I h;refine wpAny_IfExp (aM (g k s l H _ I h) λd s1 ⟨m,e,f⟩=>?_);cases d with
 |true=>exact i k s1 l m Q e f
 |false=>exact j k s1 l m Q e f
end
def SqL (K:W.Frag)(H:Hp)(a:Addr)(xs:List V):Prop:=Rd H a (.lst xs)\/∃(o:Obj) (fN:Array Value) (n:Nat),K.lookup a=some o/\o.cls=.type "list"/\o.dict=none/\o.data=.seq fN n/\fN.size<=av/\Vals xs fN.toList
def dB (K:W.Frag)(H:Hp)(a:Addr)(xs:List V):Prop:=Rd H a (.tup xs)\/∃(o:Obj) (fN:Array Value) (n:Nat),K.lookup a=some o/\o.cls=.type "tuple"/\o.dict=none/\o.data=.seq fN n/\fN.size<=av/\Vals xs fN.toList
def zB:Value->Option V
 |.none=>some .non
 |.bool b=>some (.bl b)
 |.int i _=>some (.int i)
 |.str x _=>some (.str x)
 |.ref a=>some (.ref a)
 |.type n=>some (.ty n)
 |_=>none
theorem RelV.abs (r:RelV x u):zB u=some x:=by
 cases x with
 |non=>cases r;rfl
 |bl _=>cases r;rfl
 |int _=>obtain⟨t,rfl⟩:=r;rfl
 |str _=>obtain⟨t,rfl⟩:=r;rfl
 |ref _=>cases r;rfl
 |ty _=>cases r;rfl
theorem RelV.inj (r:RelV x u)(q:RelV y u):x=y:=qg (r.abs.symm.trans q.abs)
theorem Vals.inj:∀{a b:List V} {e:List Value},Vals a e->Vals b e->a=b
 |_,_,_,.nil,.nil=>rfl
 |_,_,_,.cons r t,.cons c d=>by rw[r.inj c,Vals.inj t d]
theorem SqL.of {K:W.Frag}(h:H a=some (.lst xs)):SqL K H a xs:=.inl (.inl h)
theorem dB.of {K:W.Frag}(h:H a=some (.tup xs)):dB K H a xs:=.inl (.inl h)
theorem Inv.list (I:Inv X f g H s)(h:SqL X.K H a xs):∃b,Vals xs b/\PlainL s.heap a b.toArray/\xs.length<=av:=by
 rcases h with h|⟨o,b,n,hk,c,hd,hs,d,r⟩
 ·obtain⟨z,b,n,r,e⟩:=h.ok I.hok;exact⟨b,r,⟨_,n,e,rfl,rfl,rfl⟩,z⟩
 ·refine⟨b.toList,r,⟨o,n,I.cZ a o hk,c,hd,by simpa using hs⟩,?_⟩;have e:=r.length;simp at e;omega
theorem Inv.tuple (I:Inv X f g H s)(h:dB X.K H a xs):∃b,Vals xs b/\IsTup s.heap a b.toArray/\xs.length<=av:=by
 rcases h with h|⟨o,b,n,hk,c,_,hs,d,r⟩
 ·obtain⟨z,b,r,p⟩:=h.ok I.hok;exact⟨b,r,p.tup,z⟩
 ·refine⟨b.toList,r,⟨o,I.cZ a o hk,c,n,by simpa using hs⟩,?_⟩;have e:=r.length;simp at e;omega
theorem Inv.mC (I:Inv X q t H s)(h:SqL X.K H a i)(j:SqL X.K H a k):i=k:=by
 obtain⟨c,r,⟨o,n,e,_,_,d⟩,_⟩:=I.list h;obtain⟨b,l,⟨m,p,f,_,_,g⟩,_⟩:=I.list j;rw[e]at f;cases f;rw[d]at g;injection g with d1 _;have:c=b:=by simpa using congrArg Array.toList d1
 subst this;exact r.inj l
theorem Inv.jY (I:Inv X q t H s)(h:dB X.K H a i)(j:dB X.K H a k):i=k:=by
 obtain⟨c,r,⟨o,e,_,n,d⟩,_⟩:=I.tuple h;obtain⟨b,l,⟨m,f,_,p,g⟩,_⟩:=I.tuple j;rw[e]at f;cases f;rw[d]at g;injection g with d1 _;have:c=b:=by simpa using congrArg Array.toList d1
 subst this;exact r.inj l
abbrev Cx.fO (X:Cx)(E:Value->aw->Prop):Cx:={X with xe:=E}
abbrev Cx.ur (X:Cx):Cx:=X.fO λ_ _=>False
theorem Cx.Ok.fO {X:Cx}(ok:X.Ok)(E:Value->aw->Prop):(X.fO E).Ok:=⟨ok.mod,ok.kind,ok.glob,ok.blt,ok.above,ok.inj,ok.has,ok.qY,ok.hd,ok.frames,ok.sU,ok.fI,ok.bs,ok.lF,ok.iV,ok.iW,ok.cU,ok.oE,ok.wO⟩
theorem Cx.Ok.cV {X:Cx}(ok:(X.fO E).Ok):X.Ok:=⟨ok.mod,ok.kind,ok.glob,ok.blt,ok.above,ok.inj,ok.has,ok.qY,ok.hd,ok.frames,ok.sU,ok.fI,ok.bs,ok.lF,ok.iV,ok.iW,ok.cU,ok.oE,ok.wO⟩
theorem Inv.fO (I:Inv X a b H s)(E:Value->aw->Prop):Inv (X.fO E) a b H s:=⟨I.ok.fO E,I.os,I.bare,I.base,I.loc,I.cell,I.free,I.bH,I.pin,I.hok,I.len,I.fx⟩
theorem Inv.cV (I:Inv (X.fO E) a b H s):Inv X a b H s:=⟨I.ok.cV,I.os,I.bare,I.base,I.loc,I.cell,I.free,I.bH,I.pin,I.hok,I.len,I.fx⟩
theorem SP.cV (h:SP (X.fO E) c D f d):SP X c D f d:=by
 cases f with
 |next=>obtain⟨a,b,I,q⟩:=h;exact⟨a,b,I.cV,q⟩
 |brk=>obtain⟨a,b,I,q⟩:=h;exact⟨a,b,I.cV,q⟩
 |cont=>obtain⟨a,b,I,q⟩:=h;exact⟨a,b,I.cV,q⟩
 |ret u=>obtain⟨v,a,b,I,r,q⟩:=h;exact⟨v,a,b,I.cV,r,q⟩
theorem PSs.ur {st:List Stmt}(h:PSs X.ur st t):PSs X st t:=λb s c H D I a=>gk (h b s c H D (I.fO _) a) (λ_ _ q=>q.cV) λ_ _ z=>False.elim z
section
variable {X:Cx}{st:Stmt}{rest:List Stmt}{t u:TS}
def DK:TS:=λD σ H=>D.nx σ H
def uu (t u:TS):TS:=λD σ H=>t {D with nx:=u D} σ H
theorem DL:PSs X [] DK:=λ_ _ a H _ I h=>jz ⟨a,H,I,h⟩
theorem DM (b:PS X st t)(c:PSs X rest u):PSs X (st::rest) (uu t u):=by
 intro e s g H D I h;refine wpAny_execs_cons (aM (b e s g H {D with nx:=u D} I h) λf s1 q=>?_);cases f with
 |next=>obtain⟨a,i,d,q⟩:=q;exact c e s1 a i D d q
 |ret v=>exact q
 |brk=>exact q
 |cont=>exact q
def JM:TS:=λD σ H=>D.ct σ H
theorem JN:PS X (.Continue a) JM:=λ_ _ b H _ I h=>wpAny_Continue ⟨b,H,I,h⟩
theorem Inv.quiet (I:Inv X a b H s):interactive X.env=false:=by simp[interactive,I.ok.kind]
def uv (te:TE):TS:=λD σ H=>te σ H λ_ H1=>D.nx σ H1
theorem JO (a:PE X e j)(hs:iu e none g.line X.env=pure false:=by rfl):PS X (.Expr e g) (uv j):=by intro f s i H D I h;exact wpAny_Expr_any (aM (a f s i H _ I h) λv s1 ⟨x,k,b,d,c⟩=>⟨i,k,b,c⟩) I.quiet hs
def uw (te:TE):TS:=λD σ H=>te σ H D.rt
theorem zC (a:PE X e i):PS X (.Return (some e) j) (uw i):=by intro f s g H D I h;exact wpAny_Return_some (aM (a f s g H _ I h) λv s1 ⟨x,k,b,c,d⟩=>⟨x,g,k,b,c,d⟩)
def ux (c:TT)(t u:TS):TS:=λD σ H=>c σ H λb H1=>if b=true then t D σ H1 else u D σ H1
theorem DN (g:PT X c tc)(i:PSs X a t)(j:PSs X b u):PS X (.If c a b n) (ux tc t u):=by
 intro k s l H D I h;refine wpAny_If (aM (g k s l H _ I h) λd s1 ⟨m,e,f⟩=>?_);cases d with
 |true=>exact i k s1 l m D e f
 |false=>exact j k s1 l m D e f
end
abbrev TG:=V->St->Hp->(St->Hp->Prop)->Prop
abbrev qZ:=List V->St->Hp->(St->Hp->Prop)->Prop
def PG (X:Cx)(target:Expr)(t:TG):Prop:=∀(pins:List (Addr×Obj)) (s:aw) (σ:St) (H:Hp) (v:V) (u:Value) (Q:St->Hp->Prop),Inv X pins σ H s->RelV v u->t v σ H Q->wpAny (model X.prog X.w) X.A (nz target X.env u) (λ_ s'=>∃bN H',Inv X pins bN H' s'/\Q bN H') X.xe s
def PGs (X:Cx)(ts:List Expr)(t:qZ):Prop:=∀(pins:List (Addr×Obj)) (s:aw) (σ:St) (H:Hp) (vs:List V) (us:List Value) (Q:St->Hp->Prop),Inv X pins σ H s->Vals vs us->t vs σ H Q->wpAny (model X.prog X.w) X.A (assignInOrder ((dw ts X.env).map (·.2)) us) (λ_ s'=>∃bN H',Inv X pins bN H' s'/\Q bN H') X.xe s
abbrev zD:=V->V->V->Hp->(Hp->Prop)->Prop
def zE (X:Cx)(t:zD):Prop:=∀(pins:List (Addr×Obj)) (s:aw) (σ:St) (H:Hp) (o i v:V) (ov iv u:Value) (Q:Hp->Prop),Inv X pins σ H s->RelV o ov->RelV i iv->RelV v u->t o i v H Q->wpAny (model X.prog X.w) X.A (setItem ov iv u) (λ_ s'=>∃H',Inv X pins σ H' s'/\Q H') X.xe s
def wU (i:Nat):TG:=λv σ H Q=>Q (σ.set i (some v)) H
theorem DO (hN:X.N.Nodup)(d:X.N[i]?=some x)(a:Loc X.env.scope x)(hf:X.fn x=true\/X.env.scope.names.lookup x=some .local:=by first|exact .inl rfl|exact .inr rfl|assumption):PG X (.Name x pos) (wU i):=by intro c s e H v u Q I r h;exact oo (z5g I hN d a r (λf b=>⟨_,H,b,h⟩) hf)
def zF:qZ:=λvs σ H Q=>vs=[]/\Q σ H
def JP (t:TG)(u:qZ):qZ:=λvs σ H Q=>∃v r,vs=v::r/\t v σ H λbN H'=>u r bN H' Q
theorem JQ:PGs X [] zF:=by
 rintro a s b H c d Q I r ⟨rfl,h⟩
 cases r;exact assignInOrder_nil ⟨b,H,I,h⟩
theorem zfr (b:PG X e t)(c:PGs X k u)
  (hs:(dw (e::k) X.env).map (·.2)=nz e X.env::(dw k X.env).map (·.2):=by rfl):PGs X (e::k) (JP t u):=by
 rintro j s l H n o Q I r ⟨v,i,rfl,h⟩
 cases r with
 |cons r d=>rw[hs];refine assignInOrder_cons (aM (b j s l H _ _ _ I r h) λ_ s1 ⟨a,m,f,g⟩=>?_);exact c j s1 a m _ _ Q f d g
def zG (K:W.Frag)(n:Nat)(t:qZ):TG:=λv σ H Q=>∃a xs,v=.ref a/\dB K H a xs/\xs.length=n/\t xs σ H Q
theorem zol (f:X.calm=true)(h:PGs X A t)
  (hn:(dw A X.env).length=n:=by rfl) (c:(dw A X.env).findIdx? (·.1)=none:=by rfl):PG X (.Tuple A k pos) (zG X.K n t):=by
 rintro z s B H v u Q I r ⟨a,g,rfl,i,j,l⟩
 cases r;obtain⟨m,d,p,y⟩:=I.tuple i;refine assign_Tuple_tuple (I.ok.hd f) p (by simp[hn,<-j,d.length]) c λq w=>?_;have x:Inv X z B H {s with heap:=q}:=I.kept λb o e=>w b o (b9 (bb e)) e;exact h z _ B H g _ Q x (by simpa using d) l
def oG (te:TE)(g:TG):TS:=λD σ H=>te σ H λx H1=>g x σ H1 D.nx
theorem znp (b:PE X e p)(c:PG X a g)(hs:nj [a] e n.line X.env=pure false:=by rfl)(d:nk [a] e X.env=pure none:=by rfl)
  (f:(dw [a] X.env).map (·.2)=[nz a X.env]:=by rfl):PS X (.Assign [a] e n) (oG p g):=by
 intro m s o H D I h;refine wpAny_Assign_stores (aM (b m s o H _ I h) λv s1 ⟨x,r,i,j,k⟩=>?_) hs d;rw[f];exact aM (c m s1 o r x v _ i j k) λ_ l q=>q
theorem zjm (hN:X.N.Nodup)(n:X.N[i]?=some x)(b:Loc X.env.scope x)(c:PE X e o)(hs:iu e (some (.Name x a)) m.line X.env=pure false:=by rfl)(hf:X.fn x=true\/X.env.scope.names.lookup x=some .local:=by first|exact .inl rfl|exact .inr rfl|assumption):
  PS X (.Assign [.Name x a] e m) (oG o (wU i)):=by
 intro l s p H D I h;refine wpAny_Assign_Name (aM (c l s p H _ I h) λv s1 ⟨y,q,d,f,g⟩=>?_) hs;exact z5g d hN n b f (λk j=>⟨_,q,j,g⟩) hf
def DP (c:TT)(tb:TS):TS:=λD σ H=>∃W:Nat->St->Hp->Prop,(∃m,W m σ H)/\∀m σ H,W m σ H->c σ H λb H1=>if b=true then ∃N:St->Hp->Prop,(∀bN H',N bN H'->∃m',m'<m/\W m' bN H')/\tb {D with nx:=N,ct:=N,bk:=D.nx} σ H1 else D.nx σ H1
theorem DQ (q:ej (model X.prog X.w) X.A X.env X.xe)(u:PT X c tc)(x:PSs X e tb):PS X (.While c e [] pos) (DP tc tb):=by
 rintro F s K H D I ⟨W,⟨m0,y⟩,g⟩
 refine wpAny_While (codeAny_whileLoop (λn L=>∃h G,Inv X F h G L/\W n h G) ?_ m0 ⟨K,H,I,y⟩)
 rintro n s1 ⟨d,J,z,B⟩
 refine fh q (aM (u F s1 d J _ z (g n d J B)) λb C ⟨r,t,j⟩=>?_);cases b with
 |true=>
  obtain⟨N,hN,j⟩:=j;refine fh q (aM (x F C d r _ t j) λf E k=>?_);cases f with
  |next=>obtain⟨a,i,l,m⟩:=k;obtain⟨o,hm,p⟩:=hN a i m;exact⟨o,hm,a,i,l,p⟩
  |cont=>obtain⟨a,i,l,m⟩:=k;obtain⟨o,hm,p⟩:=hN a i m;exact⟨o,hm,a,i,l,p⟩
  |brk=>exact k
  |ret v=>exact k
 |false=>exact jz ⟨d,r,t,j⟩
structure It where
 go:Nat->Hp->Prop
 jZ:Nat->Hp->V->Hp->Prop
 stop:Nat->Hp->Prop
def FpOk (X:Cx)(pins:List (Addr×Obj))(H:Hp)(b:Addr):Prop:=H b=none/\b≠X.env.locals/\b∉X.fs/\(b∈X.ex\/X.s₀.heap.objs.size<=b)/\(∀x c,X.env.cells.lookup x=some c->c≠b)/\∀p∈X.pn++pins,p.1≠b
theorem Inv.iB (I:Inv X f h H s)(a:s.heap.objs.size<=b)(hn:g b=none):FpOk X f g b:=by
 refine⟨hn,lq (bv I.lt a),I.uk a,.inr (bp I.sz a),λx c e z=>?_,λp d z=>?_⟩
 ·obtain⟨v,q⟩:=I.cell x c e;exact absurd (bv q.lt (z▸a)) (cx _)
 ·exact absurd (bv (bb (I.pin p d).1) (z▸a)) (cx _)
structure Turn (P:cc)(w:World)(K:W.Frag)(tg:Expr)(J:It)(fp:List Addr)(it:Addr)(tn:Nat->Heap->Prop):Prop where
 mem:it∈fp
 obj:∀i h,tn i h->∀b∈fp,∃o,h.get? b=some o/\∀v,o.data≠.cell v
 keep:∀i h h',tn i h->(∀b∈fp,∀o,h.get? b=some o->h'.get? b=some o)->tn i h'
 item:∀(X:Cx),X.prog=P->X.w=w->X.K=K->X.calm=true->∀(i:Nat) (pins:List (Addr×Obj)) (s:aw) (σ:St) (H:Hp) (E:Value->aw->Prop),Inv X pins σ H s->(∀b∈fp,FpOk X pins H b)->tn i s.heap->J.go i H->wpAny (model P w) X.A (pv (.ref it)) (λr s1=>∃u,r=some u/\wpAny (model P w) X.A (gp tg (.ref it) u) (λ_ s2=>∃x H',Inv X pins σ H' s2/\RelV x u/\J.jZ i H x H'/\tn (i+1) s2.heap/\∀b∈fp,H' b=none) E s1) E s
 done:∀(X:Cx),X.prog=P->X.w=w->X.K=K->X.calm=true->∀(i:Nat) (pins:List (Addr×Obj)) (s:aw) (σ:St) (H:Hp) (E:Value->aw->Prop),Inv X pins σ H s->(∀b∈fp,FpOk X pins H b)->tn i s.heap->J.stop i H->wpAny (model P w) X.A (pv (.ref it)) (λr s1=>r=none/\Inv X pins σ H s1) E s
 self:∀(A:e9) (i:Nat) (s:aw) (Q:Value->aw->Prop) (E:Value->aw->Prop),tn i s.heap->Q (.ref it) s->wpAny (model P w) A (pw (.ref it)) Q E s
abbrev TI:=St->Hp->(It->Hp->Prop)->Prop
def q8 (X:Cx)(pins:List (Addr×Obj))(σ:St)(tg:Expr)(R:It->Hp->Prop)(uy:Value)(s2:aw):Prop:=∃(it:Addr) (fp:List Addr) (tn:Nat->Heap->Prop) (J:It) (H':Hp),uy=.ref it/\Inv X pins σ H' s2/\Turn X.prog X.w X.K tg J fp it tn/\tn 0 s2.heap/\(∀b∈fp,FpOk X pins H' b)/\R J H'
def PI (X:Cx)(tg iter:Expr)(wi:TI):Prop:=∀(pins:List (Addr×Obj)) (s:aw) (σ:St) (H:Hp) (R:It->Hp->Prop),Inv X pins σ H s->wi σ H R->wpAny (model X.prog X.w) X.A (eval iter X.env) (λv s1=>wpAny (model X.prog X.w) X.A (pw v) (q8 X pins σ tg R) X.xe s1) X.xe s
theorem z82 (b:s.heap.get? c=some o)(d:o.cls=.type n)(hd:o.data=.fields f)
  (hn:["enumerate","zip","dict_itemiterator","dict_reverseitemiterator","odict_iterator","itertools.zip_longest","itertools.pairwise"].contains n=false) (a:Q () s):wpAny M A (gp e (.ref c) u) Q E s:=by
 cases e<;>first
  |exact am a
  |(cases u<;>first
   |exact am a
   |(refine aa (p7 b ?_)
     rw[d,hd];show wpAny M A (if(["enumerate","zip","dict_itemiterator","dict_reverseitemiterator","odict_iterator","itertools.zip_longest","itertools.pairwise"].contains n&&f[0]?==some (i4 _))=true then _ else _) Q E s;rw[qf (by intro h;rw[hn]at h;cases h)];exact am a))
def zH (K:W.Frag)(a:Addr):It:=⟨λi H=>∃xs x,SqL K H a xs/\xs[i]?=some x,λi H x H'=>H'=H/\∀xs,SqL K H a xs->xs[i]?=some x,λi H=>∃xs,SqL K H a xs/\xs.length<=i⟩
def DR (K:W.Frag)(a:Addr):It:=⟨λi H=>∃xs x,dB K H a xs/\xs[i]?=some x,λi H x H'=>H'=H/\∀xs,dB K H a xs->xs[i]?=some x,λi H=>∃xs,dB K H a xs/\xs.length<=i⟩
def wV (lo:Int)(n:Nat):It:=⟨λi _=>i<n,λi H x H'=>H'=H/\x=.int (lo+i),λi _=>n<=i⟩
theorem DS {K:W.Frag}(a f:Addr):Turn P w K R (zH K a) [f] f (λi h=>h.IsListIter f a i) where
 mem:=by simp
 obj:=λi h st b g=>by
  have e:b=f:=by simpa using g
  subst e;obtain⟨o,e,c,d⟩:=st;exact⟨o,e,λv z=>by rw[d]at z;cases z⟩
 keep:=λi h m st k=>st.at λo e=>k f (by simp) o e
 item:=by intro X n q r F i U s V H E I hf st t;subst n q r;obtain⟨G,x,l,y⟩:=t;obtain⟨A,B,p,J⟩:=I.list l;obtain⟨u,hu,L⟩:=B.get y;obtain⟨f0,f1,f2,f3,C,D⟩:=hf f (by simp);refine wpAny_pyNext_list_item st p.isList (by simpa using hu) λm j M=>?_;have N:Inv X U V H {s with heap:=m}:=I.turned (λb o g e=>(M.2 b g).trans e) f0 f1 f3 C D;obtain⟨o,e,c,d⟩:=id j;exact⟨u,rfl,z82 e c d dc ⟨x,H,N,L,⟨rfl,λS O=>by rw[I.mC O l];exact y⟩,j,λb g=>(hf b g).1⟩⟩
 done:=by intro X n q r F i U s V H E I hf st t;subst n q r;obtain⟨G,l,y⟩:=t;obtain⟨A,B,p,J⟩:=I.list l;obtain⟨f0,f1,f2,f3,C,D⟩:=hf f (by simp);have T:=B.length;exact wpAny_pyNext_list_end (I.ok.hd F) st p.isList (by grind) λm Q=>⟨rfl,I.turned (λb o g e=>Q b o g e) f0 f1 f3 C D⟩
 self:=λ_ _ _ _ _ st h=>wpAny_pyIter_listiter st h
theorem JR {K:W.Frag}(a f:Addr):Turn P w K R (DR K a) [f] f (λi h=>h.IsTupleIter f a i) where
 mem:=by simp
 obj:=λi h st b g=>by
  have e:b=f:=by simpa using g
  subst e;obtain⟨o,e,c,d⟩:=st;exact⟨o,e,λv z=>by rw[d]at z;cases z⟩
 keep:=λi h m st k=>st.at λo e=>k f (by simp) o e
 item:=by intro X n q r F i U s V H E I hf st t;subst n q r;obtain⟨G,x,l,y⟩:=t;obtain⟨A,B,p,J⟩:=I.tuple l;obtain⟨u,hu,L⟩:=B.get y;obtain⟨f0,f1,f2,f3,C,D⟩:=hf f (by simp);refine wpAny_pyNext_tuple_item st p (by simpa using hu) λm j M=>?_;have N:Inv X U V H {s with heap:=m}:=I.turned (λb o g e=>(M.2 b g).trans e) f0 f1 f3 C D;obtain⟨o,e,c,d⟩:=id j;exact⟨u,rfl,z82 e c d dc ⟨x,H,N,L,⟨rfl,λS O=>by rw[I.jY O l];exact y⟩,j,λb g=>(hf b g).1⟩⟩
 done:=by intro X n q r F i U s V H E I hf st t;subst n q r;obtain⟨G,l,y⟩:=t;obtain⟨A,B,p,J⟩:=I.tuple l;obtain⟨f0,f1,f2,f3,C,D⟩:=hf f (by simp);have T:=B.length;exact wpAny_pyNext_tuple_end (I.ok.hd F) st p (by grind) λm Q=>⟨rfl,I.turned (λb o g e=>Q b o g e) f0 f1 f3 C D⟩
 self:=λ_ _ _ _ _ st h=>wpAny_pyIter_tupleiter st h
theorem JS {K:W.Frag}(a:Addr)(D:Int)(n:Nat):Turn P w K B (wV D n) [a] a (λi h=>IsRangeIter h a (D+(i:Nat)*1) ((n:Int)-(i:Nat)) 1) where
 mem:=by simp
 obj:=λi h st b c=>by
  have e:b=a:=by simpa using c
  subst e;exact⟨_,st,λv z=>by cases z⟩
 keep:=λi h f st k=>k a (by simp) _ st
 item:=by intro X p q r g i C s F H E I hf st j;subst p q r;obtain⟨f0,f1,f2,f3,l,m⟩:=hf a (by simp);refine(Walks.range (prog:=X.prog) (w:=X.w) (I.ok.hd g) a D 1 n).item i s _ _ j st λv f u x d kk=>?_;obtain⟨t,rfl⟩:=x;have y:Inv X C F H {s with heap:=f,toks:=u}:=I.turned (λb o c e=>kk b o (by simpa using c) e) f0 f1 f3 l m;refine⟨_,rfl,z82 d rfl rfl dc ⟨.int (D+i),H,y,⟨t,?_⟩,⟨rfl,rfl⟩,d,λb c=>(hf b c).1⟩⟩;rw[Int.mul_one]
 done:=by intro X p q r g i C s F H E I hf st j;obtain⟨f0,f1,f2,f3,l,m⟩:=hf a (by simp);exact wpAny_pyNext_range_end (I.ok.hd g) st (by have:n<=i:=j;omega) λf A=>⟨rfl,I.turned (λb o c e=>A b o c e) f0 f1 f3 l m⟩
 self:=λ_ _ _ _ _ st h=>wpAny_pyIter_rangeiter st h
def uz (K:W.Frag)(tl:TE):TI:=λσ H R=>tl σ H λx H1=>∃a,x=.ref a/\(∃xs,SqL K H1 a xs)/\R (zH K a) H1
theorem JT (d:PE X l w):PI X m l (uz X.K w):=by
 intro u s y H R I h;refine aM (d u s y H _ I h) λv s1 ⟨x,z,c,f,g⟩=>?_;obtain⟨a,rfl,⟨n,i⟩,q⟩:=g;cases f;obtain⟨j,r,p,t⟩:=c.list i;refine jg p.isList (⟨s1.heap.objs.size,[s1.heap.objs.size],_,_,z,rfl,c.kept λb o e=>af _ e,DS a _,⟨_,az _ rfl,rfl,rfl⟩,λb k=>?_,q⟩);have e:b=s1.heap.objs.size:=by simpa using k
 subst e;exact c.iB (ag _) (c.hok.fresh (ag _))
theorem zfj {l:Int}(I:Inv X n p H s)(c:-(2 ^ 62)<=l)(d:l<2 ^ 62)(f:-(2 ^ 62)<=m)(g:m<2 ^ 62)
  (q:R (wV l (m-l).toNat) H):wpAny (model X.prog X.w) X.A (pw (.ref s.heap.objs.size)) (q8 X n p k R) E {s with heap:=s.heap.push {cls:=.type "range",data:=.fields #[.int l t,.int m u,.int 1 v]},toks:=tk}:=by
 refine wpAny_pyIter_range (IsRange.new ..) (small_one c d f g) ?_;have a:Inv X n p H {s with heap:=s.heap.push {cls:=.type "range",data:=.fields #[.int l t,.int m u,.int 1 v]},toks:=tk}:=I.kept λb o e=>af _ e;refine⟨(s.heap.push {cls:=.type "range",data:=.fields #[.int l t,.int m u,.int 1 v]}).objs.size,[(s.heap.push {cls:=.type "range",data:=.fields #[.int l t,.int m u,.int 1 v]}).objs.size],_,_,H,rfl,a.kept λb o e=>af _ e,JS _ l (m-l).toNat,?_,λb h=>?_,q⟩
 ·have i:l+((0:Nat):Int)*1=l:=by simp
  have j:(((m-l).toNat:Nat):Int)-((0:Nat):Int)=Builtin.Range.rangeSize l m 1:=by rw[rangeSize_one];split<;>omega
  rw[i,j];exact az _ rfl
 ·have e:b=(s.heap.push {cls:=.type "range",data:=.fields #[.int l t,.int m u,.int 1 v]}).objs.size:=by simpa using h
  subst e;exact a.iB (ag _) (a.hok.fresh (ag _))
def JU (ta:TA):TI:=λσ H R=>ta σ H λvs H1=>∃j:Int,vs=[.int j]/\-(2 ^ 62)<=j/\j<2 ^ 62/\R (wV 0 j.toNat) H1
theorem JV (c:Gl X "range")(hm:X.mg "range"=none)(d:PA X [a] l)(hs:cn [a] X.env=[(false,eval a X.env)]:=by rfl):PI X tg (.Call (.Name "range" p) [a] [] pos) (JU l):=by
 intro k s m H R I h;refine Call_ (z2j I c hm boot_range (PyProof.Rows.callWith_type1 (aM (d pos k s m H _ I h) λn s1 ⟨o,u,e,f,b⟩=>?_) hs rfl));obtain⟨j,rfl,b,g,q⟩:=b;cases f with
 |cons r i=>cases i;obtain⟨t,rfl⟩:=r;exact call_range_1 (zfj e (by omega) (by omega) b g (by simpa using q))
def iX (wi:TI)(g:TG)(tb:TS):TS:=λD σ H=>wi σ H λJ H1=>∃W:Nat->Nat->St->Hp->Prop,(∃m,W 0 m σ H1)/\∀i m σ H,W i m σ H->(J.stop i H/\D.nx σ H)\/(J.go i H/\∃N:St->Hp->Prop,(∀bN H',N bN H'->∃m',m'<m/\W (i+1) m' bN H')/\∀x H',J.jZ i H x H'->g x σ H' λDT H2=>tb {D with nx:=N,ct:=N,bk:=D.nx} DT H2)
def z6t (fp:List Addr)(h:Heap):List (Addr×Obj):=fp.filterMap λb=>(h.get? b).map λo=>(b,o)
theorem wW (a:b∈c)(e:h.get? b=some o):(b,o)∈z6t c h:=j8.mpr ⟨b,a,by rw[e];rfl⟩
theorem JW (a:p∈z6t c h):p.1∈c/\h.get? p.1=some p.2:=by
 obtain⟨b,d,e⟩:=j8.mp a;cases q:h.get? b with
 |none=>rw[q]at e;cases e
 |some o=>rw[q]at e;have f:=qg e;subst f;exact⟨d,q⟩
theorem Inv.pinned (I:Inv X i j H s)(hf:∀b∈a,FpOk X i H b)(g:∀b∈a,∃o,s.heap.get? b=some o/\∀v,o.data≠.cell v):Inv X (i++z6t a s.heap) j H s:=I.gR λp h=>(bh.mp h).elim (λz=>I.pin p (bq _ z)) λz=>by obtain⟨c,e⟩:=JW z;obtain⟨f0,f1,f2,_⟩:=hf p.1 c;obtain⟨o,f,d⟩:=g p.1 c;rw[e]at f;cases f;exact⟨e,f0,f1,f2,d⟩
theorem Inv.cW (I:Inv X (b++pl) c H s):Inv X b c H s:=I.gR λp a=>I.pin p (bq _ (db _ a))
theorem zcu (C:ej (model X.prog X.w) X.A X.env X.xe)(V:X.calm=true)(hi:PI X Y y wi)(hg:PG X Y g)(c:PSs X E tb)
  (hs:∀x,ek y X.env x=pure x:=by intro _;rfl):PS X (.For Y y E [] pos) (iX wi g tb):=by
 intro Z s σ H D I h;refine wpAny_For (aM (hi Z s σ H _ I h) λv s1 h1=>aM h1 λuy s2 h2=>?_) hs;obtain⟨it,F,tn,J,H2,rfl,I2,T,P,f2,W,⟨m0,w0⟩,G⟩:=h2;have j:∀{H':Hp},(∀b∈F,H' b=none)->∀b∈F,FpOk X Z H' b:=λhn b c=>⟨hn b c,(f2 b c).2⟩;refine codeAny_forLoop_any (λn s'=>∃i k H',Inv X Z k H' s'/\tn i s'.heap/\(∀b∈F,H' b=none)/\W i n k H') ?_ m0 ⟨0,σ,H2,I2,P,λb c=>(f2 b c).1,w0⟩
 rintro n s3 ⟨i,l,O,I3,K,L,w3⟩
 rcases G i n l O w3 with⟨stop,qn⟩|⟨go,N,hN,step⟩
 ·refine fh C (aM (T.done X rfl rfl rfl V i Z s3 l O X.xe I3 (j L) K stop) λr s4 ⟨Q,I4⟩=>?_);subst Q;exact jz ⟨l,O,I4,qn⟩
 ·refine fh C (aM (T.item X rfl rfl rfl V i Z s3 l O X.xe I3 (j L) K go) λr s4 ⟨u,Q,h4⟩=>?_);subst Q;refine fh C (aM h4 λ_ s5 ⟨x,H5,I5,r5,y5,B,R⟩=>?_);refine fh C (aM (hg _ s5 l H5 x u _ (I5.pinned (j R) (T.obj _ _ B)) r5 (step x H5 y5)) λ_ s6 ⟨S,H6,I6,q6⟩=>?_);refine fh C (aM (c _ s6 S H6 _ I6 q6) λf U z=>?_);have p:∀{a:St} {q:Hp},Inv X (Z++z6t F s5.heap) a q U->N a q->∃m,m<n/\∃i k H',Inv X Z k H' U/\tn i U.heap/\(∀b∈F,H' b=none)/\W i m k H':=λ{a q} t M=>by obtain⟨m',hm,w7⟩:=hN a q M;refine⟨m',hm,i+1,a,q,t.cW,T.keep _ _ _ B λb c o e=>(t.pin (b,o) (bq _ (bq _ (wW c e)))).1,λb c=>?_,w7⟩;obtain⟨o,e,d⟩:=T.obj _ _ B b c;exact(t.pin (b,o) (bq _ (bq _ (wW c e)))).2.1
  cases f with
  |next=>obtain⟨a,q,t,M⟩:=z;exact p t M
  |cont=>obtain⟨a,q,t,M⟩:=z;exact p t M
  |brk=>obtain⟨a,q,t,z⟩:=z;exact⟨a,q,t.cW,z⟩
  |ret v=>obtain⟨x7,a,q,t,r7,z⟩:=z;exact⟨x7,a,q,t.cW,r7,z⟩
abbrev R2:=V->V->Hp->VK->Prop
def OpR (X:Cx)(f:Value->Value->Sem Value)(r:R2):Prop:=∀(pins:List (Addr×Obj)) (s:aw) (σ:St) (H:Hp) (x y:V) (v u:Value) (Q:VK),Inv X pins σ H s->RelV x v->RelV y u->r x y H Q->wpAny (model X.prog X.w) X.A (f v u) (EP X pins σ Q) X.xe s
def CallR (X:Cx)(f:Value)(r:List V->Hp->VK->Prop):Prop:=∀(pins:List (Addr×Obj)) (s:aw) (σ:St) (H:Hp) (xs:List V) (us:List Value) (Q:VK),Inv X pins σ H s->Vals xs us->r xs H Q->wpAny (model X.prog X.w) X.A (call f us) (EP X pins σ Q) X.xe s
def zI (X:Cx)(r:V->Hp->(Bool->Hp->Prop)->Prop):Prop:=∀(pins:List (Addr×Obj)) (s:aw) (σ:St) (H:Hp) (x:V) (v:Value) (Q:Bool->Hp->Prop),Inv X pins σ H s->RelV x v->r x H Q->wpAny (model X.prog X.w) X.A (truthy v) (TP X pins σ Q) X.xe s
def lH (r:R2)(ta tb:TE):TE:=λσ H Q=>ta σ H λx H1=>tb σ H1 λy H2=>r x y H2 Q
def rI (C:Int->Int->Prop)(g:Int->Int->V):R2:=λx y H Q=>∃i j,x=.int i/\y=.int j/\C i j/\Q (g i j) H
def lI (g:Int->Int->V):R2:=λx y H Q=>∃i j,x=.int i/\y=.int j/\Q (g i j) H
theorem binT (i:PE X a z)(j:PE X b B){R:V->V->Hp->Prop}(I:Inv X q r H s)
  (h:z r H λx t=>B r t λy c=>R x y c) {f:Value->Value->Sem Value}
  (hf:∀v u g x y c,Inv X q r c g->RelV x v->RelV y u->R x y c->wpAny (model X.prog X.w) X.A (f v u) Q X.xe g):
  wpAny (model X.prog X.w) X.A (eval a X.env) (λv d=>wpAny (model X.prog X.w) X.A (eval b X.env) (λu e=>wpAny (model X.prog X.w) X.A (f v u) Q X.xe e) X.xe d) X.xe s:=by
 exact aM (i q s r H _ I h) λv s1 ⟨x,t,k,l,m⟩=>aM (j q s1 r t _ k m) λu g ⟨y,c,n,o,p⟩=>hf v u g x y c n l o p
theorem DU (c:OpR X (eo d) r)(e:PE X a n)(f:PE X b o):PE X (.BinOp a d b p) (lH r n o):=by intro m s t H Q I h;exact wpAny_BinOp (binT e f I h λv u g x y i j k l q=>c m g t i x y v u Q j k l q)
theorem opI {g:Int->Int->Int}
  (a:∀i j t u s Q E,C i j->Q (.int (g i j) s.toks) {s with toks:=s.toks+1}->wpAny (model X.prog X.w) X.A (f (.int i t) (.int j u)) Q E s):
  OpR X f (rI C λi j=>.int (g i j)):=by
 rintro h s k H x y v u Q I b c ⟨i,j,rfl,rfl,d,q⟩
 obtain⟨t,rfl⟩:=b;obtain⟨e,rfl⟩:=c;exact a i j t e s _ _ d ⟨.int (g i j),H,I.tok _,⟨_,rfl⟩,q⟩
theorem opI0 {g:Int->Int->Int}
  (a:∀i j t u s Q E,Q (.int (g i j) s.toks) {s with toks:=s.toks+1}->wpAny (model X.prog X.w) X.A (f (.int i t) (.int j u)) Q E s):
  OpR X f (lI λi j=>.int (g i j)):=by
 rintro e s h H x y v u Q I b c ⟨i,j,rfl,rfl,q⟩
 obtain⟨t,rfl⟩:=b;obtain⟨d,rfl⟩:=c;exact a i j t d s _ _ ⟨.int (g i j),H,I.tok _,⟨_,rfl⟩,q⟩
theorem opB0 {g:Int->Int->Bool}
  (a:∀i j t u s Q E,Q (.bool (g i j)) s->wpAny (model X.prog X.w) X.A (f (.int i t) (.int j u)) Q E s):
  OpR X f (lI λi j=>.bl (g i j)):=by
 rintro e s h H x y v u Q I b c ⟨i,j,rfl,rfl,q⟩
 obtain⟨t,rfl⟩:=b;obtain⟨d,rfl⟩:=c;exact a i j t d s _ _ ⟨.bl (g i j),H,I,rfl,q⟩
def zJ (i j:Int):Prop:=0<=j/\j<=1000000/\i.natAbs<2 ^ 64
def q9 (i j:Int):Prop:=(-(2 ^ 64)<i/\i<2 ^ 64)\/(-(2 ^ 64)<j/\j<2 ^ 64)
theorem q9.ok (h:q9 i j):IntMulOk i j:=by
 rcases h with⟨a,b⟩|⟨a,b⟩
 ·exact .of_left (intBits_le_64 a b)
 ·exact .of_right (intBits_le_64 a b)
theorem JX:OpR X (eo .Add) (lI λi j=>.int (i+j)):=opI0 λ_ _ _ _ _ _ _ q=>add_int q
theorem JY:OpR X (eo .Sub) (lI λi j=>.int (i-j)):=opI0 λ_ _ _ _ _ _ _ q=>sub_int q
theorem JZ:OpR X (eo .Mult) (rI q9 λi j=>.int (i*j)):=opI λ_ _ _ _ _ _ _ a q=>mul_int q a.ok
theorem J1:OpR X (eo .Mod) (rI (λ_ j=>0<j) λi j=>.int (i%j)):=opI λi j _ _ _ _ _ a q=>by exact mod_int' (by omega) (by rw[Int.fmod_eq_emod_of_nonneg i (by omega)];exact q)
theorem J3:OpR X (eo .Pow) (rI zJ λi j=>.int (i ^ j.toNat)):=opI λ_ _ _ _ _ _ _ a q=>pow_int_small a.1 a.2.1 a.2.2 q
theorem DV (I:Inv X b c H s)(q:Q (.bl k) H)(e:k=a):EP X b c Q (.bool a) s:=by subst e;exact⟨.bl k,H,I,rfl,q⟩
theorem J4:OpR X (cf .Lt) (lI λi j=>.bl (decide (i<j))):=opB0 λ_ _ _ _ _ _ _ q=>lt_int q
theorem J5:OpR X (cf .LtE) (lI λi j=>.bl (decide (i<=j))):=opB0 λ_ _ _ _ _ _ _ q=>le_int q
theorem J6:OpR X (cf .Gt) (lI λi j=>.bl (decide (j<i))):=opB0 λ_ _ _ _ _ _ _ q=>gt_int q
theorem J7:OpR X (cf .Lt) (λx y H Q=>∃i j,x=.str i/\y=.str j/\Q (.bl (decide (i.cps.toList<j.cps.toList))) H):=by
 rintro d s e H x y v u Q I a b ⟨i,j,rfl,rfl,q⟩
 obtain⟨t,rfl⟩:=a;obtain⟨c,rfl⟩:=b;exact lt_str (DV I q rfl)
theorem J8:OpR X (cf .In) (λx y H Q=>∃i j,x=.str i/\y=.str j/\Q (.bl (!(d0 j i 0 j.length 1).isEmpty)) H):=by
 rintro d s e H x y v u Q I a b ⟨i,j,rfl,rfl,q⟩
 obtain⟨t,rfl⟩:=a;obtain⟨c,rfl⟩:=b;exact in_str (DV I q rfl)
theorem OpR.or (h:OpR X f r)(c:OpR X f d):OpR X f (λx y H Q=>r x y H Q\/d x y H Q):=by
 intro e s g H x y v u Q I a b q;rcases q with q|q
 ·exact h e s g H x y v u Q I a b q
 ·exact c e s g H x y v u Q I a b q
theorem J9 (d:OpR X (cf c) r)(e:PE X a n)(f:PE X b o)(hm:dq c b=false):PE X (.Compare a [c] [b] p) (lH r n o):=by intro m s t H Q I h;exact wpAny_Compare1 (binT e f I h λv u g x y i j k l q=>d m g t i x y v u Q j k l q) hm
def uA (t:TE):TT:=λσ H Q=>t σ H λx H'=>∃k,x=.bl k/\Q k H'
theorem DW (f:OpR X (cf d) r)(g:PE X a G)(i:PE X b J)(hm:dq d b=false):PT X (.Compare a [d] [b] pos) (uA (lH r G J)):=by intro E s F H Q I h;refine l5 (aM (g E s F H _ I h) λv s1 ⟨x,K,j,l,m⟩=>aM (i E s1 F K _ j m) λu n ⟨y,o,p,q,t⟩=>aM (f E n F o x y v u _ p l q t) λc D ⟨z,w,A,B,k,e,C⟩=>?_) hm;subst e;cases B;exact dt ⟨w,A,C⟩
def zK (r r':R2)(ta tb tc:TE):TE:=λσ H Q=>ta σ H λx H1=>tb σ H1 λy H2=>r x y H2 λz H3=>∃k,z=.bl k/\(if k=true then tc σ H3 λw' H4=>r' y w' H4 Q else Q (.bl false) H3)
theorem zfy (o:OpR X (cf i) r)(g:OpR X (cf f) p)(q:PE X a ta)(t:PE X b tb)(w:PE X c tc)
  (hm:li [i,f] [b,c]=false:=by with_unfolding_all rfl):PE X (.Compare a [i,f] [b,c] pos) (zK r p ta tb tc):=by
 intro T s U H Q I h;refine Compare_chain (aM (q T s U H _ I h) λv s1 ⟨x,V,A,B,C⟩=>chain_link (aM (t T s1 U V _ A C) λu D ⟨y,E,F,j,G⟩=>aM (o T D U E x y v u _ F B j G) λd J ⟨z,l,m,K,k,e,n⟩=>?_)) hm;subst e;cases K;refine dt ?_;cases k with
 |false=>exact ite_ff ⟨.bl false,l,m,rfl,n⟩
 |true=>exact ite_tt (chain_last (aM (w T J U l _ m n) λL M ⟨N,O,P,R,S⟩=>g T M U O y N u L Q P j R S))
theorem zhj (o:OpR X (cf i) r)(g:OpR X (cf f) p)(q:PE X a ta)(t:PE X b tb)(w:PE X c tc)
  (hm:li [i,f] [b,c]=false:=by with_unfolding_all rfl):PT X (.Compare a [i,f] [b,c] pos) (uA (zK r p ta tb tc)):=by
 intro pins s σ H Q I h;refine isTrue_chain (aM (q pins s σ H _ I h) λv s1 ⟨x,H1,A,B,C⟩=>test_link (aM (t pins s1 σ H1 _ A C) λu D ⟨y,E,F,j,G⟩=>aM (o pins D σ E x y v u _ F B j G) λd J ⟨z,l,m,K,k,e,n⟩=>?_)) hm;subst e;cases K;refine dt ?_;cases k with
 |false=>obtain⟨k',L,M⟩:=n;cases L;exact ite_ff ⟨l,m,M⟩
 |true=>refine ite_tt (test_last (aM (w pins J σ l _ m n) λN O ⟨P,R,S,T,U⟩=>aM (g pins O σ R y P u N _ S j T U) λd' s5 ⟨z2,V,W,Y,k2,Z,q5⟩=>?_));subst Z;cases Y;exact dt ⟨V,W,q5⟩
def oH (K:W.Frag)(x:V)(H:Hp)(k:Bool):Prop:=
 match x with
 |.non=>k=false
 |.bl b=>k=b
 |.int i=>k=(i != 0)
 |.str y=>y.length<=av/\k=((y.length:Int) != 0)
 |.ref p=>(∃xs,SqL K H p xs/\k=!xs.isEmpty)\/(∃xs,dB K H p xs/\k=!xs.isEmpty)\/∃aW,H p=some (.dK aW)/\k=!aW.isEmpty
 |_=>False
theorem J' (r:KV a b):(!b.isEmpty)=!a.isEmpty:=by cases r<;>rfl
theorem DX (r:Vals b a):(!a.toArray.isEmpty)=!b.isEmpty:=by cases r<;>simp
theorem rg:(av:Nat)<2 ^ 63:=by rw[cb];decide
theorem DY:zI X (λx H Q=>∃k,oH X.K x H k/\Q k H):=by
 rintro w s z H x v Q I d ⟨k,e,q⟩
 have o:=rg;cases x with
 |non=>cases d;have a:=e;subst a;exact truthy_none ⟨H,I,q⟩
 |bl b=>cases d;have a:=e;subst a;exact dt ⟨H,I,q⟩
 |int i=>obtain⟨t,rfl⟩:=d;have a:=e;subst a;exact PySem.P.truthy_int ⟨H,I,q⟩
 |str y=>obtain⟨t,rfl⟩:=d;obtain⟨u,rfl⟩:=e;exact PySem.P.truthy_str (by omega) ⟨H,I.tok _,q⟩
 |ref p=>
  cases d;have a:=e;rcases a with⟨j,f,a⟩|⟨j,f,a⟩|⟨l,f,a⟩
  ·subst a;obtain⟨g,r,pl,h⟩:=I.list f;have c:=r.length;exact wpAny_truthy_list pl.isList (by grind) ⟨H,I.tok _,by rw[DX r];exact q⟩
  ·subst a;obtain⟨g,r,pl,h⟩:=I.tuple f;have c:=r.length;exact truthy_tuple pl (by grind) ⟨H,I.tok _,by rw[DX r];exact q⟩
  ·subst a;obtain⟨h,n,A,r,m⟩:=I.hok p _ f;have c:=Paired.length r;exact wpAny_truthy_dict n m (by omega) ⟨H,I.tok _,by rw[J' r];exact q⟩
 |_=>exact e.elim
theorem z9f (c:PE X a m)(d:∀b,pu a X.env b=(do let v <-b;standAt a.pos;holding [v] (truthy v))):
  PT X a (λj H Q=>m j H λx l=>∃k,oH X.K x l k/\Q k l):=by
 intro i s j H Q I h;exact isTrue_plain (aM (c i s j H _ I h) λv s1 ⟨x,n,e,f,g⟩=>DY i s1 j n x v Q e f g) (d _)
theorem Ka:OpR X (eo .Add) (λx y H Q=>∃i j,x=.str i/\y=.str j/\i.length+j.length<=av/\Q (.str (i++j)) H):=by
 rintro f s g H x y v u Q I a b ⟨i,j,rfl,rfl,c,q⟩
 obtain⟨t,rfl⟩:=a;obtain⟨d,rfl⟩:=b;exact add_str (λd e=>⟨.str (i++j),H,I.tok _,⟨_,rfl⟩,q⟩) c
theorem vals1 (r:Vals [x] c):∃u,c=[u]/\RelV x u:=by
 cases r with
 |cons a b=>cases b;exact⟨_,rfl,a⟩
theorem vals2 (r:Vals [x,y] f):∃u a,f=[u,a]/\RelV x u/\RelV y a:=by
 cases r with
 |cons b c=>
  cases c with
  |cons d e=>cases e;exact⟨_,_,rfl,b,d⟩
theorem Kb:CallR X (.type "int") (λa H Q=>(∃i,a=[.int i]/\Q (.int i) H)\/∃k,a=[.bl k]/\Q (.int (if k then 1 else 0)) H):=by
 intro b s c H a d Q I r h;rcases h with⟨i,rfl,q⟩|⟨k,rfl,q⟩
 ·obtain⟨u,rfl,t,rfl⟩:=vals1 r;exact call_int_int ⟨.int i,H,I,⟨_,rfl⟩,q⟩
 ·obtain⟨u,rfl,rfl⟩:=vals1 r;exact call_int_bool ⟨.int (if k then 1 else 0),H,I.tok _,⟨_,rfl⟩,q⟩
theorem Kc:CallR X (.type "str") (λa H Q=>∃i,a=[.int i]/\i.natAbs.log2<1920/\Q (.str (toString i)) H):=by
 rintro c s d H a e Q I r ⟨i,rfl,b,q⟩
 obtain⟨u,rfl,t,rfl⟩:=vals1 r;exact PySem.P.str_of_int b ⟨.str _,H,I.tok _,⟨_,rfl⟩,q⟩
structure ObjM (h:Heap)(x dx C:Addr)(mA:Str->Option Value):Prop where
 obj:h.get? x=some (W.instObj C dx)
 ns:h.Ns1 dx mA
 ne:dx≠x
theorem Ke {h:Heap}(n:h.Ns1 i j):∃od,h.get? i=some od/\∀g,W.lookIn g od=some (j g):=by
 obtain⟨o,k,f,c,hd,hk,_,hm⟩:=n;refine⟨o,c,λg=>?_⟩;have e:=hm g;unfold nsFind findBy at e;rw[<-n7]at e;unfold W.lookIn;rw[hd]
 dsimp only
 split
 ·rename_i y q;rw[q]at e;exact congrArg some e
 ·rename_i q;rw[q]at e;have a:k.toList.any (·.refKey)=false:=by rw[List.any_eq_false];intro y d;obtain⟨z,t,b⟩:=hk y (Array.mem_toList_iff.mp d);simp[DictEntry.refKey,b]
  rw[qf (a▸ca)];exact congrArg some e
theorem ObjM.look (I:ObjM h x b C c):∃od,W.InstAt h x (W.instObj C b) C (some od)/\∀a,W.lookIn a od=some (c a):=
 let⟨od,ho,hl⟩:=Ke I.ns
 ⟨od,⟨I.obj,rfl,rfl,ho⟩,hl⟩
section
variable {prog:cc}{w:World}{A:e9}{E:Value->aw->Prop}{s:aw}{K:W.Frag}{x dx C f:Addr}{mA:Str->Option Value}{name:Str}{v:Value}
theorem zlh (X:K.In s.heap)(I:ObjM s.heap x dx C mA)(b:W.plainGet K C name=true)(hh:W.hasDictIn K C=true)
  (c:W.findIn K (.ref C) name=some none) (d:mA name=some v) (a:W.handedIn v=true) (h:Q v {s with toks:=s.toks+1}):
  wpAny (model prog w) A (qc (.ref x) name expr) Q E s:=by
 obtain⟨od,J,e⟩:=I.look;exact W.get_value X J (W.plainGet_of b).1 (W.findObj_own hh c rfl (by rw[e,d])) a h
theorem zge (X:K.In s.heap)(I:ObjM s.heap x dx C mA)(a:W.plainGet K C name=true)
  (hf:W.findIn K (.ref C) name=some (some (.ref f))) (b:W.isFn K (.ref f)=true) (c:mA name=none) (h:Q (.ref f,[.ref x]) s):
  wpAny (model prog w) A (getMethod (.ref x) name pl) Q E s:=by
 obtain⟨od,J,d⟩:=I.look;exact W.method_fn X J (W.plainGet_of a).1 (W.plainGet_of a).2 hf (qm b) (by show(W.lookIn name od).map (·.isSome)=some false;rw[d,c];rfl) h
theorem zkx (X:K.In s.heap)(I:ObjM s.heap x dx C mA)
  (hs:W.findIn K (.ref C) "__setattr__"=some (some (.builtin "object.__setattr__"))) (j:W.plainOver K C=true) (k:W.takerIn K C name=some none) (hh:W.hasDictIn K C=true)
  (l:PySem.Within mA ns) (m:ns.length<=av)
  (h:∀d,ObjM d x dx C (λy=>if y=name then some v else mA y)->b7 dx s.heap d->Q () {s with heap:=d,toks:=s.toks+2}):
  wpAny (model prog w) A (setAttr (.ref x) name v) Q E s:=by
 obtain⟨od,J,q⟩:=I.look;refine W.set_plain X J hs (W.osa_open X J j k λb=>?_);obtain⟨cd,n,e⟩:=W.any_some hh;refine aa (am (aa (aa (wpAny_loadPart I.obj (aa (W.Looks.here (W.looks_clsIn X n) ?_))))));rw[e];refine am (aa (am (aa ?_)));refine wpAny_nsSet1 I.ns λd a c=>?_;obtain⟨r,o,p,f,g,i⟩:=a.count (PySem.Within.cons name v l);refine aa (wpAny_lookBehind f (g▸pastItsLine_dict (bp i (by grind))) ?_);exact am (h _ ⟨(c.2 _ (Ne.symm I.ne)).trans I.obj,a,I.ne⟩ c)
theorem zhk (X:K.In s.heap)(hm:W.makesIn K C=true)
  (c:W.findIn K (.ref C) "__init__"=some (some (.ref f))) (hf:W.typeIn K (.ref f)=some (.type "function"))
  (h:jh (model prog w) (A.under (.builtin "type.__call__" ⟨.ref C::b,a⟩)) (.call (.ref f) ⟨.ref (s.heap.objs.size+1)::b,a⟩) (W.InitBack (s.heap.objs.size+1) R)
   {s with heap:=(s.heap.push W.emptyDict).push (W.instObj C s.heap.objs.size)}):
  jh (model prog w) A (.call (.ref C) ⟨b,a⟩) R s:=by
 exact W.make_core (W.makes_of X hm) (W.looks_findIn X c) (λself=>W.bind_fn X self hf) (.inl rfl) h
end
def dC (f:Str)(v:V):List (Str×V)->List (Str×V)
 | []=>[(f,v)]
 |(g,x)::r=>if g=f then(g,v)::r else(g,x)::dC f v r
theorem DZ (f g:Str)(v:V):∀fs,(dC f v fs).lookup g=if g=f then some v else fs.lookup g
 | []=>by
  show ja g [(f,v)]=_;by_cases h:g=f
  ·have a:(g==f)=true:=beq_iff_eq.mpr h;simp only[ja,a,qe h]
  ·have a:(g==f)=false:=beq_eq_false_iff_ne.mpr h;simp only[ja,a,qf h]
 |(k,x)::r=>by
  rw[show dC f v ((k,x)::r)=(if k=f then(k,v)::r else(k,x)::dC f v r)from rfl];by_cases hk:k=f
  ·rw[qe hk];by_cases h:g=k
   ·have a:(g==k)=true:=beq_iff_eq.mpr h;simp only[ja,a,qe (h.trans hk)]
   ·have a:(g==k)=false:=beq_eq_false_iff_ne.mpr h;simp only[ja,a,qf (λe:g=f=>h (e.trans hk.symm))]
  ·rw[qf hk];by_cases h:g=k
   ·have a:(g==k)=true:=beq_iff_eq.mpr h;simp only[ja,a,qf (λe:g=f=>hk (h.symm.trans e))]
   ·have a:(g==k)=false:=beq_eq_false_iff_ne.mpr h;simp only[ja,a];exact DZ f g v r
theorem zL (f:Str)(v:V):∀fs,f∈(dC f v fs).map (·.1)/\∀g,g∈fs.map (·.1)->g∈(dC f v fs).map (·.1)
 | []=>⟨by simp[dC],λg h=>by simp at h⟩
 |(k,x)::r=>by
  obtain⟨a,b⟩:=zL f v r;rw[show dC f v ((k,x)::r)=(if k=f then(k,v)::r else(k,x)::dC f v r)from rfl];by_cases hk:k=f
  ·rw[qe hk];subst hk;exact⟨by simp,λg h=>by simpa using h⟩
  ·rw[qf hk];refine⟨?_,λg h=>?_⟩
   ·rw[br];exact ai _ a
   ·rw[br]at h ⊢;rcases aq.mp h with e|e
    ·exact aq.mpr (.inl e)
    ·exact ai _ (b g e)
theorem D3 (f:Str)(v:V):∀fs,(dC f v fs).length<=fs.length+1
 | []=>by simp[dC]
 |(k,x)::r=>by
  have a:=D3 f v r;rw[show dC f v ((k,x)::r)=(if k=f then(k,v)::r else(k,x)::dC f v r)from rfl];by_cases hk:k=f
  ·rw[qe hk,ay,ay];omega
  ·rw[qf hk,ay,ay];omega
theorem cJ.some_of (r:cJ (some v) o):∃u,o=some u/\RelV v u:=by
 cases o with
 |none=>exact r.elim
 |some u=>exact⟨u,rfl,r⟩
theorem cJ.none_of (r:cJ none o):o=none:=by
 cases o with
 |none=>rfl
 |some u=>exact r.elim
theorem D4 (r:RelV v u):W.handedIn u=true:=by
 cases v with
 |non=>cases r;rfl
 |bl b=>cases r;rfl
 |int i=>obtain⟨t,e⟩:=r;cases e;rfl
 |str x=>obtain⟨t,e⟩:=r;cases e;rfl
 |ref a=>cases r;rfl
 |ty n=>cases r;rfl
theorem wY (hok:HOk P w H h)(e:H a=some (.ins C c fs)):∃b,ObjM h a c C b/\(∀f,cJ (fs.lookup f) (b f))/\PySem.Within b (fs.map (·.1))/\fs.length<=1000/\H c=some (.own a):=by obtain⟨d,z,ne,ob,b,n,r,q⟩:=(hok a _ e);exact⟨b,⟨ob,n,ne⟩,r,q,z,d⟩
structure Cls (K:W.Frag)(C:Addr):Prop where
 pg:W.plainGet K C Str.empty=true
 hd:W.hasDictIn K C=true
 po:W.plainOver K C=true
 sa:W.findIn K (.ref C) "__setattr__"=some (some (.builtin "object.__setattr__"))
theorem Cls.get {K:W.Frag}(c:Cls K C)(f:Str):W.plainGet K C f=true:=c.pg
def z3e (K:W.Frag)(C:Addr)(f:Str):Prop:=W.findIn K (.ref C) f=some none
theorem z3e.uB {K:W.Frag}(n:z3e K C f):W.takerIn K C f=some none:=by unfold W.takerIn;rw[show W.findIn K (.ref C) f=some none from n];rfl
structure Meth (K:W.Frag)(C:Addr)(m:Str)(f:Addr):Prop where
 at_:W.findIn K (.ref C) m=some (some (.ref f))
 fn:W.isFn K (.ref f)=true
 kp:W.keepIn K (.ref f)=true
theorem za4 (I:Inv X g j H s)(e:H a=some (.ins C k fs))(c:Cls X.K C)(n:z3e X.K C f)(l:fs.lookup f=some v)
  (h:∀u i,Inv X g j H i->RelV v u->Q u i):wpAny (model X.prog X.w) A (qc (.ref a) f b) Q E s:=by
 obtain⟨m,O,r,_,_,_⟩:=wY I.hok e;obtain⟨u,hu,d⟩:=cJ.some_of (l▸r f);exact zlh I.cZ O (c.get f) c.hd n hu (D4 d) (h u _ (I.tok _) d)
theorem zb7 (I:Inv X b d H s)(e:H a=some (.ins C f fs))(c:Cls X.K C)(k:Meth X.K C m g)(l:fs.lookup m=none)
  (h:Q (.ref g,[.ref a]) s):wpAny (model X.prog X.w) A (getMethod (.ref a) m pl) Q E s:=by
 obtain⟨i,O,r,_,_,_⟩:=wY I.hok e;exact zge I.cZ O (c.get m) k.at_ k.fn (cJ.none_of (l▸r m)) h
theorem zaz (I:Inv X x F H s)(e:H a=some (.ins C G fs))(c:Cls X.K C)(n:z3e X.K C f)(t:fs.length<1000)(k:RelV y u)
  (h:∀B,Inv X x F (upd H a (.ins C G (dC f y fs))) B->Q () B):wpAny (model X.prog X.w) A (setAttr (.ref a) f u) Q E s:=by
 obtain⟨D,O,r,i,_,j⟩:=wY I.hok e;refine zkx I.cZ O c.sa c.po n.uB c.hd i (by rw[ak,cb];omega) λv d l=>h _ (I.write (e▸True.intro) (.inr j) (λb q m z=>(l.2 b m).trans z) (let⟨o,_,_,e',_⟩:=d.ns;⟨o,e'⟩) ⟨by rw[aH O.ne];exact j,?_,O.ne,d.obj,_,d.ns,λg=>?_,λg p=>?_⟩)
 ·have:=D3 f y fs;omega
 ·show cJ ((dC f y fs).lookup g) (if g=f then some u else D g);rw[DZ];by_cases q:g=f
  ·rw[qe q,qe q];exact k
  ·rw[qf q,qf q];exact r g
 ·by_cases q:g=f
  ·rw[q];exact(zL f y fs).1
  ·refine(zL f y fs).2 g (i g λz=>p ?_);show(if g=f then some u else D g)=none;rw[qf q];exact z
theorem Inv.made (I:Inv X g h H s):Inv X g h (upd (upd H s.heap.objs.size (.own (s.heap.objs.size+1))) (s.heap.objs.size+1) (.ins C s.heap.objs.size []))
  {s with heap:=(s.heap.push W.emptyDict).push (W.instObj C s.heap.objs.size)}:=by
 have a:(s.heap.push W.emptyDict).get? s.heap.objs.size=some W.emptyDict:=az s.heap rfl
 have c:((s.heap.push W.emptyDict).push (W.instObj C s.heap.objs.size)).get? (s.heap.objs.size+1)=some (W.instObj C s.heap.objs.size):=by
  have:=az (s.heap.push W.emptyDict) (o:=W.instObj C s.heap.objs.size) rfl
  rwa [ma]at this
 refine(I.laid (o:=.own (s.heap.objs.size+1)) (t':=s.toks) (λb u q=>af _ q) (ag _) ⟨_,a⟩).laid (λb u q=>af _ q) (oq (ma _ _)) ?_;have ne:s.heap.objs.size≠s.heap.objs.size+1:=b9 (jo _);refine⟨by rw[aH ne,bG],c7 _,ne,c,λ_=>none,(ou ⟨W.emptyDict,#[],_,a,rfl,(λe d=>absurd d (by simp)),λ_=>rfl⟩).at λo q=>af _ q,λ_=>True.intro,λy f=>absurd rfl f⟩
theorem zds (b:gv e f env (eval e env)=eval e env)
  (h:wpAny (model prog w) A (eval e env) (λo a=>wpAny (model prog w) A (qc o f true) Q E a) E s):wpAny (model prog w) A (eval (.Attribute e f c) env) Q E s:=
 Attribute_any_ h (by rw[arm_eval_Attribute,b])
def rh (K:W.Frag)(ta:TE)(f:Str):TE:=λσ H Q=>ta σ H λx H1=>∃a C dx fs v,x=.ref a/\H1 a=some (.ins C dx fs)/\Cls K C/\z3e K C f/\fs.lookup f=some v/\Q v H1
def ri (K:W.Frag)(ta tv:TE)(f:Str):TS:=λD σ H=>tv σ H λy H1=>ta σ H1 λx H2=>∃a C dx fs,x=.ref a/\H2 a=some (.ins C dx fs)/\Cls K C/\z3e K C f/\fs.length<1000/\D.nx σ (upd H2 a (.ins C dx (dC f y fs)))
theorem Kg (b:PE X e t)(d:gv e f X.env (eval e X.env)=eval e X.env):PE X (.Attribute e f w) (rh X.K t f):=by intro r s y H Q I h;refine zds d (aM (b r s y H _ I h) λu s1 ⟨x,z,g,i,a,C,A,fs,v,ex,j,c,n,l,q⟩=>?_);subst ex;obtain rfl:u=Value.ref a:=i;exact za4 g j c n l λo p k m=>⟨v,z,k,m,q⟩
theorem Kh (d:PE X o F)(e:PE X value tv)(hs:iu value (some (.Attribute o f b)) B.line X.env=pure false):PS X (.Assign [.Attribute o f b] value B) (ri X.K F tv f):=by intro A s E H D I h;refine jn (aM (e A s E H _ I h) λu s1 ⟨y,G,g,i,q⟩=>aM (d A s1 E G _ g q) λj v ⟨x,w,k,m,a,C,J,fs,ex,p,c,n,l,r⟩=>?_) hs;subst ex;obtain rfl:j=Value.ref a:=m;exact zaz k p c n l i λz t=>⟨E,_,t,r⟩
section
variable {H:Hp}
inductive TyOf (K:W.Frag)(H:Hp):V->Value->Prop where
 |non:TyOf K H .non (.type "NoneType")
 |bl (x:Bool):TyOf K H (.bl x) (.type "bool")
 |int (i:Int):TyOf K H (.int i) (.type "int")
 |str (x:Str):TyOf K H (.str x) (.type "str")
 |lst {a:Addr} {xs:List V} (e:H a=some (.lst xs)):TyOf K H (.ref a) (.type "list")
 |gO {a:Addr} {o:Obj} {xs:List V} (e:H a=some (.gO o (.lst xs))):TyOf K H (.ref a) (.type "list")
 |tup {a:Addr} {xs:List V} (e:H a=some (.tup xs)):TyOf K H (.ref a) (.type "tuple")
 |dK {a:Addr} {aW:List (Key×V)} (e:H a=some (.dK aW)):TyOf K H (.ref a) (.type "dict")
 |dT {a:Addr} {aW:List (List Key×V)} (e:H a=some (.dT aW)):TyOf K H (.ref a) (.type "dict")
 |ins {a C dx:Addr} {fs:List (Str×V)} (e:H a=some (.ins C dx fs)) (cl:Cls K C) (ha:W.findIn K (.ref C) "__class__"=some (some (.builtin "object.__class__")))
  (hn:W.specialIn K (.builtin "object.__class__") "__get__"=some (some (.builtin "getset_descriptor.__get__"))) (TU:W.takesIn K (.builtin "object.__class__")=some true)
  (hm:W.mroIn K C (.type "object")=some true):TyOf K H (.ref a) (.ref C)
theorem z29 (I:Inv X D G H s)(f:RelV x u)(ty:TyOf X.K H x t)(e:W.kitOne X.K t c=some b)(h:∀r,Q (.bool b) {s with toks:=r}):
  wpAny (model X.prog X.w) A (call (.builtin "isinstance") [u,c]) Q E s:=by
 cases ty with
 |non=>cases f;exact W.kia_one W.kitx_none I.cZ True.intro e (λz=>nomatch z) h
 |bl y=>cases f;exact W.kia_one W.kitx_bool I.cZ True.intro e (λz=>nomatch z) h
 |int i=>obtain⟨t,q⟩:=f;cases q;exact W.kia_one W.kitx_int I.cZ True.intro e (λz=>nomatch z) h
 |str y=>obtain⟨t,q⟩:=f;cases q;exact W.kia_one W.kitx_str I.cZ True.intro e (λz=>nomatch z) h
 | @lst a k d=>cases f;obtain⟨_,_,n,_,g⟩:=(I.hok a _ d);exact W.kia_one W.kitx_list I.cZ ⟨_,g,rfl⟩ e (λz=>nomatch z) h
 | @gO a ob k d=>cases f;obtain⟨_,_,_,n,_,g⟩:=(I.hok a _ d);exact W.kia_one W.kitx_list I.cZ ⟨_,g,rfl⟩ e (λz=>nomatch z) h
 | @tup a k d=>cases f;obtain⟨_,_,_,p⟩:=(I.hok a _ d);obtain⟨o,g,j,_⟩:=p.tup;exact W.kia_one W.kitx_tuple I.cZ ⟨o,g,j⟩ e (λz=>nomatch z) h
 | @dK a l d=>cases f;obtain⟨_,_,L,_,o,F,v,g,j,_⟩:=(I.hok a _ d);exact W.kia_one W.kitx_dict I.cZ ⟨o,g,j.1⟩ e (λz=>nomatch z) h
 | @dT a l d=>cases f;obtain⟨_,_,k,_,o,F,v,g,j,_⟩:=(I.hok a _ d);exact W.kia_one W.kitx_dict I.cZ ⟨o,g,j.1⟩ e (λz=>nomatch z) h
 | @ins a C M fs d cl B hn m hm=>cases f;obtain⟨N,O,_⟩:=wY I.hok d;obtain⟨od,J,_⟩:=O.look;exact W.kia_one (W.kitx_own (cl.get _) cl.hd B hn m hm) I.cZ J e (λz=>nomatch z) h
end
structure Room (k:Nat)(A:e9):Prop where
 hd:A.handled=none
 dp:A.depth+3*k+5<recursionLimit
 un:A.units+16*k+200<cLine
theorem Room.mono (r:Room k A)(h:j<=k):Room j A:=⟨r.hd,by have:=r.dp;omega,by have:=r.un;omega⟩
theorem Room.deeper (r:Room (k+1) A)(env:Env):Room k (A.deeper env):=⟨r.hd,by have:=r.dp;show A.depth+1+3*k+5<_;omega,by have:=r.un;show A.units+3+16*k+200<_;omega⟩
theorem Ki {A:e9}:(A.under (.builtin "type.__call__" ⟨.ref C::b,a⟩)).depth=A.depth+1:=by first|rfl|simp[Around.under,Code.weight,Code.isCreation,Code.isGuard,Code.isCaller,Code.frames,Code.isFrame,guardIds]
theorem Kj {A:e9}:(A.under (.builtin "type.__call__" ⟨.ref C::b,a⟩)).units=A.units+1:=by first|rfl|simp[Around.under,Code.cUnits,Code.frames,Code.isFrame]
theorem Room.make (r:Room (k+1) A)(C:Addr)(b:List Value)(a:List (Str×Value)):Room k (A.under (.builtin "type.__call__" ⟨.ref C::b,a⟩)):=⟨r.hd,by have:=r.dp;rw[Ki];omega,by have:=r.un;rw[Kj];omega⟩
theorem Room.depth (r:Room k A):A.depth<recursionLimit:=by have:=r.dp;omega
theorem Room.units (r:Room k A):A.units+64<cLine:=by have:=r.un;omega
def eO:TA:=λ_ H Q=>Q [] H
def mD (ta:TE)(tr:TA):TA:=λσ H Q=>ta σ H λx H1=>tr σ H1 λxs H2=>Q (x::xs) H2
theorem j':PA X [] eO:=λ_ _ _ _ H Q I h=>ow ⟨[],H,I,.nil,h⟩
theorem wZ (a:PE X e r)(b:PA X o t)(hs:cn (e::o) X.env=(false,eval e X.env)::cn o X.env:=by rfl):PA X (e::o) (mD r t):=by intro p n s q H Q I h;rw[hs];refine n8 (aM (a n s q H _ I h) λu s1 ⟨x,v,c,d,f⟩=>?_);exact aM (b p n s1 q v _ c f) λw m ⟨g,i,j,k,l⟩=>⟨x::g,i,j,.cons d k,l⟩
def uC (t:TA):TE:=λσ H Q=>t σ H λxs H1=>xs.length<=av/\∀p,H1 p=none->Q (.ref p) (upd H1 p (.tup xs))
def uD (t:TA):TE:=λσ H Q=>t σ H λxs H1=>xs.length<=av/\∀p,H1 p=none->Q (.ref p) (upd H1 p (.lst xs))
theorem zM {c}(h:PA X j t):PE X (.Tuple j c i) (uC t):=by intro g s k H Q I d;refine wpAny_Tuple_spliced (aM (h i g s k H _ I d) λl s1 ⟨f,m,a,r,z,q⟩=>⟨by rw[<-r.length];exact z,?_⟩);refine⟨.ref s1.heap.objs.size,upd m s1.heap.objs.size (.tup f),a.laid (λb u e=>af _ e) (ag _) ?_,rfl,q _ (a.hok.fresh (ag _))⟩;exact⟨z,l,r,⟨_,az _ rfl⟩⟩
theorem D5 (h:PA X i t):PE X (.List i g) (uD t):=by intro f s j H Q I c;refine wpAny_List_spliced (aM (h g f s j H _ I c) λk s1 ⟨d,l,a,r,z,q⟩=>⟨by rw[<-r.length];exact z,?_⟩);refine⟨.ref s1.heap.objs.size,upd l s1.heap.objs.size (.lst d),a.laid (λb u e=>af _ e) (ag _) ?_,rfl,q _ (a.hok.fresh (ag _))⟩;exact⟨z,k,0,r,az _ rfl⟩
abbrev Sp:=List V->Hp->VK->XK->Prop
abbrev CXT:=List Env->Hp->aw->XK->Value->aw->Prop
structure kA (P:cc)(w:World)(K:W.Frag)(mg:Str->Option Value)(base:Heap)(A:e9)(outer:List Env)(s:aw)(H:Hp):Prop where
 frames:A.frames=some outer
 mod:Mod K mg base
 bs:∀b o,base.get? b=some o->s.heap.get? b=some o/\H b=none
 lF:base.objs.size<=s.heap.objs.size
 cU:s.heap.FunFrames base outer
 oE:∀b∈frs outer,H b=none
 hok:HOk P w H s.heap
 bare:j5 s.gens
def CE (outer:List Env)(P:cc)(w:World)(H:Hp)(s:aw)(Q:VK)(u:Value)(s':aw):Prop:=∃v H',s'.os=s.os/\j5 s'.gens/\Un (frs outer) [] H H' s.heap s'.heap/\HOk P w H' s'.heap/\RelV v u/\Q v H'
def CR (CX:CXT)(outer:List Env)(P:cc)(w:World)(H:Hp)(s:aw)(Q:VK)(E:XK)(r:Result)(s':aw):Prop:=
 match r with
 |.ok (.ret u)=>CE outer P w H s Q u s'
 |.ok _=>False
 |.error e=>CX outer H s E e s'
structure FnOk (P:cc)(w:World)(K:W.Frag)(mg:Str->Option Value)(base:Heap)(CX:CXT)(k:Nat)(f:Addr)(fd:ef)(ps:List Str)(sp:Sp):Prop where
 len:∀vs H Q E,sp vs H Q E->vs.length=ps.length
 run:∀(A:e9) (outer:List Env) (s:aw) (H:Hp) (args:Args) (us:List Value) (vs:List V) (Q:VK) (E:XK),Room k A->kA P w K mg base A outer s H->ox s fd args (ps.zip us)->Vals vs us->sp vs H Q E->jh (model P w) A (.call (.ref f) args) (CR CX outer P w H s Q E) s
theorem kA.make {K:W.Frag}(e:kA P w K mg base A outer s H)(C:Addr)(b:List Value)(a:List (Str×Value)): kA P w K mg base (A.under (.builtin "type.__call__" ⟨.ref C::b,a⟩)) outer s H:=⟨by first|exact e.frames|(simpa[Around.under,Code.envs,Code.isFrame,pushEnvs]using e.frames),e.mod,e.bs,e.lF,e.cU,e.oE,e.hok,e.bare⟩
theorem Inv.rj (I:Inv X a b H s):kA X.prog X.w X.K X.mg X.base X.A X.stack s H:=⟨I.ok.frames,I.ok.mod,I.bs,bp I.ok.lF I.sz,I.stack,I.gQ,I.hok,I.bare⟩
theorem Inv.after (I:Inv X c f H s)(h:CE X.stack X.prog X.w H s Q u e):EP X c f Q u e:=by obtain⟨v,i,os,bare,un,hok,r,q⟩:=h;obtain⟨hh,g,d,t,a⟩:=e;obtain rfl:a=s.os:=os;exact⟨v,i,I.call un hok bare (λb z=>absurd z (by simp)),r,q⟩
def jP (sp:Sp)(uE:List V)(E:XK)(t:TA):TE:=λσ H Q=>t σ H λvs H1=>sp (vs++uE) H1 Q E
def qv (C:Addr)(m:Str)(sp:Sp)(uE:List V)(E:XK)(ta:TE)(t:TA):TE:=λσ H Q=>ta σ H λx H1=>∃a dx fs,x=.ref a/\H1 a=some (.ins C dx fs)/\fs.lookup m=none/\t σ H1 λvs H2=>sp (x::(vs++uE)) H2 Q E
def sV (C:Addr)(sp:Sp)(uE:List V)(E:XK)(t:TA):TE:=λσ H Q=>t σ H λvs H1=>∀x dx,H1 x=none->H1 dx=none->dx≠x->sp (.ref x::(vs++uE)) (upd (upd H1 dx (.own x)) x (.ins C dx [])) (λv H2=>v=.non/\Q (.ref x) H2) E
def Binds (K:W.Frag)(fd:ef)(ps:List Str)(ds:List Value):Prop:=∀(s:aw) (us:List Value),K.In s.heap->(us++ds).length=ps.length->ox s fd ⟨us,[]⟩ (ps.zip (us++ds))
theorem Binds.all {K:W.Frag}(h:∀b:List Value,b.length=ps.length->p8 fd ⟨b,[]⟩=pure (ps.zip b)):Binds K fd ps []:=λs b _ a=>by rw[bx]at a ⊢;exact .of_eq (h b a)
def z2l (CX:CXT)(X:Cx)(E:XK):Prop:=∀(pins:List (Addr×Obj)) (σ:St) (H:Hp) (s:aw) (e:Value) (s':aw),Inv X pins σ H s->CX X.stack H s E e s'->X.xe e s'
section
variable {f C:Addr}
theorem z9i (F:FnOk X.prog X.w X.K X.mg X.base o k f fd ps p)(g:Room k X.A)(i:Binds X.K fd ps c)(hd:Vals a c)(j:z2l o X E)
  (I:Inv X l n H s) (r:Vals vs m) (h:p (vs++a) H Q E):wpAny (model X.prog X.w) X.A (call (.ref f) m) (EP X l n Q) X.xe s:=by
 have d:=r.append hd;refine n9 (iw (F.run X.A X.stack s H ⟨m,[]⟩ (m++c) (vs++a) Q E g I.rj (i s m I.cZ (d.length▸F.len _ _ _ _ h)) d h) λr q b=>?_);cases r with
 |error e=>exact j l n H s e q I b
 |ok fl=>
  cases fl with
  |ret u=>exact I.after b
  |next=>exact False.elim b
  |brk=>exact False.elim b
  |cont=>exact False.elim b
theorem zdn (F:FnOk X.prog X.w X.K X.mg X.base y k f fd ps z)(g:Room k X.A)(i:Gl X x)(hm:X.mg x=some (.ref f))(hk:W.keepIn X.K (.ref f)=true)(j:Binds X.K fd ps l)(hd:Vals a l)(m:z2l y X E)
  (n:PA X (e::v) t) (b:Ue x:=by decide) (o:cn (e::v) X.env=(false,eval e X.env)::cn v X.env:=by rfl) (c:(gy pos (cn v X.env)).any (·.1)=false:=by rfl):
  PE X (.Call (.Name x p) (e::v) [] pos) (jP z a E t):=by
 intro u s B H Q I h;refine ey (z2m I i hm ?_ b);refine W.callWith_K I.ok.mod.sT hk (aM (n pos u s B H _ I h) λC s1 ⟨D,G,d,r,q⟩=>⟨d.cZ,?_⟩) o c;exact z9i F g j hd m d r q
structure Mk (K:W.Frag)(C f:Addr):Prop where
 makes:W.makesIn K C=true
 init:W.findIn K (.ref C) "__init__"=some (some (.ref f))
 fn:W.isFn K (.ref f)=true
 kp:W.keepIn K (.ref C)=true
theorem zgq (M:Mk X.K C f)(F:FnOk X.prog X.w X.K X.mg X.base J k f fd ps L)(j:Room (k+1) X.A)(l:Binds X.K fd ps c)(hd:Vals b c)
  (m:z2l J X E) (I:Inv X y D H s) (r:Vals G z)
  (h:∀x B,H x=none->H B=none->B≠x->L (.ref x::(G++b)) (upd (upd H B (.own x)) x (.ins C B [])) (λv n=>v=.non/\Q (.ref x) n) E):
  wpAny (model X.prog X.w) X.A (call (.ref C) z) (EP X y D Q) X.xe s:=by
 have g:=h (s.heap.objs.size+1) s.heap.objs.size (I.hok.fresh (gc _)) (I.hok.fresh (ag _)) (b9 (jo _));have d:=Inv.made (C:=C) I;have i:Vals (V.ref (s.heap.objs.size+1)::(G++b)) (Value.ref (s.heap.objs.size+1)::(z++c)):=.cons rfl (r.append hd);have o:(Value.ref (s.heap.objs.size+1)::z++c).length=ps.length:=by have e:=i.length;rw[F.len _ _ _ _ g]at e;exact e.symm
 refine n9 (zhk I.cZ M.makes M.init (qm M.fn) (iw (F.run _ X.stack _ _ ⟨Value.ref (s.heap.objs.size+1)::z,[]⟩ (Value.ref (s.heap.objs.size+1)::(z++c)) _ _ E (j.make C z []) (d.rj.make C z []) (l _ (Value.ref (s.heap.objs.size+1)::z) d.cZ o) i g) λr N a=>?_));cases r with
 |error e=>exact m y D _ _ e N d a
 |ok fl=>
  cases fl with
  |ret u=>obtain⟨v,O,p,q,rfl,t⟩:=d.after a;exact⟨q,V.ref (s.heap.objs.size+1),O,p,rfl,t⟩
  |next=>exact False.elim a
  |brk=>exact False.elim a
  |cont=>exact False.elim a
theorem zka (M:Mk X.K C f)(F:FnOk X.prog X.w X.K X.mg X.base y k f fd ps z)(g:Room (k+1) X.A)(i:Gl X x)(hm:X.mg x=some (.ref C))(j:Binds X.K fd ps l)(hd:Vals a l)(m:z2l y X E)
  (n:PA X (e::v) t) (b:Ue x:=by decide) (o:cn (e::v) X.env=(false,eval e X.env)::cn v X.env:=by rfl) (c:(gy pos (cn v X.env)).any (·.1)=false:=by rfl):
  PE X (.Call (.Name x p) (e::v) [] pos) (sV C z a E t):=by
 intro u s B H Q I h;refine ey (z2m I i hm ?_ b);refine W.callWith_K I.ok.mod.sT M.kp (aM (n pos u s B H _ I h) λD s1 ⟨G,J,d,r,q⟩=>⟨d.cZ,?_⟩) o c;exact zgq M F g j hd m d r q
end
structure FnScope (N P:List Str)(sc:Scope):Prop where
 kind:sc.kind=.function
 co:sc.isCoroutine=false
 gen:sc.isGenerator=false
 nd:N.Nodup
 pre:N.take P.length=P
 par:∀x∈P,sc.names.lookup x=some .local\/sc.names.lookup x=some .cell
 ro:∀y∈sc.names,y.2≠.free
theorem D6 {a:Str->Option d5}:∀{binds:List (Str×Value)} {m:Str->Option Value},(∀v,(x,v)∉binds)->bindL a binds m x=m x
 | [],_,_=>rfl
 |(n,v)::r,m,h=>by
  unfold bindL;rw[D6 λw b=>h w (ai _ b)];split
  ·have :x≠n:=by rintro rfl;exact h v aj
   simp[this]
  ·rfl
theorem D7 {a:Str->Option d5}:∀{binds:List (Str×Value)} {m:Str->Option Value},(∀v,(x,v)∉binds)->bindC a binds m x=m x
 | [],_,_=>rfl
 |(n,v)::r,m,h=>by
  unfold bindC;rw[D7 λw b=>h w (ai _ b)];split
  ·rfl
  ·have :x≠n:=by rintro rfl;exact h v aj
   simp[this]
theorem z6k {a:Str->Option d5}:∀{P:List Str} {e:List Value} {i:Nat} {m:Str->Option Value},P.Nodup->P[i]?=some x->e[i]?=some v->a x=some .local->
  bindL a (P.zip e) m x=some v
 | [],_,_,_,_,h,_,_=>by simp at h
 |_::_,[],_,_,_,_,h,_=>by simp at h
 |p::P,w::e,0,m,nd,b,c,hk=>by simp at b c;subst b;subst c;show bindL a ((p,w)::P.zip e) m p=_;unfold bindL;rw[D6 λv d=>(gq.mp nd).1 (lz d).1,qe hk];simp
 |p::P,w::e,i+1,m,nd,b,c,hk=>by show bindL a ((p,w)::P.zip e) m x=_;exact z6k (gq.mp nd).2 (by simpa using b) (by simpa using c) hk
theorem z7d {a:Str->Option d5}:∀{P:List Str} {e:List Value} {i:Nat} {m:Str->Option Value},P.Nodup->P[i]?=some x->e[i]?=some v->a x≠some .local->
  bindC a (P.zip e) m x=some v
 | [],_,_,_,_,h,_,_=>by simp at h
 |_::_,[],_,_,_,_,h,_=>by simp at h
 |p::P,w::e,0,m,nd,b,c,hk=>by simp at b c;subst b;subst c;show bindC a ((p,w)::P.zip e) m p=_;unfold bindC;rw[D7 λv d=>(gq.mp nd).1 (lz d).1,qf hk];simp
 |p::P,w::e,i+1,m,nd,b,c,hk=>by show bindC a ((p,w)::P.zip e) m x=_;exact z7d (gq.mp nd).2 (by simpa using b) (by simpa using c) hk
def start (N:List Str)(vs:List V):St:=vs.map some++bd (N.length-vs.length) none
def iC (CX:CXT)(P:cc)(w:World)(K:W.Frag)(mg:Str->Option Value)(base:Heap)(N:List Str)(qual:Str)(scope:Scope)(f:Addr)(cd:Value)(A:e9)(outer:List Env)(s:aw)(H:Hp)(E:XK):Cx where
 prog:=P
 w:=w
 K:=K
 mg:=mg
 base:=base
 A:=A.deeper (md qual scope s.heap.objs.size f cd)
 N:=N
 s₀:=s
 hZ:=H
 env:=md qual scope s.heap.objs.size f cd
 outer:=outer
 stack:=md qual scope s.heap.objs.size f cd::outer
 ex:=[]
 calm:=true
 fn:=λ_=>true
 pn:=[]
 xe:=λe s'=>wpAny (model P w) (A.deeper (md qual scope s.heap.objs.size f cd)) (p5 (md qual scope s.heap.objs.size f cd) e) (λ_ rp=>CX outer H s E e rp) (λe' rp=>CX outer H s E e' rp) s'
theorem D8 {sc:Scope}(h:sc.names.lookup x=some .cell):∃c,(cellsFrom n sc.names []).lookup x=some c:=by exact Option.isSome_iff_exists.mp (W.cellsFrom_some sc.names n [] (.inl h))
theorem zc8 {K:W.Frag}
  (S:FnScope N ps scope) (hd:A.handled=none) (j:kA P w K mg base A outer s H) (F:J.length=ps.length) (r:Vals J M)
  (x:InCallC s s.heap.objs.size (bindL (md g scope s.heap.objs.size f cd).kindOf (ps.zip M) λ_=>none) (cellsFrom (s.heap.objs.size+1) scope.names []) (bindC (md g scope s.heap.objs.size f cd).kindOf (ps.zip M) λ_=>none) s1):
  Inv (iC O P w K mg base N g scope f cd A outer s H E) [] (start N J) H s1:=by
 have B:=by have:=congrArg fj S.pre;rw[c8]at this;omega
 obtain⟨t,G,rfl,hk⟩:=x.done;have l:∀b:Addr,b∉(iC O P w K mg base N g scope f cd A outer s H E).ex:=λb z=>absurd (show b∈([]:List Addr)from z) (by simp);refine⟨⟨j.mod,S.kind,rfl,rfl,ag _,λy z c t d=>?_,λy m=>?_,λy c _ h=>?_,λ_=>hd,Around.frames_deeper j.frames,.inr ⟨rfl,rfl⟩,λb z=>absurd z (l b),j.bs,j.lF,λb _ _=>l b,λb z=>absurd z (l b),j.cU,j.oE,λ_ _ z=>by cases z⟩,rfl,j.bare,Un.kept hk,⟨_,x.toInCall.ns,λi y v t d I=>?_⟩,λy c h=>⟨_,x.cell y c h⟩,j.hok.fresh (ag _),λy c h=>?_,λp n=>absurd (show p∈([]:List (Addr×Obj))from n) (by simp),j.hok.kept hk,?_,λ_ _ z=>by cases z⟩
 ·exact name_of_addr x.apart (PySem.mem_of_lookup t) (PySem.mem_of_lookup d)
 ·have m:scope.names.lookup y=some .cell\/scope.names.lookup y=some .free:=m;rcases m with m|m
  ·exact D8 m
  ·exact absurd rfl (S.ro _ (PySem.mem_of_lookup m))
 ·exact on (x.above y c (PySem.mem_of_lookup h))
 ·have L:i<J.length:=by
   unfold start at d;by_cases L:i<J.length
   ·exact L
   ·rw[ij (by simpa using L)]at d;rw[ci]at d;split at d<;>cases d
  have C:J[i]?=some v:=by
   unfold start at d;rw[ec (by simpa using L),bu]at d;cases e:J[i]? with
   |none=>rw[e]at d;cases d
   |some a=>rw[e]at d;cases d;rfl
  obtain⟨u,hu,D⟩:=r.get C;have n:ps[i]?=some y:=by rw[<-S.pre,List.getElem?_take_of_lt (by omega)];exact t
  have o:ps.Nodup:=S.pre▸S.nd.sublist (oy _ _);refine⟨u,D,?_⟩;rcases S.par y (de n)with k|k
  ·exact .inl ⟨k,z6k o n hu k⟩
  ·obtain⟨c,e⟩:=D8 k;refine .inr ⟨.inl k,c,e,?_⟩;have q:=x.cell y c e;rw[z7d o n hu (by show scope.names.lookup y≠_;rw[k];decide)]at q;exact q
 ·exact j.hok.fresh (on (x.above y c (PySem.mem_of_lookup h)))
 ·unfold start;show _=N.length;rw[ax,ak,cu];omega
theorem zm2 {P:cc}{K:W.Frag}{kV:Value}
  (lk:K.lookup f=some ⟨oc,od,.func (W.fnOf Y a params g scope F kV p G an c ct),I⟩) (z:W.codeIn K c a=true) (S:FnScope N ps scope)
  (len:∀U H Q E,sp U H Q E->U.length=ps.length)
  (h:∀A outer s H U Q E,Room k (A.deeper (md a scope s.heap.objs.size f c))->sp U H Q E->∃t,PSs (iC CX P w K mg base N a scope f c A outer s H E) g t/\t {nx:=λ_ X=>Q .non X,rt:=Q} (start N U) H):
  FnOk P w K mg base CX (k+1) f (W.fnOf Y a params g scope F kV p G an c ct) ps sp:=by
 refine⟨len,λA outer s H args us U Q E B j L r l=>?_⟩;have D:K.In s.heap:=j.mod.sT.keeps λb o e=>(j.bs b o e).1
 have i:∀y∈ps.zip us,scope.names.lookup y.1=some .local\/(scope.names.lookup y.1=some .cell/\((cellsFrom (s.heap.objs.size+1) scope.names []).lookup y.1).isSome=true):=λ⟨n,v⟩ M=>by
  rcases S.par n (lz M).1 with q|q
  ·exact .inl q
  ·exact .inr ⟨q,W.cellsFrom_some _ _ _ (.inl q)⟩
 refine codeAny_call_function B.depth (D _ _ lk) rfl S.co S.gen rfl (W.codeRec_of D z) (L _ _ _ _ ?_);refine wpAny_newFunctionEnv_cells S.kind i λenv O s1 x=>?_;subst O;refine⟨(j.mod.nolimit.keeps λb o e=>(j.bs b o e).1).keeps x.toInCall.keep,codeAny_func ?_⟩;obtain⟨t,R,T⟩:=h A outer s H U Q E (B.deeper _) l;refine gk (R [] s1 (start N U) H _ (zc8 S B.hd j (len _ _ _ _ l) r x) T) (λfl Z hs=>?_) λe Z hs=>hs;have m:∀{d:St} {X:Hp} {v:V} {u:Value},Inv (iC CX P w K mg base N a scope f c A outer s H E) [] d X Z->RelV v u->Q v X->CE outer P w H s Q u Z:=λ{d X v u} J C q=>⟨v,X,J.os,J.bare,J.base,J.hok,C,q⟩;cases fl with
 |ret u=>obtain⟨v,d,X,J,C,q⟩:=hs;exact m J C q
 |next=>obtain⟨d,X,J,q⟩:=hs;exact m (v:=V.non) J rfl q
 |brk=>obtain⟨_,_,_,q⟩:=hs;exact False.elim q
 |cont=>obtain⟨_,_,_,q⟩:=hs;exact False.elim q
section
variable {X:Cx}{x:Str}{p pos:Pos}{e:Expr}{es:List Expr}{t:TA}{id:String}{r:List V->Hp->VK->Prop}
def oI (r:List V->Hp->VK->Prop)(t:TA):TE:=λσ H Q=>t σ H λvs H1=>r vs H1 Q
theorem zga (c:CallR X (.builtin id) r)(d:Gl X x)(hm:X.mg x=none)(f:cq x=some (.builtin id))(g:PA X (e::es) t)(hn:x≠"__name__":=by decide)(a:Ue x:=by decide)
  (i:cn (e::es) X.env=(false,eval e X.env)::cn es X.env:=by rfl) (b:(gy pos (cn es X.env)).any (·.1)=false:=by rfl):PE X (.Call (.Name x p) (e::es) [] pos) (oI r t):=by
 intro m s n H Q I h;refine ey (z2j I d hm f ?_ hn a);exact PyProof.Rows.callWith_builtin1 (aM (g pos m s n H _ I h) λo s1 ⟨q,u,j,k,l⟩=>c m s1 n u q o Q j k l) i b
theorem zcq (c:CallR X (.type T) r)(d:Gl X x)(hm:X.mg x=none)(f:cq x=some (.type T))(g:PA X (e::es) t)(hn:x≠"__name__":=by decide)(a:Ue x:=by decide)
  (i:cn (e::es) X.env=(false,eval e X.env)::cn es X.env:=by rfl) (b:(gy pos (cn es X.env)).any (·.1)=false:=by rfl):PE X (.Call (.Name x p) (e::es) [] pos) (oI r t):=by
 intro m s n H Q I h;refine ey (z2j I d hm f ?_ hn a);exact PyProof.Rows.callWith_type1 (aM (g pos m s n H _ I h) λo s1 ⟨q,u,j,k,l⟩=>c m s1 n u q o Q j k l) i b
end
section
variable {κ:Type} [DecidableEq κ]
def cP (aW:List (κ×V))(k:κ):Option V:=(aW.find? λkv=>decide (kv.1=k)).map (·.2)
def putK (aW:List (κ×V))(k:κ)(v:V):List (κ×V):=if(aW.any λkv=>decide (kv.1=k))=true then aW.map (λkv=>if kv.1=k then(kv.1,v)else kv)else aW++[(k,v)]
theorem w5 {p:κ×V}(e:p.1=k):cP (p::r) k=some p.2:=by simp[cP,dg,e]
theorem xb {p:κ×V}(e:¬p.1=k):cP (p::r) k=cP r k:=by simp[cP,dg,e]
theorem D9 (k:κ):∀a,(a.any λb=>decide (b.1=k))=(cP a k).isSome
 | []=>rfl
 |p::r=>by
  rw[i5];by_cases e:p.1=k
  ·simp only[w5 e,qk e,Bool.true_or,Option.isSome_some]
  ·rw[xb e,ql e];exact D9 k r
theorem Ea (a:List (κ×V))(k:κ)(v:V):(putK a k v).length<=a.length+1:=by
 unfold putK;split
 ·rw[ak];omega
 ·rw[ax,ay,List.length_nil];omega
theorem cJ.cB (r:cJ o u):o.isSome=u.isSome:=by
 cases o with
 |none=>cases u with
  |none=>rfl
  |some _=>exact r.elim
 |some _=>cases u with
  |none=>exact r.elim
  |some _=>rfl
theorem cJ.getD (r:cJ o u)(rd:RelV d a):RelV (o.getD d) (u.getD a):=by
 cases o with
 |none=>cases u with
  |none=>exact rd
  |some _=>exact r.elim
 |some _=>cases u with
  |none=>exact r.elim
  |some _=>exact r
theorem KV.val (r:KV a j)(k:κ):cJ (cP a k) (oz j k):=by
 induction r with
 |nil=>exact True.intro
 | @cons p q ps c h t g=>
  obtain⟨f,i⟩:=h;by_cases e:p.1=k
  ·have d:q.1=k:=f.symm.trans e;have b:oz (q::c) k=some q.2:=by simp[oz,dg,d]
   rw[w5 e,b];exact i
  ·have d:¬q.1=k:=λz=>e (f.trans z);have b:oz (q::c) k=oz c k:=by simp[oz,dg,d]
   rw[xb e,b];exact g
theorem KV.any (r:KV a d)(k:κ):(a.any λb=>decide (b.1=k))=d.any λb=>decide (b.1=k):=by
 induction r with
 |nil=>rfl
 |cons h t c=>rw[i5,i5,c,h.1]
theorem KV.repl (r:KV c j)(k:κ)(d:RelV y u):
  KV (c.map λa=>if a.1=k then(a.1,y)else a) (j.map λa=>if a.1=k then(a.1,u)else a):=by
 induction r with
 |nil=>exact .nil
 | @cons p q ps i h t f=>
  rw[br,br];refine .cons ?_ f;obtain⟨b,g⟩:=h;by_cases e:p.1=k
  ·rw[qe e,qe (b.symm.trans e)];exact⟨b,d⟩
  ·rw[qf e,qf (λz=>e (b.trans z))];exact⟨b,g⟩
theorem KV.put (r:KV a d)(k:κ)(b:RelV y u):KV (putK a k y) (stored d k u):=by
 unfold putK stored;rw[r.any k];by_cases e:(d.any λc=>decide (c.1=k))=true
 ·rw[qe e,qe e];exact r.repl k b
 ·rw[qf e,qf e];exact Paired.snoc r ⟨rfl,b⟩
theorem KV.length (r:KV a vs):a.length=vs.length:=Paired.length r
end
theorem sW (r:RelV (kV k) u):(hX P w).is k u=true:=by
 cases k with
 |inl i=>obtain⟨t,e⟩:=r;subst e;exact Jr P w i t
 |inr x=>obtain⟨t,e⟩:=r;subst e;exact Js P w x t
theorem Eb:∀{a:List Key} {b:List Value},Vals (a.map kV) b->ItemsAre (hX P w) a b
 | [],_,r=>by rw[List.map_nil]at r;cases r;exact .nil
 |k::a,_,r=>by
  cases r with
  |cons h t=>exact .cons (sW h) (Eb t)
abbrev KT (H:Hp):List (List Key×V)->List (List Key×Addr×Value)->Prop:=i9 λp q=>p.1=q.1/\H q.2.1=some (.tup (p.1.map kV))/\RelV p.2 q.2.2
theorem KT.val (r:KT H a xs)(k:List Key):cJ (cP a k) ((atKey xs k).map (·.2)):=by
 induction r with
 |nil=>exact True.intro
 | @cons p q ps c h t g=>
  obtain⟨f,_,i⟩:=h;by_cases e:p.1=k
  ·have d:q.1=k:=f.symm.trans e;have b:atKey (q::c) k=some q.2:=by simp[atKey,dg,d]
   rw[w5 e,b];exact i
  ·have d:¬q.1=k:=λz=>e (f.trans z);have b:atKey (q::c) k=atKey c k:=by simp[atKey,dg,d]
   rw[xb e,b];exact g
theorem KT.repl (r:KT H b f)(k:List Key)(g:RelV y u):
  KT H (b.map λc=>if c.1=k then(c.1,y)else c) (f.map (putAt k u)):=by
 induction r with
 |nil=>exact .nil
 | @cons p q ps l h t i=>
  rw[br];refine .cons ?_ i;obtain⟨a,d,j⟩:=h;unfold putAt;by_cases e:p.1=k
  ·rw[qe e,qe (a.symm.trans e)];exact⟨a,d,g⟩
  ·rw[qf e,qf (λz=>e (a.trans z))];exact⟨a,d,j⟩
theorem KT.put (r:KT H a c)(k:List Key)(f:H b=some (.tup (k.map kV)))(d:RelV y u):
  KT H (putK a k y) (storedH c k b u):=by
 have e:(a.any λg=>decide (g.1=k))=(atKey c k).isSome:=by rw[D9,(r.val k).cB,ji]
 unfold putK storedH;rw[e];by_cases q:(atKey c k).isSome=true
 ·rw[qe q,qe q];exact r.repl k d
 ·rw[qf q,qf q];exact Paired.snoc r ⟨rfl,f,d⟩
theorem KT.keeps (r:KT H a d)(e:∀b c,H b=some (.tup c)->f b=some (.tup c)):KT f a d:=Paired.qX r λ_ _ z=>⟨z.1,e _ _ z.2.1,z.2.2⟩
theorem Ec (ok:HOk P w H h)(e:Rd H a u):z1y P w H h a u:=e.ok ok
theorem qw (ok:HOk P w H h)(e:Rd H a (.dK b)):b.length<=av/\(a==gj)=false/\∃c,KV b c/\h.DictOf (hX P w) a c:=show z1y P w H h a (.dK b)from Ec ok e
theorem zN (ok:HOk P w H h)(e:H a=some (.dK b)):b.length<=av/\(a==gj)=false/\∃c,KV b c/\h.DictOf (hX P w) a c:=qw ok (.inl e)
theorem sX (ok:HOk P w H h)(e:H a=some (.tup (d.map kV))):(lg (hX P w)).is h d a:=by obtain⟨_,b,r,n,c⟩:=(ok a _ e);exact⟨_,b.toArray,n,c,rfl,rfl,by simpa using Eb r⟩
theorem z7h (ok:HOk P w H h)(e:Rd H a (.dT c)):c.length<=av/\(a==gj)=false/\
  ∃d,KT H c d/\h.DictOfH (lg (hX P w)) a d:=by
 obtain⟨z,y,d,r,o,A,g,i,j,k,n,s⟩:=(Ec ok e);refine⟨z,y,d,r,o,A,g,i,j,k,n,λx b=>?_,s⟩
 have all:∀{l:List (List Key×V)} {m:List (List Key×Addr×Value)},KT H l m->∀x∈m,(lg (hX P w)).is h x.1 x.2.1:=by
  intro l m q
  induction q with
  |nil=>intro x b;exact nomatch b
  | @cons p q ps v f t u=>
   intro x b;rcases aq.mp b with e|b
   ·subst e;exact sX ok (f.1▸f.2.1)
   ·exact u x b
 exact all r x b
theorem Kk (ok:HOk P w H h)(e:H a=some (.dT b)):b.length<=av/\(a==gj)=false/\∃c,KT H b c/\h.DictOfH (lg (hX P w)) a c:=z7h ok (.inl e)
def DGet (H:Hp)(a:Addr)(y:V)(r:Option V):Prop:=(∃aW k,Rd H a (.dK aW)/\y=kV k/\r=cP aW k)\/∃aW k b,Rd H a (.dT aW)/\y=.ref b/\H b=some (.tup (k.map kV))/\r=cP aW k
def DPut (H:Hp)(a:Addr)(y v:V)(H':Hp):Prop:=
 (∃aW k,H a=some (.dK aW)/\y=kV k/\aW.length<av/\H'=upd H a (.dK (putK aW k v)))\/
 ∃aW k b,H a=some (.dT aW)/\y=.ref b/\H b=some (.tup (k.map kV))/\aW.length<av/\H'=upd H a (.dT (putK aW k v))
theorem DGet.k {k:Key}(e:H a=some (.dK b)):DGet H a (kV k) (cP b k):=.inl ⟨b,k,.inl e,rfl,rfl⟩
theorem Inv.big (I:Inv X a b H s):gj<s.heap.objs.size:=by exact j6 dc ((I.mod.glob.keeps I.bk).lt)
theorem zbp (hu:A.units+1<cLine)(I:Inv X x D H s)(g:DGet H a y (some v))(o:RelV y u)(h:∀f C,Inv X x D H C->RelV v f->Q f C):
  wpAny (model X.prog X.w) A (o0 (.ref a) u) Q E s:=by
 rcases g with⟨i,k,e,j,l⟩|⟨i,k,b,e,j,q,l⟩
 ·subst j;obtain⟨z,hd,F,c,B⟩:=qw I.hok e;obtain⟨f,m,d⟩:=cJ.some_of (l▸c.val k);exact wpAny_getItem_of (sW o) B.mapOf m (h f _ (I.tok _) d)
 ·subst j;cases o;obtain⟨z,hd,t,c,B⟩:=z7h I.hok e;obtain⟨f,m,d⟩:=cJ.some_of (l▸c.val k);obtain⟨p,r,n⟩:=cw.mp m;refine wpAny_getItem_heap (gm hu) (sX I.hok q) B r ?_;rw[n];exact h f _ (I.tok _) d
theorem d_in (hu:A.units+1<cLine)(I:Inv X n t H s)(g:DGet H a y o)(i:RelV y u)(h:∀r,Inv X n t H r->Q (.bool o.isSome) r):
  wpAny (model X.prog X.w) A (cf .In u (.ref a)) Q E s:=by
 rcases g with⟨d,k,e,f,l⟩|⟨d,k,b,e,f,j,l⟩
 ·subst f;obtain⟨z,hd,v,c,p⟩:=qw I.hok e;refine wpAny_in_of (sW i) hd p.mapOf ?_;rw[<-(c.val k).cB,<-l];exact h _ (I.tok _)
 ·subst f;cases i;obtain⟨z,hd,m,c,p⟩:=z7h I.hok e;refine wpAny_in_heap (gm hu) (sX I.hok j) hd p ?_;have q:=(c.val k).cB;rw[ji]at q;rw[<-q,<-l];exact h _ (I.tok _)
theorem zlp (hu:A.units+1<cLine)(I:Inv X n t H s)(g:DGet H a y o)(i:RelV y u)(h:∀r,Inv X n t H r->Q (.bool (!o.isSome)) r):
  wpAny (model X.prog X.w) A (cf .NotIn u (.ref a)) Q E s:=by
 rcases g with⟨d,k,e,f,l⟩|⟨d,k,b,e,f,j,l⟩
 ·subst f;obtain⟨z,hd,v,c,p⟩:=qw I.hok e;refine wpAny_notIn_of (sW i) hd p.mapOf ?_;rw[<-(c.val k).cB,<-l];exact h _ (I.tok _)
 ·subst f;cases i;obtain⟨z,hd,m,c,p⟩:=z7h I.hok e;refine wpAny_notIn_heap (gm hu) (sX I.hok j) hd p ?_;have q:=(c.val k).cB;rw[ji]at q;rw[<-q,<-l];exact h _ (I.tok _)
theorem zeg (I:Inv X g h H s)(d:Mut (H a))(hs:b7 a s.heap c)(e:∃q,c.get? a=some q)(new:z1y X.prog X.w (upd H a ob) c a ob):
  Inv X g h (upd H a ob) {s with heap:=c,toks:=t'}:=
 I.write d (.inl rfl) (λb q f z=>(hs.2 b f).trans z) e new
theorem Kl (z:b.length<=av)(hd:(a==gj)=false)(c:KV b e)(f:d.DictOf (hX P w) a e): z1y P w g d a (.dK b):=⟨z,hd,e,c,f⟩
theorem zco (hu:A.units+1<cLine)(I:Inv X N R H s)(g:DPut H a y v S)(o:RelV y u)(p:RelV v r)(h:∀P,Inv X N R S P->Q () P):
  wpAny (model X.prog X.w) A (setItem (.ref a) u r) Q E s:=by
 rcases g with⟨i,k,e,m,l,n⟩|⟨i,k,b,e,m,t,l,n⟩
 ·subst m n;obtain⟨z,hd,T,d,O⟩:=zN I.hok e;have x:T.length<=av:=d.length▸z;exact wpAny_setItem_pairs (hsz:=x) (sW o) O λC f hs=>h _ (zeg I (e▸True.intro) hs (let⟨q,_,_,j,_⟩:=f;⟨q,j⟩) (Kl (by have:=Ea i k v;omega) hd (d.put k p) f))
 ·subst m n;cases o;obtain⟨z,hd,D,d,O⟩:=Kk I.hok e;have x:D.length<=av:=Paired.length d▸z;refine wpAny_setItem_heap (gm hu) (sX I.hok t) O λC f hs=>h _ ?_;obtain⟨q,U,F,j,G,J,K,_,L⟩:=f;refine zeg I (e▸True.intro) hs ⟨q,j⟩ ⟨(by have:=Ea i k v;omega),hd,_,(d.put k t p).keeps λc M B=>?_,q,U,F,j,G,J,K,L⟩;rw[aH (Jt B e (λz=>nomatch z))];exact B
theorem Km (I:Inv X d g H s)(e:Rd H a (.dK c))(h:∀t f,Inv X d g H f->Q (.int c.length t) f):wpAny (model X.prog X.w) A (call (.builtin "len") [.ref a]) Q E s:=by obtain⟨z,hd,j,b,i⟩:=qw I.hok e;refine call_len_dict hd i (by rw[<-b.length];rw[cb]at z;omega) ?_;rw[<-b.length];exact h _ _ (I.tok _)
theorem Kn (I:Inv X h i H s)(g:DGet H a y o):s.TypeIs (.ref a) "dict":=by
 rcases g with⟨c,k,e,_,_⟩|⟨c,k,b,e,_,_,_⟩
 ·obtain⟨_,_,j,_,f⟩:=qw I.hok e;exact f.typeIs
 ·obtain⟨_,_,d,_,f⟩:=z7h I.hok e;exact f.typeIs
theorem Kq (h:Heap)(a:gj<h.objs.size):z1y P w H (h.push {cls:=.type "dict",data:=.dict #[]}) h.objs.size (.dK []):=⟨c7 _,beq_eq_false_iff_ne.mpr (Ne.symm (b9 a)),[],.nil,Heap.DictOf.new h⟩
def Ed:TE:=λ_ H Q=>∀p,H p=none->Q (.ref p) (upd H p (.dK []))
theorem Ee:PE X (.Dict [] [] b) Ed:=λa s c H Q I h=>wpAny_Dict_empty ⟨.ref s.heap.objs.size,_,I.laid (λ_ _ q=>af _ q) (ag _) (Kq s.heap I.big),rfl,h _ (I.hok.fresh (ag _))⟩
def Kr (aW more:List (Key×V)):List (Key×V):=more.foldl (λacc kv=>putK acc kv.1 kv.2) aW
theorem KV.merge:∀{a:List (Key×V)} {rs:List (Key×Value)} {b:List (Key×V)} {g:List (Key×Value)},KV a rs->KV b g->KV (Kr b a) (merged g rs):=by
 intro a rs b g r
 induction r generalizing b g with
 |nil=>intro q;exact q
 | @cons p q ps f h t c=>
  intro d;have e:KV (putK b p.1 p.2) (stored g q.1 q.2):=by have:=d.put p.1 h.2;rw[<-h.1];exact this
  exact c e
structure M1 (X:Cx)(o:Expr)(m:Str)(apos:Pos)(e:Expr)(bV:Pos):Prop where
 base:gv o m X.env (eval o X.env)=eval o X.env
 zO:((gy bV (cn [e] X.env)).all (λx=> !x.1)&&(o4 bV (ku [] X.env)).all (λx=>x.1.isSome) &&decide (([e]:List Expr).length+([]:List lr).length+(if([]:List lr).isEmpty then 0 else 1)<30))=true
 line:(apos.endLine==bV.line)=true
 trees:gy bV (cn [e] X.env)=[(false,eval e X.env)]
def IsD (H:Hp)(a:Addr):Prop:=(∃aW,Rd H a (.dK aW))\/∃aW,Rd H a (.dT aW)
theorem zo1 (I:Inv X j k H s)(d:IsD H a):
  s.TypeIs (.ref a) "dict"/\(∀b,Value.ref a=.ref b->∃ob,s.heap.get? b=some ob/\ob.dict=none)/\(a==gj)=false:=by
 rcases d with⟨c,e⟩|⟨c,e⟩
 ·obtain⟨_,hd,l,_,i⟩:=qw I.hok e;refine⟨i.typeIs,λb q=>?_,hd⟩;cases q;obtain⟨ob,_,_,f,g,_⟩:=i;exact⟨ob,f,g.2.1⟩
 ·obtain⟨_,hd,h,_,i⟩:=z7h I.hok e;refine⟨i.typeIs,λb q=>?_,hd⟩;cases q;obtain⟨ob,_,_,f,g,_⟩:=i;exact⟨ob,f,g.2.1⟩
theorem zrm (hu:A.units+1<cLine)(I:Inv X p t H s)(g:DGet H a y o)(i:RelV y u)(h:∀j r,Inv X p t H r->RelV (o.getD .non) j->Q j r):
  wpAny (model X.prog X.w) A (call (.builtin "dict.get") [.ref a,u]) Q E s:=by
 rcases g with⟨d,k,e,f,l⟩|⟨d,k,b,e,f,m,l⟩
 ·subst f;obtain⟨z,hd,v,c,q⟩:=qw I.hok e;refine o5 PySem.F.slot_dict_get q.typeIs PySem.F.entry_dict_get (PySem.F.args_dict_get_2 _ _) (meets_dict_get (hX X.prog X.w) a (sW i) hd) ⟨_,q.mapOf,h _ _ (I.tok _) ?_⟩;rw[l];exact(c.val k).getD rfl
 ·subst f;cases i;obtain⟨z,hd,n,c,q⟩:=z7h I.hok e;refine o5 PySem.F.slot_dict_get q.typeIs PySem.F.entry_dict_get (PySem.F.args_dict_get_2 _ _) (meetsH_dict_get (lg (hX X.prog X.w)) a b hd) ⟨gm hu,k,n,sX I.hok m,q,h _ _ (I.tok _) ?_⟩;rw[l];exact(c.val k).getD rfl
def Ef (td ty:TE):TE:=λσ H Q=>td σ H λx H1=>∃a,x=.ref a/\IsD H1 a/\ty σ H1 λy H2=>∃o,DGet H2 a y o/\Q (o.getD .non) H2
theorem Ks (hu:X.A.units+1<cLine)(f:PE X o i)(j:PE X e ty)(m:M1 X o "get" J e bV):PE X (.Call (.Attribute o "get" J) [e] [] bV) (Ef i ty):=by intro G s K H Q I h;refine wpAny_Call_method m.base m.zO m.line PySem.F.plainAttrs_dict PySem.F.slot_dict_get PySem.F.type_dict_get (aM (f G s K H _ I h) λu s1 ⟨x,L,c,k,a,ex,d,l⟩=>?_);subst ex;obtain rfl:u=Value.ref a:=k;obtain⟨n,p,_⟩:=zo1 c d;refine⟨n,p,?_⟩;rw[m.trees];refine jj rfl (jw (n8 (aM (j G s1 K L _ c l) λz B ⟨y,q,r,t,C,g,v⟩=>ow ?_)));exact zrm hu r g t λD E w b=>⟨_,q,w,b,v⟩
end L2
namespace HT
open PySem PyProof.Rows
theorem cat_tup (p:IsTup s.heap t x.toArray)(q:IsTup s.heap b ws.toArray)(l:x≠[])
  (r:ws=[]->Q (.ref t) s) (u:ws≠[]->Q (.ref s.heap.objs.size) {s with heap:=s.heap.push {cls:=.type "tuple",data:=.seq (x++ws).toArray}})
  (h:x.length+ws.length<=av):wpAny (model prog w) A (eo .Add (.ref t) (.ref b)) Q E s:=by
 obtain⟨⟨cls,y,data,sl⟩,f,v,n,hd⟩:=id p;obtain⟨⟨m,c,i,d⟩,a,j,o,k⟩:=id q;subst v hd j k;have e:x.toArray++ws.toArray=(x++ws).toArray:=by simp
 by_cases g:ws=[]
 ·exact ls ⟨_,f,rfl⟩ ⟨_,a,rfl⟩ lj nn PySem.F.slot_tuple_add PySem.F.entry_tuple_add (PySem.F.args_tuple_add_2 _ _) (tuple_addW1 t b x.toArray ws.toArray n o y c sl d (by simpa using l) (by simp[g])) ⟨f,a,r g⟩
 ·refine ls ⟨_,f,rfl⟩ ⟨_,a,rfl⟩ lj nn PySem.F.slot_tuple_add PySem.F.entry_tuple_add (PySem.F.args_tuple_add_2 _ _)
   (tuple_addW2 t b x.toArray ws.toArray n o y c sl d (by simpa using l) (by simpa using g) (by rw[bn,bn];exact h)) ⟨f,a,?_⟩
  rw[e];exact u g
def bE (n d:Nat):Option Int->Nat
 |none=>d
 |some v=>if v<0 then(v+(n:Int)).toNat else min v.toNat n
theorem rq (n d:Nat)(hd:d<=n)(o:Option Int):bE n d o<=n:=by
 cases o with
 |none=>exact hd
 |some v=>
  show(if v<0 then(v+n).toNat else min v.toNat n)<=n;by_cases a:v<0
  ·rw[qe a];omega
  ·rw[qf a];exact Nat.min_le_right _ _
theorem Eg (v:Int)(n d:Nat):(if v<0 then max (v+(n:Int)) 0 else min v (n:Int))=((bE n d (some v):Nat):Int):=by
 show(if v<0 then max (v+(n:Int)) 0 else min v (n:Int))=(((if v<0 then(v+(n:Int)).toNat else min v.toNat n):Nat):Int);by_cases a:v<0
 ·simp only[qe a];omega
 ·simp only[qf a];omega
theorem Kt (a b:Option Int)(n:Nat):kn a b 1 (n:Int)=(((bE n 0 a:Nat):Int),((bE n n b:Nat):Int)):=by
 refine Prod.ext ?_ ?_
 ·cases a with
  |none=>rfl
  |some v=>exact Eg v n 0
 ·cases b with
  |none=>rfl
  |some v=>exact Eg v n n
theorem Ku (i j:Nat):fg (i:Int) (j:Int) 1=j-i:=by unfold fg;split<;>omega
theorem Eh (p:oa v o)(h:Q o s):wpAny (model prog w) A (Builtin.Slice.slicePartIndex v) Q E s:=by
 cases p with
 |none=>exact slicePart_none h
 |int i t=>exact slicePart_int h
theorem z3k {g:Option Int}{n:Nat}(hs:s.heap.IsSliceOf sl c d .none)(pl:oa c g)(e:oa d i)
  (h:Q (((bE n 0 g:Nat):Int),1,bE n n i-bE n 0 g) s):wpAny (model prog w) A (Builtin.Slice.sliceApplied (.ref sl) (pure n)) Q E s:=by
 obtain⟨os,a,f,b⟩:=id hs;refine aa (aa (df a b rfl (aa (df a b rfl (aa (df a b rfl (am ?_)))))));refine aa (slicePart_none ?_);refine aa (Eh pl (aa (Eh e (aa (am ?_)))));show wpAny _ _ (match kn g i 1 n with|(g,i)=>pure (g,(1:Int),fg g i 1)) _ _ s;rw[Kt g i n];show wpAny _ _ (pure (((bE n 0 g:Nat):Int),1,fg ((bE n 0 g:Nat):Int) ((bE n n i:Nat):Int) 1)) _ _ s;rw[Ku];exact am h
theorem Kv (a:Array Value)(i k:Nat):((dm k).filterMap λ(m:Nat)=>a[((i:Int)+(m:Int)*1).toNat]?).toArray=((a.toList.drop i).take k).toArray:=by
 have e:(λ(m:Nat)=>a[((i:Int)+m*1).toNat]?)=λm=>a[i+m]?:=by
  funext m
  have:((i:Int)+m*1).toNat=i+m:=by omega
  rw[this]
 rw[e];have:=pick_run a i k;rw[List.filterMap_map]at this;have b:((λx=>a[x]?)∘λx=>i+x)=λm=>a[i+m]?:=rfl;rw[b]at this;rw[this]
theorem getItem_tuple_cut {f:Value}{o:Option Int}(b:IsTup s.heap t items)(hs:s.heap.IsSliceOf sl g f .none)(pl:oa g o)(i:oa f p)
  (j:¬(bE items.size 0 o=0/\bE items.size items.size p=items.size))
  (h:Q (.ref s.heap.objs.size) {s with heap:=s.heap.push {cls:=.type "tuple",data:=.seq ((items.toList.drop (bE items.size 0 o)).take (bE items.size items.size p-bE items.size 0 o)).toArray}})
  (k:items.size<=av):wpAny (model prog w) A (o0 (.ref t) (.ref sl)) Q E s:=by
 have a:sizeOk (.seq ((items.toList.drop (bE items.size 0 o)).take (bE items.size items.size p-bE items.size 0 o)).toArray):=by show((items.toList.drop (bE items.size 0 o)).take (bE items.size items.size p-bE items.size 0 o)).toArray.size<=av;rw[bn,c8,dh,cv];omega
 obtain⟨os,c,d,l⟩:=id hs;unfold o0
 try with_reducible refine ei ?_
 first|refine aa (am ?_)|skip
 refine aa (wpAny_sequenceKey b.typeIs dc ?_);refine aa (en b.typeIs PyProof.Rows.slot_tuple_getitem (fy PyProof.Rows.slot_tuple_getitem b.typeIs entry_tuple_getitem ?_ (args_tuple_getitem _ _)));show wpAny _ _ (Builtin.Tuple.tupleItemsOf (.ref t)>>=_) _ _ s;refine aa (tupleItemsOf_ b ?_);refine aa (wpAny_typeOf ⟨os,c,d⟩ ?_);refine aa (z3k hs pl i ?_);have e:¬((((bE items.size 0 o:Nat):Int)==0&&(1:Int)==1&&(bE items.size items.size p-bE items.size 0 o)==items.size)=true):=by intro q;rw[au,au]at q;have m:=eq_of_beq q.1.1;have n:=eq_of_beq q.2;exact j ⟨by omega,by omega⟩
 show wpAny _ _ (if(((bE items.size 0 o:Nat):Int)==0&&(1:Int)==1&&(bE items.size items.size p-bE items.size 0 o)==items.size)=true then _ else _) _ _ s;rw[qf e,Kv]
 first
  |exact aa (fk (am ⟨_,rfl,am h⟩) a)
  |exact aa (fk (aa (am (am ⟨_,rfl,am h⟩))) a)
  |exact aa (aa (fk (am (am ⟨_,rfl,am h⟩)) a))
  |exact aa (aa (fk (am ⟨_,rfl,am h⟩) a))
end HT
namespace L2
open PySem PySem.Spec PyProof.Rows
abbrev TO:=St->Hp->(Option Int->Hp->Prop)->Prop
def PO (X:Cx)(e:Option Expr)(t:TO):Prop:=∀(pins:List (Addr×Obj)) (s:aw) (σ:St) (H:Hp) (Q:Option Int->Hp->Prop),Inv X pins σ H s->t σ H Q->wpAny (model X.prog X.w) X.A (evalPart e X.env) (λu s'=>∃o H',Inv X pins σ H' s'/\oa u o/\Q o H') X.xe s
def Kw:TO:=λ_ H Q=>Q none H
def Ky (t:TE):TO:=λσ H Q=>t σ H λx H1=>∃i,x=.int i/\Q (some i) H1
theorem intsAre_of:∀{d:List Value},Vals (ns.map V.int) d->mw d ns:=by
 induction ns with
 |nil=>intro d r;rw[List.map_nil]at r;cases r;exact .nil
 |cons n ns a=>
  intro d r;cases r with
  |cons b c=>obtain⟨t,rfl⟩:=b;exact .cons n t (a c)
section
variable {X:Cx}{e:Expr}{te:TE}{lo hi:Option Expr}{tl th:TO}{pos p2:Pos}
theorem Kz:PO X none Kw:=by intro a s b H Q I h;exact am ⟨none,H,I,.none,h⟩
theorem KA (h:PE X e te):PO X (some e) (Ky te):=by intro f s g H Q I a;refine aM (h f s g H _ I a) λu s1 ⟨x,j,b,c,d⟩=>?_;obtain⟨i,rfl,q⟩:=d;obtain⟨t,rfl⟩:=c;exact⟨some i,j,b,.int i t,q⟩
def nM (X:Cx)(r:V->Option Int->Option Int->Hp->VK->Prop):Prop:=∀(pins:List (Addr×Obj)) (s:aw) (σ:St) (H:Hp) (x:V) (v vl vu:Value) (lo hi:Option Int) (sl:Addr) (Q:VK),Inv X pins σ H s->RelV x v->s.heap.IsSliceOf sl vl vu .none->oa vl lo->oa vu hi->r x lo hi H Q->∃T id,typeLookup (.type T) "__getitem__"=pure (some (.builtin id))/\s.TypeIs v T/\wpAny (model X.prog X.w) X.A (o0 v (.ref sl)) (EP X pins σ Q) X.xe s
theorem nM.or (h:nM X r)(e:nM X f):nM X (λx lo hi H Q=>r x lo hi H Q\/f x lo hi H Q):=by
 intro g s i H x v a b lo hi sl Q I c hs pl d q;rcases q with q|q
 ·exact h g s i H x v a b lo hi sl Q I c hs pl d q
 ·exact e g s i H x v a b lo hi sl Q I c hs pl d q
def KC (r:V->Option Int->Option Int->Hp->VK->Prop)(te:TE)(tl th:TO):TE:=λσ H Q=>te σ H λx H1=>tl σ H1 λl H2=>th σ H2 λu H3=>r x l u H3 Q
theorem KG (g:nM X r)(i:PE X e te)(j:PO X lo tl)(hu:PO X hi th):PE X (.Subscript e (.Slice lo hi none p2) pos) (KC r te tl th):=by intro F s G H Q I h;refine Subscript_ (aM (i F s G H _ I h) λv s1 ⟨x,J,k,m,n⟩=>?_);refine wpAny_Slice (aM (j F s1 G J _ k n) λc o ⟨l,p,t,pl,w⟩=>aM (hu F o G p _ t w) λd a ⟨u,f,y,z,A⟩=>?_);refine am ?_;have B:Inv X F G f {a with heap:=a.heap.push {cls:=.type "slice",data:=.fields #[c,d,.none]}}:=y.kept λb ob q=>af _ q;obtain⟨T,id,C,D,E⟩:=g F {a with heap:=a.heap.push {cls:=.type "slice",data:=.fields #[c,d,.none]}} G f x v c d l u a.heap.objs.size Q B m (Heap.IsSliceOf.new ..) pl z A;exact tail_any D C E (by with_unfolding_all rfl)
def oJ (xs:List V)(lo hi:Option Int):List V:=(xs.drop (HT.bE xs.length 0 lo)).take (HT.bE xs.length xs.length hi-HT.bE xs.length 0 lo)
theorem Ei (a:List V)(lo hi:Option Int):(oJ a lo hi).length<=a.length:=by unfold oJ;rw[c8,dh];omega
def zP (K:W.Frag):V->Option Int->Option Int->Hp->VK->Prop:=λx lo hi H Q=>∃a xs,x=.ref a/\dB K H a xs/\¬(HT.bE xs.length 0 lo=0/\HT.bE xs.length xs.length hi=xs.length)/\∀p,H p=none->Q (.ref p) (upd H p (.tup (oJ xs lo hi)))
theorem KH:nM X (zP X.K):=by
 rintro n s o H x v l m lo hi sl Q I h hs pl i ⟨a,d,rfl,j,k,q⟩
 cases h;obtain⟨e,r,f,g⟩:=I.tuple j;have c:e.toArray.size=d.length:=bn▸r.length.symm;refine⟨"tuple",_,PyProof.Rows.slot_tuple_getitem.lookup,f.typeIs,?_⟩;refine HT.getItem_tuple_cut f hs pl i (c▸k) ?_ (c▸g);rw[c];refine⟨.ref s.heap.objs.size,_,I.laid (λb ob q=>af _ q) (ag _) ?_,rfl,q _ (I.hok.fresh (ag _))⟩;exact⟨bp (Ei d lo hi) g,_,(r.drop (HT.bE d.length 0 lo)).take (HT.bE d.length d.length hi-HT.bE d.length 0 lo),hY.new _ _⟩
def Ej (K:W.Frag):R2:=λx y H Q=>∃a b xs ys,x=.ref a/\y=.ref b/\dB K H a xs/\dB K H b ys/\xs≠ []/\xs.length+ys.length<=av/\(ys=[]->Q (.ref a) H)/\(ys≠[]->∀p,H p=none->Q (.ref p) (upd H p (.tup (xs++ys))))
theorem Vals.gS (r:Vals a b):b=[]↔a=[]:=by
 cases r with
 |nil=>simp
 |cons _ _=>simp
theorem KI:OpR X (eo .Add) (Ej X.K):=by
 rintro r s t H x y v u Q I g h ⟨a,b,o,p,rfl,rfl,i,j,k,e,l,m⟩
 cases g;cases h;obtain⟨n,d,p1,_⟩:=I.tuple i;obtain⟨f,c,p2,_⟩:=I.tuple j;refine HT.cat_tup p1 p2 (λz=>k (d.gS.mp z)) (λz=>⟨.ref a,H,I,rfl,l (c.gS.mp z)⟩) (λz=>?_) (by rw[<-d.length,<-c.length];exact e);refine⟨.ref s.heap.objs.size,_,I.laid (λb ob q=>af _ q) (ag _) ?_,rfl,m (λw=>z (c.gS.mpr w)) _ (I.hok.fresh (ag _))⟩;exact⟨by rw[ax];exact e,_,d.append c,hY.new _ _⟩
end
def kB (n:Nat)(i:Int):Option Nat:=if 0<=i then(if i<n then some i.toNat else none)else if -(n:Int)<=i then some (i+n).toNat else none
def cK {α:Type}(xs:List α)(i:Int):Option α:=(kB xs.length i).bind λj=>xs[j]?
theorem Ek (h:kB n i=some j):seqIndex? i n=some j/\j<n/\-(n:Int)<=i/\i<n:=by
 unfold kB at h;by_cases h0:0<=i
 ·rw[qe h0]at h;by_cases a:i<n
  ·rw[qe a]at h;have e:=qg h;exact⟨by rw[py h0 a,e],by omega,by omega,a⟩
  ·rw[qf a]at h;cases h
 ·rw[qf h0]at h;by_cases a:-(n:Int)<=i
  ·rw[qe a]at h;have e:=qg h;exact⟨by rw[o6 (by omega) a,e],by omega,a,by omega⟩
  ·rw[qf a]at h;cases h
theorem zQ (h:cK a i=some v):∃j,seqIndex? i a.length=some j/\a[j]?=some v/\j<a.length/\-(a.length:Int)<=i/\i<a.length:=by
 unfold cK at h;cases e:kB a.length i with
 |none=>rw[e]at h;cases h
 |some j=>rw[e]at h;obtain⟨b,c,d,f⟩:=Ek e;exact⟨j,b,h,c,d,f⟩
def El (b:Expr):Prop:=∀o i,subscripted b false o i=operate [o,i] (o0 o i)
def lJ (X:Cx)(r:R2):Prop:=∀(value slice:Expr) (pins:List (Addr×Obj)) (s:aw) (σ:St) (H:Hp) (x y:V) (v u:Value) (Q:VK),Inv X pins σ H s->RelV x v->RelV y u->r x y H Q->subscripted slice false v u=operate [v,u] (o0 v u)->wpAny (model X.prog X.w) X.A (subscriptTail value slice v u) (EP X pins σ Q) X.xe s
def MtR (X:Cx)(id:String)(r:V->List V->Hp->VK->Prop):Prop:=∀(pins:List (Addr×Obj)) (s:aw) (σ:St) (H:Hp) (x:V) (xs:List V) (v:Value) (us:List Value) (Q:VK),Inv X pins σ H s->RelV x v->Vals xs us->r x xs H Q->wpAny (model X.prog X.w) X.A (call (.builtin id) (v::us)) (EP X pins σ Q) X.xe s
section
variable {X:Cx}
theorem lJ.or (h:lJ X r)(e:lJ X f):lJ X (λx y H Q=>r x y H Q\/f x y H Q):=by
 intro a b g s i H x y v u Q I c d q hs;rcases q with q|q
 ·exact h a b g s i H x y v u Q I c d q hs
 ·exact e a b g s i H x y v u Q I c d q hs
theorem Em (c:lJ X r)(d:PE X a m)(e:PE X b n)(hs:El b):PE X (.Subscript a b o) (lH r m n):=by intro l s p H Q I h;exact Subscript_ (binT d e I h λv u f x y g i j k q=>c a b l f p g x y v u Q i j k q (hs _ _))
def uF (K:W.Frag):R2:=λx y H Q=>∃p xs i v,x=.ref p/\y=.int i/\SqL K H p xs/\cK xs i=some v/\Q v H
def uG (K:W.Frag):R2:=λx y H Q=>∃p xs i v,x=.ref p/\y=.int i/\dB K H p xs/\cK xs i=some v/\Q v H
def uH:R2:=λx y H Q=>∃z i c,x=.str z/\y=.int i/\z.length<=av/\cK z.cps.toList i=some c/\Q (.str ⟨#[c]⟩) H
theorem KJ:lJ X (uF X.K):=by
 intro c d J s L H x y v u Q I l m h hs;obtain⟨p,E,i,z,rfl,rfl,n,o,q⟩:=h;cases l;obtain⟨t,rfl⟩:=m;obtain⟨e,r,pl,F⟩:=I.list n;obtain⟨j,b,A,G,B,C⟩:=zQ o;obtain⟨w,k,f⟩:=r.get A;have D:=r.length;have hn:=rg;have a:EP X J L Q w s:=⟨z,H,I,f,q⟩;by_cases h0:0<=i
 ·have g:i.toNat=j:=by
   rw[py h0 C]at b;exact qg b
  exact item_listR pl.isList h0 (by omega) (by rw[g];simpa using k) a hs
 ·have g:(i+(e.toArray.size:Int)).toNat=j:=by
   rw[o6 (by omega) B]at b;rw[bn,<-D];exact qg b
  exact lu pl.isList.typeIs slot_list_getitem.lookup (wpAny_getItem_list_neg pl.isList (by omega) (by rw[bn]<;>omega) (by omega) (by rw[g];simpa using k) ⟨rfl,a⟩) hs
theorem KN:lJ X (uG X.K):=by intro a b E s F H x y v u Q I d e h hs;obtain⟨p,o,i,z,rfl,rfl,f,g,q⟩:=h;cases d;obtain⟨t,rfl⟩:=e;obtain⟨k,r,pl,A⟩:=I.tuple f;obtain⟨j,l,m,B,C,D⟩:=zQ g;obtain⟨w,n,c⟩:=r.get m;have hn:=rg;exact lu pl.typeIs slot_tuple_getitem.lookup (getItem_tuple pl (by omega) (by omega) (by rw[bn,<-r.length];exact l) (by simpa using n) ⟨rfl,z,H,I,c,q⟩) hs
theorem sY:lJ X uH:=by
 intro a b w s A H x y v u Q I e f h hs;obtain⟨z,i,c,rfl,rfl,o,g,q⟩:=h;obtain⟨t,rfl⟩:=e;obtain⟨p,rfl⟩:=f;obtain⟨j,d,k,r,l,m⟩:=zQ g;have n:z.cps.toList.length=z.length:=by simp[Str.length]
 rw[n]at d l m;have hn:=rg;exact tail_any (og s z t) slot_str_getitem.lookup (getItem_str (by rw[ql (by omega),ql (by omega),Bool.or_false]) (by rw[d];simpa using k) ⟨.str ⟨#[c]⟩,H,I.tok _,⟨_,rfl⟩,q⟩) hs
def En (K:W.Frag):R2:=λx y H Q=>uF K x y H Q\/uG K x y H Q\/uH x y H Q
theorem KO:lJ X (En X.K):=KJ.or (KN.or sY)
theorem KP (a:List Value)(n j:Nat)(u:Value):Obj.mapSeq (·.setIfInBounds j u) {cls:=.type "list",data:=.seq a.toArray n}={cls:=.type "list",data:=.seq (a.set j u).toArray n}:=by simp[Obj.mapSeq]
theorem Inv.lst {b:List (Addr×Obj)}{d:St}{H:Hp}{s:aw}{p:Addr}{c:List V}(I:Inv X b d H s)(h:H p=some (.lst c)):
  ∃(a:List Value) (n:Nat),Vals c a/\s.heap.get? p=some {cls:=.type "list",data:=.seq a.toArray n}/\c.length<=av:=by
 obtain⟨z,a,n,r,e⟩:=I.hok p _ h;exact⟨a,n,r,e,z⟩
theorem Inv.lstUpd {a:List Value}(I:Inv X j k H s)(h:H p=some (.lst i))
  (c:s.heap.get? p=some {cls:=.type "list",data:=.seq a.toArray n}) (hf:f {cls:=.type "list",data:=.seq a.toArray n}={cls:=.type "list",data:=.seq kC.toArray n'}) (r:Vals ys kC) (d:ys.length<=av) t:
  Inv X j k (upd H p (.lst ys)) {s with heap:=s.heap.update p f,toks:=t}:=by
 have e:(s.heap.update p f).get? p=some {cls:=.type "list",data:=.seq kC.toArray n'}:=by rw[eh f c (by rw[hf]<;>rfl),hf]
 refine I.write (by rw[h];trivial) (.inl rfl) (λb u g q=>(d6 _ _ (Ne.symm g)).trans q) ⟨_,e⟩ ?_;exact⟨d,kC,n',r,e⟩
def Eo:V->V->V->Hp->(Hp->Prop)->Prop:=λo i v H Q=>∃p xs k j,o=.ref p/\i=.int k/\H p=some (.lst xs)/\kB xs.length k=some j/\Q (upd H p (.lst (xs.set j v)))
theorem set_list:zE X Eo:=by
 rintro D s E H o i v A B u Q I l m w ⟨p,x,k,j,rfl,rfl,e,y,q⟩
 cases l;obtain⟨t,rfl⟩:=m;obtain⟨a,n,r,c,z⟩:=I.lst e;obtain⟨b,C,f,g⟩:=Ek y;have d:=r.length;have hn:=rg;have h:Inv X D E (upd H p (.lst (x.set j v))) {s with heap:=s.heap.update p (Obj.mapSeq (·.setIfInBounds j u))}:=I.lstUpd e c (KP a n j u) (r.set w j) (by rw[c9];exact z) s.toks;by_cases h0:0<=k
 ·have hk:k.toNat=j:=by
   rw[py h0 g]at b;exact qg b
  exact W.ki_setAt c h0 (by omega) (by rw[bn,<-d];exact g) (hk▸⟨_,h,q⟩)
 ·have hk:(k+(a.toArray.size:Int)).toNat=j:=by
   rw[o6 (by omega) f]at b;rw[bn,<-d];exact qg b
  exact W.ki_setBack c (by omega) (by rw[bn,<-d];exact f) (by omega) (hk▸⟨_,h,q⟩)
theorem KQ (a b:Option Int)(n:Nat):(jb a b none n).1=((HT.bE n 0 a:Nat):Int)/\(jb a b none n).2.1=((HT.bE n n b:Nat):Int)/\(jb a b none n).2.2=1:=by
 refine⟨?_,?_,rfl⟩
 ·cases a with
  |none=>simp[jb,HT.bE]
  |some i=>
   simp only[jb,HT.bE,Option.getD_none,show 1>0 by decide,if_true];by_cases h:i<0
   ·simp only[h,if_true]<;>omega
   ·simp only[h,if_false]<;>omega
 ·cases b with
  |none=>simp[jb,HT.bE]
  |some i=>
   simp only[jb,HT.bE,Option.getD_none,show 1>0 by decide,if_true];by_cases h:i<0
   ·simp only[h,if_true]<;>omega
   ·simp only[h,if_false]<;>omega
theorem KR (a:List Value)(e f:Option Int):slicePick a.toArray e f none=((a.drop (HT.bE a.length 0 e)).take (HT.bE a.length a.length f-HT.bE a.length 0 e)).toArray:=by obtain⟨b,c,d⟩:=KQ e f a.toArray.size;unfold slicePick;rw[b,c,d];simp only[mf,pick_run,bn]<;>rfl
def uI (K:W.Frag):V->Option Int->Option Int->Hp->VK->Prop:=λx lo hi H Q=>∃a xs,x=.ref a/\SqL K H a xs/\∀p,H p=none->Q (.ref p) (upd H p (.lst (oJ xs lo hi)))
theorem KS:nM X (uI X.K):=by
 rintro n s p H x v k l m o sl Q I f hs pl g ⟨a,c,rfl,h,q⟩
 cases f;obtain⟨i,r,e,j⟩:=I.list h;have d:=r.length;refine⟨"list",_,slot_list_getitem.lookup,e.isList.typeIs,?_⟩;refine wpAny_getItem_list_slice e.isList hs pl g .none (by simp) ?_ (by rw[bn]<;>omega);rw[KR,<-d];refine⟨.ref s.heap.objs.size,_,I.laid (λb ob q=>af _ q) (ag _) ?_,rfl,q _ (I.hok.fresh (ag _))⟩;exact⟨bp (Ei c m o) j,_,0,(r.drop (HT.bE c.length 0 m)).take (HT.bE c.length c.length o-HT.bE c.length 0 m),az _ rfl⟩
def qx:V->Bool
 |.non=>true
 |.bl _=>true
 |.int _=>true
 |.str _=>true
 |_=>false
def qy:V->V->Bool
 |.non,.non=>true
 |.bl a,.bl b=>a==b
 |.bl a,.int b=>(if a then 1 else 0)==b
 |.int a,.bl b=>a==(if b then 1 else 0)
 |.int a,.int b=>a==b
 |.str a,.str b=>a==b
 |_,_=>false
theorem KU (e:RelV y u)(c:RelV x v)(f:qx y=true)(fx:qx x=true):SeqAt.EqAt A s u v (qy y x):=by
 cases y with
 |non=>
  cases e;cases x with
  |non=>cases c;exact SeqAt.EqAt.same _
  |bl b=>cases c;exact SeqAt.EqAt.none_bool b
  |int b=>obtain⟨t,rfl⟩:=c;exact SeqAt.EqAt.none_int b t
  |str b=>obtain⟨t,rfl⟩:=c;exact SeqAt.EqAt.none_str b t
  |_=>exact absurd fx ca
 |bl a=>
  cases e;cases x with
  |non=>cases c;exact SeqAt.EqAt.bool_none a
  |bl b=>cases c;exact SeqAt.EqAt.bool_bool a b
  |int b=>obtain⟨t,rfl⟩:=c;exact SeqAt.EqAt.bool_int a b t
  |str b=>obtain⟨t,rfl⟩:=c;exact SeqAt.EqAt.bool_str a b t
  |_=>exact absurd fx ca
 |int a=>
  obtain⟨d,rfl⟩:=e;cases x with
  |non=>cases c;exact SeqAt.EqAt.int_none a d
  |bl b=>cases c;exact SeqAt.EqAt.int_bool a d b
  |int b=>obtain⟨t,rfl⟩:=c;exact SeqAt.EqAt.int_int a d b t
  |str b=>obtain⟨t,rfl⟩:=c;exact SeqAt.EqAt.int_str a d b t
  |_=>exact absurd fx ca
 |str a=>
  obtain⟨d,rfl⟩:=e;cases x with
  |non=>cases c;exact SeqAt.EqAt.str_none a d
  |bl b=>cases c;exact SeqAt.EqAt.str_bool a d b
  |int b=>obtain⟨t,rfl⟩:=c;exact SeqAt.EqAt.str_int a d b t
  |str b=>obtain⟨t,rfl⟩:=c;exact SeqAt.EqAt.str_str a d b t
  |_=>exact absurd fx ca
 |_=>exact absurd f ca
def iY (x:V)(u:Value):Bool:=match u with
 |.none=>qy .non x
 |.bool b=>qy (.bl b) x
 |.int i _=>qy (.int i) x
 |.str z _=>qy (.str z) x
 |_=>false
theorem Ep (r:RelV y u)(f:qx y=true):iY x u=qy y x:=by
 cases y with
 |non=>cases r;rfl
 |bl b=>cases r;rfl
 |int i=>obtain⟨t,rfl⟩:=r;rfl
 |str z=>obtain⟨t,rfl⟩:=r;rfl
 |_=>exact absurd f ca
theorem uJ:∀{a:List V} {b:List Value},Vals a b->a.all qx=true->b.any (iY x)=a.any λy=>qy y x
 |_,_,.nil,_=>rfl
 |y::a,u::b,.cons r t,f=>by rw[cj,au]at f;rw[i5,i5,Ep r f.1,uJ t f.2]
theorem uK (b:RelV x v)(fx:qx x=true):∀{a:List V} {d:List Value},Vals a d->a.all qx=true->∀u∈d,SeqAt.EqAt A s u v (iY x u)
 |_,_,.nil,_=>λu hu=>by cases hu
 |y::a,u::d,.cons r t,f=>λc hu=>by
  rw[cj,au]at f;rcases aq.mp hu with rfl|hu
  ·rw[Ep r f.1];exact KU r b f.1 fx
  ·exact uK b fx t f.2 c hu
def Er (x:V)(xs:List V):Bool:=xs.any λy=>qy y x
def zR (K:W.Frag)(neg:Bool):R2:=λx y H Q=>∃p xs,y=.ref p/\(SqL K H p xs\/dB K H p xs)/\qx x=true/\xs.all qx=true/\Q (.bl (if neg then !Er x xs else Er x xs)) H
theorem KW:OpR X (cf .In) (zR X.K false):=by
 rintro h s i H x y v u Q I d e ⟨p,g,rfl,b,fx,fs,q⟩
 cases e;rcases b with b|b
 ·obtain⟨a,r,pl,f⟩:=I.list b;refine SeqAt.in_listAt (iY x) pl.isList (λw c=>uK d fx r fs w (by simpa using c)) ⟨.bl _,H,I,rfl,?_⟩;rw[show a.toArray.any (iY x)=a.any (iY x) by simp,uJ r fs];exact q
 ·obtain⟨a,r,pl,f⟩:=I.tuple b;refine SeqAt.in_tupleAt (iY x) pl (λw c=>uK d fx r fs w (by simpa using c)) ⟨.bl _,H,I,rfl,?_⟩;rw[show a.toArray.any (iY x)=a.any (iY x) by simp,uJ r fs];exact q
theorem KY:OpR X (cf .NotIn) (zR X.K true):=by
 rintro h s i H x y v u Q I d e ⟨p,g,rfl,b,fx,fs,q⟩
 cases e;rcases b with b|b
 ·obtain⟨a,r,pl,f⟩:=I.list b;refine SeqAt.notIn_listAt (iY x) pl.isList (λw c=>uK d fx r fs w (by simpa using c)) ⟨.bl _,H,I,rfl,?_⟩;rw[show a.toArray.any (iY x)=a.any (iY x) by simp,uJ r fs];exact q
 ·obtain⟨a,r,pl,f⟩:=I.tuple b;refine SeqAt.notIn_tupleAt (iY x) pl (λw c=>uK d fx r fs w (by simpa using c)) ⟨.bl _,H,I,rfl,?_⟩;rw[show a.toArray.any (iY x)=a.any (iY x) by simp,uJ r fs];exact q
theorem KZ:OpR X (cf .NotIn) (λx y H Q=>∃i j,x=.str i/\y=.str j/\Q (.bl (!(!(d0 j i 0 j.length 1).isEmpty))) H):=by
 rintro d s e H x y v u Q I a b ⟨i,j,rfl,rfl,q⟩
 obtain⟨t,rfl⟩:=a;obtain⟨c,rfl⟩:=b;exact notIn_str ⟨.bl _,H,I,rfl,q⟩
theorem K0:CallR X (.builtin "len") (λf H Q=>∃p b,f=[.ref p]/\(SqL X.K H p b\/dB X.K H p b)/\Q (.int b.length) H):=by
 rintro h s i H f j Q I r ⟨p,b,rfl,c,q⟩
 obtain⟨u,rfl,rfl⟩:=vals1 r;have hn:=rg;rcases c with c|c
 ·obtain⟨d,e,pl,g⟩:=I.list c;have a:=e.length;exact Calls.call_len_list pl.isList (by simp<;>omega) ⟨.int b.length,H,I.tok _,⟨s.toks+1,by rw[bn,a]⟩,q⟩
 ·obtain⟨d,e,pl,g⟩:=I.tuple c;have a:=e.length;exact len_tuple pl (by simp<;>omega) ⟨.int b.length,H,I.tok _,⟨s.toks+1,by rw[bn,a]⟩,q⟩
theorem K2:CallR X (.builtin "len") (λa H Q=>∃z,a=[.str z]/\z.length<=av/\Q (.int z.length) H):=by
 rintro c s d H a e Q I r ⟨z,rfl,b,q⟩
 obtain⟨u,rfl,t,rfl⟩:=vals1 r;have hn:=rg;exact len_str (by omega) ⟨.int z.length,H,I.tok _,⟨_,rfl⟩,q⟩
theorem CallR.or (h:CallR X f r)(b:CallR X f c):CallR X f (λa H Q=>r a H Q\/c a H Q):=by
 intro d s e H a g Q I rs q;rcases q with q|q
 ·exact h d s e H a g Q I rs q
 ·exact b d s e H a g Q I rs q
theorem K3:CallR X (.type "tuple") (λi H Q=>∃p c,i=[.ref p]/\((SqL X.K H p c/\∀l,H l=none->Q (.ref l) (upd H l (.tup c)))\/(dB X.K H p c/\Q (.ref p) H))):=by
 rintro t s v H i w Q I r ⟨p,c,rfl,h⟩
 obtain⟨u,rfl,rfl⟩:=vals1 r;rcases h with⟨f,q⟩|⟨f,q⟩
 ·obtain⟨a,g,pl,j⟩:=I.list f;have k:=g.length;refine call_tuple_list pl.isList (λd kp=>?_) (by simp<;>omega);have m:Inv X t v H {s with heap:=d}:=I.kept kp;have n:Inv X t v (upd H d.objs.size (.tup c)) {s with heap:=d.push {cls:=.type "tuple",data:=.seq a.toArray}}:=m.laid (λb o e=>af _ e) (ag _) (⟨j,a,g,hY.new _ _⟩);exact⟨.ref d.objs.size,_,n,rfl,q _ (m.hok.fresh (ag _))⟩
 ·obtain⟨a,g,pl,j⟩:=I.tuple f;exact call_tuple_same pl ⟨.ref p,H,I,rfl,q⟩
def tyV (K:W.Frag)(T:String)(x:V)(H:Hp):Prop:=match x with
 |.str _=>T="str"
 |.int _=>T="int"
 |.ref p=>(T="list"/\∃xs,SqL K H p xs)\/(T="tuple"/\∃o,K.lookup p=some o/\o.cls=.type "tuple"/\o.dict=none)\/(T="dict"/\((∃aW,H p=some (.dK aW))\/∃aW,H p=some (.dT aW)))\/(T="set"/\∃S n,H p=some (.set S n))
 |_=>False
theorem zj4 (I:Inv X k l H s)(r:RelV x v)(ty:tyV X.K T x H):
  s.TypeIs v T/\∀a,v=.ref a->∃ob,s.heap.get? a=some ob/\ob.dict=none:=by
 cases x with
 |str z=>obtain⟨t,rfl⟩:=r;cases ty;exact⟨og s z t,λ_ e=>nomatch e⟩
 |int i=>obtain⟨t,rfl⟩:=r;cases ty;exact⟨typeIs_int s i t,λ_ e=>nomatch e⟩
 |ref p=>
  cases r;rcases ty with⟨rfl,j,f⟩|⟨rfl,o,hk,g,hd⟩|⟨rfl,hk⟩|⟨rfl,S,n,hk⟩
  ·obtain⟨h,_,pl,_⟩:=I.list f;refine⟨pl.isList.typeIs,λa e=>?_⟩;cases e;obtain⟨o,n,e,c,hd,_⟩:=pl;exact⟨o,e,hd⟩
  ·refine⟨⟨o,I.cZ p o hk,g⟩,λa e=>?_⟩;cases e;exact⟨o,I.cZ _ o hk,hd⟩
  ·have z:∃o,s.heap.get? p=some o/\o.ExactDict:=by
    rcases hk with⟨b,hk⟩|⟨b,hk⟩
    ·obtain⟨_,_,_,_,o,_,_,e,ex,_⟩:=I.hok p _ hk;exact⟨o,e,ex⟩
    ·obtain⟨_,_,_,_,o,_,_,e,ex,_⟩:=I.hok p _ hk;exact⟨o,e,ex⟩
   obtain⟨o,e,ex⟩:=z;refine⟨⟨o,e,ex.1⟩,λa d=>?_⟩;cases d;exact⟨o,e,ex.2.1⟩
  ·obtain⟨o,_,_,_,e,ex,_⟩:=I.hok p _ hk;refine⟨⟨o,e,ex.1⟩,λa d=>?_⟩;cases d;exact⟨o,e,ex.2.1⟩
 |_=>exact False.elim ty
def rA (K:W.Frag)(T:String)(r:V->List V->Hp->VK->Prop)(to:TE):TE:=λσ H Q=>to σ H λx H1=>tyV K T x H1/\r x [] H1 Q
def uL (K:W.Frag)(T:String)(r:V->List V->Hp->VK->Prop)(to:TE)(t:TA):TE:=λσ H Q=>to σ H λx H1=>tyV K T x H1/\t σ H1 λxs H2=>r x xs H2 Q
variable {o e:Expr}{es:List Expr}{to:TE}{t:TA}{name:Str}{apos bV:Pos}{T id:String}{r:V->List V->Hp->VK->Prop}
theorem zdj (f:p9 T)(slot:Slot T name id)(c:qd (.builtin id)=pure (.type "method_descriptor"))(hm:MtR X id r)(g:PE X o to)
  (a:gv o name X.env (eval o X.env)=eval o X.env:=by rfl) (b:(apos.endLine==bV.line)=true:=by rfl):PE X (.Call (.Attribute o name apos) [] [] bV) (rA X.K T r to):=by
 intro l s m H Q I h;refine wpAny_Call_method0_late a b (aM (g l s m H _ I h) λv s1 ⟨x,n,d,e,ty,i⟩=>?_);obtain⟨j,k⟩:=zj4 d e ty;exact⟨T,id,f,slot,c,j,k,jj rfl (PySem.evalArgs_none (hm l s1 m n x [] v [] Q d e .nil i))⟩
theorem zb1 (k:p9 T)(slot:Slot T name id)(f:qd (.builtin id)=pure (.type "method_descriptor"))(hm:MtR X id r)(l:PE X o to)(m:PA X (e::es) t)
  (b:gv o name X.env (eval o X.env)=eval o X.env:=by rfl)
  (d:((gy bV (cn (e::es) X.env)).all (λx=> !x.1)&&(o4 bV (ku [] X.env)).all (λx=>x.1.isSome)
   &&decide ((e::es).length+([]:List lr).length+(if([]:List lr).isEmpty then 0 else 1)<30))=true:=by rfl)
  (c:(apos.endLine==bV.line)=true:=by rfl) (hs:cn (e::es) X.env=(false,eval e X.env)::cn es X.env:=by rfl) (a:(gy bV (cn es X.env)).any (·.1)=false:=by rfl):
  PE X (.Call (.Attribute o name apos) (e::es) [] bV) (uL X.K T r to t):=by
 intro B s C H Q I h;refine wpAny_Call_method_late b d c rfl (aM (l B s C H _ I h) λv s1 ⟨x,D,g,i,ty,n⟩=>?_);obtain⟨p,q⟩:=zj4 g i ty;refine⟨T,id,k,slot,f,p,q,?_⟩;have j:=m bV B s1 C D _ g n;rw[hs]at j ⊢;refine jj (by show(false||(gy bV (cn es X.env)).any (·.1))=false;rw[a]<;>rfl) (jw ?_);exact aM j λE u ⟨F,w,y,z,A⟩=>hm B u C w x F v E Q y i z A
end
def Es (X:Cx)(id:String)(r:V->List V->Hp->VK->Prop):Prop:=∀(pins:List (Addr×Obj)) (s:aw) (σ:St) (H:Hp) (x:V) (xs:List V) (v:Value) (us:List Value) (Q:VK),Inv X pins σ H s->RelV x v->Vals xs us->r x xs H Q->wpAny (model X.prog X.w) X.A (call (.builtin id) (v::us)) (EP X pins σ Q) X.xe s
theorem Vals.one (h:Vals [x] a):∃u,a=[u]/\RelV x u:=by
 cases h with
 |cons r h=>cases h;exact⟨_,rfl,r⟩
theorem Vals.two (h:Vals [x,y] a):∃u v,a=[u,v]/\RelV x u/\RelV y v:=by
 cases h with
 |cons r h=>cases h with
  |cons q h=>cases h;exact⟨_,_,rfl,r,q⟩
theorem Vals.zero:∀{a:List Value},Vals [] a->a=[]
 |_,.nil=>rfl
theorem Vals.dropLast (h:Vals a d):Vals a.dropLast d.dropLast:=by
 induction h with
 |nil=>exact .nil
 |cons r t b=>
  cases t with
  |nil=>exact .nil
  |cons q c=>exact .cons r b
theorem K4 {c:Type}(l:List c):l.eraseIdx (l.length-1)=l.dropLast:=by grind
theorem Inv.lset {a:List Value}(I:Inv X j k H s)(b:H l=some (.lst h))
  (e:s.heap.get? l=some {cls:=.type "list",data:=.seq a.toArray n}) (hf:f a.toArray=kC.toArray) (c:Vals ys kC) (d:ys.length<=av):
  Inv X j k (upd H l (.lst ys)) {s with heap:=s.heap.update l (Obj.mapSeq f),toks:=t'}:=by
 have q:=PySem.IsL.update e f;rw[hf]at q;refine I.write (b▸trivial) (.inl rfl) (λi u g hu=>(d6 s.heap (Obj.mapSeq f) (Ne.symm g)).trans hu) ⟨_,q⟩ ?_;exact⟨d,kC,_,c,q⟩
theorem Inv.lnew (I:Inv X e f H s)(c:Vals b a)(d:b.length<=av):
  Inv X e f (upd H s.heap.objs.size (.lst b)) {s with heap:=s.heap.push {cls:=.type "list",data:=.seq a.toArray},toks:=t'}:=
 I.laid (λ_ _ q=>af _ q) (ag _) ⟨d,a,0,c,az _ rfl⟩
theorem Inv.fresh (I:Inv X a b H s):H s.heap.objs.size=none:=I.hok.fresh (ag _)
theorem Inv.kE (I:Inv X d f H s)(c:H l=some (.lst b)):b.length<=av/\∃(a:List Value) (n:Nat),Vals b a/\b.length=a.length/\s.heap.get? l=some {cls:=.type "list",data:=.seq a.toArray n}:=by obtain⟨z,a,n,r,e⟩:=I.hok l _ c;exact⟨z,a,n,r,r.length,e⟩
def xg:V->List V->Hp->VK->Prop:=λx vs H Q=>∃l xs y,x=.ref l/\vs=[y]/\H l=some (.lst xs)/\xs.length<av/\Q .non (upd H l (.lst (xs++[y])))
theorem xh:Es X "list.append" xg:=by
 rintro j s k H x m v o Q I c d ⟨l,g,y,rfl,rfl,b,h,q⟩
 cases c;obtain⟨u,rfl,f⟩:=d.one;obtain⟨z,a,n,r,i,e⟩:=I.kE b;refine jp F.slot_list_append ⟨_,e,rfl⟩ F.entry_list_append (F.args_list_append_2 _ _) (PySem.list_append l a.toArray n u (by grind)) ⟨e,?_⟩;refine⟨.non,_,I.lset b e (by simp) (r.append (.cons f .nil)) ?_,rfl,q⟩;rw[ax,List.length_singleton];omega
def zS:V->List V->Hp->VK->Prop:=λx vs H Q=>∃l xs y,x=.ref l/\vs=[]/\H l=some (.lst xs)/\xs[xs.length-1]?=some y/\Q y (upd H l (.lst xs.dropLast))
theorem Et:Es X "list.pop" zS:=by
 rintro m s o H x p v t Q I f g ⟨l,k,y,rfl,rfl,d,h,q⟩
 cases f;have b:=g.zero;subst b;obtain⟨z,a,n,r,i,e⟩:=I.kE d;obtain⟨u,hu,j⟩:=r.get h;have c:a.toArray[a.toArray.size-1]?=some u:=by show a.toArray[a.length-1]?=some u;rw[<-l6,<-i];exact hu
 refine jp F.slot_list_pop ⟨_,e,rfl⟩ F.entry_list_pop (F.args_list_pop_1 _) (MeetsSeq.list_pop_last l a.toArray n u c (by grind)) ⟨e,?_⟩;refine⟨y,_,I.lset d e ?_ r.dropLast ?_,j,q⟩
 ·show a.toArray.eraseIdxIfInBounds (a.toArray.size-1)=a.dropLast.toArray;rw[bn,List.eraseIdxIfInBounds_toArray,K4]
 ·rw[mh];omega
def uM:R2:=λx y H Q=>∃l b xs zs,x=.ref l/\y=.ref b/\H l=some (.lst xs)/\H b=some (.lst zs)/\xs.length+zs.length<=av/\∀p,H p=none->Q (.ref p) (upd H p (.lst (xs++zs)))
theorem K5:OpR X (eo .Add) uM:=by
 rintro C s D H x y v u Q I d f ⟨l,b,o,p,rfl,rfl,g,h,t,q⟩
 cases d;cases f;obtain⟨z,c,n,r,w,e⟩:=I.kE g;obtain⟨A,a,B,i,j,k⟩:=I.kE h;refine PySem.P.add_list e k ?_ (by grind);have m:c.toArray++a.toArray=(c++a).toArray:=by simp
 rw[m];exact⟨.ref _,_,I.lnew (r.append i) (by grind),rfl,q _ I.fresh⟩
end L2
namespace Att
open PySem PySem.W PySem.Calls PyProof.Rows
theorem K6:∀ns d,WellAll P h d (ns.map WData.int)->mw d ns:=by
 intro ns
 induction ns with
 |nil=>intro d w;cases w;exact .nil
 |cons n ns c=>
  intro d w;cases w with
  |cons a b=>cases a;exact .cons _ _ (c _ b)
theorem zec {l:OpenLaw}(hn:l.most=some n)
  (b:l.row.toRowW.claim.pre args=true) (i:WellAll P h c args):
  ∃a w ns,c=[Value.ref a]/\args=[WData.list (ns.map WData.int)]/\h.get? a=some {cls:=.type "list",data:=.seq w.toArray}/\mw w ns/\ns.length<=n:=by
 have k:l.pre.holds [] {args:=args}=true:=(pre_splitW b).2;obtain⟨d,r,rfl,m,o⟩:=hasAllW_cons ((pre_splitW b).1);obtain rfl:=hasAllW_nil o;obtain⟨v,rfl,p⟩:=hasW_list m;obtain⟨ns,rfl⟩:=items_int p
 have e:ns.length<=n:=by
  have g:(WTm.not (.lt (.lit (.int n)) (.len (.arg 0)))).holds [] {args:=[.list (ns.map .int)]}=true:=by have g:=(holds_andW k).1;rw[hn]at g;exact g
  have j:=condW_of g (w_not (w_lt w_lit (w_len_list (w_arg rfl))));refine Nat.le_of_not_lt λq=>?_
  first
   |(rw[qk q']at j;exact absurd j dc)
   |(simp at j;omega)
 cases i with
 |cons s t=>
  cases t;cases s with
  |list u f=>exact⟨_,_,ns,rfl,rfl,u,K6 ns _ f,e⟩
theorem K7 (l:OpenLaw)(args:List WData):l.row.toRowW.claim.post args (.bool true) args=true:=
 postW_of
  (show WShape.has [] (.bool true) .bool=true by first|rfl|decide|simp[WShape.has,WShape.arms,WShape.armsAll])
  (show(WTm.eq .res (.lit (.bool true))).value [] {args:=args,res:=some (.bool true),after:=args}=some (.bool (true==true))from w_eq_bool (w_res rfl) w_lit) rfl
theorem attach_call {l:OpenLaw}
  (hn:l.most=some n) (j:d.params.defaults=[])
  (call:∀w s₀ b mg k M o m cd c a L ns,
   Ground q loose [] y w s₀ mg k b.heap->z w b.heap->
   b.heap.get? M=some o->o.data=.func (docDef d.name d.params d.body d.scope m cd c)->b.heap.CodeRec cd d.name->mg d.name=some (.ref M)->
   b.heap.get? a=some {cls:=.type "list",data:=.seq L.toArray}->mw L ns->ns.length<=n->b.gens=#[]->
   jh (model l.prog w) o8 (.call (.ref M) ⟨[.ref a],[]⟩) (λr N=>r=.ok (.ret (.bool true))/\OldK b.heap N.heap/\N.os=b.os/\j5 N.gens) b):
  WalkO q loose y z l.row.toRowW d [] (λf L=>PySem.call f L):=by
 intro w s₀ b mg k G Y M o m cd c A kV B hd p u s C args v K g x D t E;obtain rfl:A=.none:=Dflts.none u j;obtain rfl:kV=.none:=Dflts.noKw u;obtain⟨a,L,ns,rfl,rfl,h,e,i⟩:=zec hn g t;refine enter_call (iw (call w s₀ b mg k M o m cd c a L ns G Y B (fd_plain hd) p s h e i C) λr N F=>?_);obtain⟨rfl,H,I,J⟩:=F;exact⟨.inl ⟨.bool true,.bool true,[],rfl,λ_=>rfl,.bool true,K7 l _,λ_=>⟨List.Pairwise.nil,λ_ hm=>(nomatch hm)⟩⟩,H,I,J⟩
end Att
namespace L2
open PySem PySem.Spec PyProof.Rows
theorem Eu:∀{a:List Value} {ns:List Int},mw a ns->Vals (ns.map V.int) a
 |_,_,.nil=>.nil
 |_,_,.cons n t h=>.cons ⟨t,rfl⟩ (Eu h)
def Only (H:Hp):Prop:=∀b,H b=none\/∃o xs,H b=some (.gO o (.lst xs))
theorem zfv {K:W.Frag}
  (L:K.In c.heap) (l:c.heap.Ns bc mg) (f:c.heap.Ns p6 M) (D:∀x:Str,x≠"__name__"->M x=cq x) (p:c.heap.NoLimit) (T:c.gens=#[])
  (B:c.heap.get? a=some {cls:=.type "list",data:=.seq vs.toArray}) (hi:mw vs ns) (N:ns.length<=av) (U:Room k o8)
  (F:∀base,K.In base->base.Ns bc mg->FnOk P w K mg base CX k fa fd [x] sp) (j:∀s u,ox s fd ⟨[u],[]⟩ [(x,u)])
  (E:∀H,Only H->SqL K H a (ns.map V.int)->sp [.ref a] H (λv _=>v=.bl true) λ_ _ _=>False)
  (G:∀H e Y,CX [] H c (λ_ _ _=>False) e Y->False):
  jh (model P w) o8 (.call (.ref fa) ⟨[.ref a],[]⟩) (λr Y=>r=.ok (.ret (.bool true))/\OldK c.heap Y.heap/\Y.os=c.os/\j5 Y.gens) c:=by
 have O:=Eu hi
 have i:∀H,Only H->SqL K H a (ns.map V.int)->HOk P w H c.heap->(∀b,H b≠none->b=a)->(H a≠none->K.lookup a=none)->
   jh (model P w) o8 (.call (.ref fa) ⟨[.ref a],[]⟩) (λr Y=>r=.ok (.ret (.bool true))/\OldK c.heap Y.heap/\Y.os=c.os/\j5 Y.gens) c:=by
  intro H Q X hok R hK;have lK:∀{b:Addr} {o:Obj},c.heap.get? b=some o->H b=none->(jX c.heap H).get? b=some o:=λe n=>Jv e n
  have I:∀{b:Addr} {o:Obj} {Z:Array DictEntry} {C:Nat},c.heap.get? b=some o->o.data=.dict Z C->H b=none:=λ{b o Z C} e d=>by
   cases q:H b with
   |none=>rfl
   |some u=>have J:=R b (by rw[q];simp);subst J;rw[B]at e;cases e;cases d
  have g:∀{b:Addr} {m:Str->Option Value},c.heap.Ns b m->(jX c.heap H).Ns b m:=λ{b m} ⟨o,Z,C,e,d,r⟩=>⟨o,Z,C,lK e (I e d),d,r⟩
  have t:=λb o e=>lK (L b o e) (by
   cases q:H b with
   |none=>rfl
   |some u=>have J:=R b (by rw[q];simp);subst J;rw[hK (by rw[q];simp)]at e;cases e)
  refine iw ((F _ t (g l)).run o8 [] c H ⟨[.ref a],[]⟩ [.ref a] [.ref a] _ _ U ⟨rfl,⟨t,g l,⟨M,g f,D⟩,let⟨mc,h1,h2⟩:=p;⟨mc,g h1,h2⟩⟩,λb o e=>Jw e,oq (Ju _ _),trivial,λb f=>absurd (show b∈([]:List Addr)from f) (by simp),hok,.of_eq T⟩ (j c (.ref a)) (.cons rfl .nil) (E H Q X)) λr Y h=>?_;cases r with
  |error e=>exact(G H e Y h).elim
  |ok fl=>
   cases fl with
   |next=>exact False.elim h
   |brk=>exact False.elim h
   |cont=>exact False.elim h
   |ret u=>
    obtain⟨v,H',os,bare,un,y,r',rfl⟩:=h;obtain rfl:u=Value.bool true:=r';refine⟨rfl,OldK.of_keep λb o e=>?_,os,bare⟩;cases q:H b with
    |none=>exact un.keep b o e q (by intro z;exact absurd (show b∈([]:List Addr)from z) (by simp)) (by simp)
    |some u=>
     rcases Q b with z|⟨ob,xs,z⟩
     ·rw[q]at z;cases z
     ·have z2:=un.cO b ob _ z;obtain⟨S,_⟩:=hok b _ z;obtain⟨e2,_⟩:=y b _ z2;rw[e]at S;cases S;exact e2
 cases hk:K.lookup a with
 |some o=>have e:=L a o hk;rw[B]at e;cases e;refine i (λ_=>none) (λ_=>.inl rfl) (.inr ⟨_,vs.toArray,_,hk,rfl,rfl,rfl,by rw[bn,hi.length];exact N,by simpa using O⟩) (λb u z=>by have A:none=some u:=z;cases A) (λb z=>absurd rfl z) λz=>absurd rfl z
 |none=>
  refine i (λb=>if b=a then some (.gO {cls:=.type "list",data:=.seq vs.toArray} (.lst (ns.map V.int)))else none) (λb=>?_) (.inl (.inr ⟨{cls:=.type "list",data:=.seq vs.toArray},qe rfl⟩)) (λb u z=>?_) (λb z=>?_) λ_=>hk
  ·by_cases f:b=a
   ·exact .inr ⟨_,_,qe f⟩
   ·exact .inl (qf f)
  ·by_cases f:b=a
   ·have A:=(qe f).symm.trans z;cases A;subst f;exact⟨B,by rw[ak];exact N,vs,_,O,B⟩
   ·have A:=(qf f).symm.trans z;cases A
  ·by_cases f:b=a
   ·exact f
   ·exact absurd (qf f) z
theorem walk_of {l:W.OpenLaw}{K:d9->W.Frag}{Z:World->CXT}{sp:World->Sp}
  (hn:l.most=some n) (p:n<=av) (r:d.params.defaults=[]) (B:Room k o8)
  (C:∀w h,D w h->(K w.params).In h)
  (F:∀w mg U h,(K w.params).In h->h.Ns bc mg->mg d.name=some (.ref U)->∃fd,(∀s u,ox s fd ⟨[u],[]⟩ [(x,u)])/\∀base,(K w.params).In base->base.Ns bc mg->FnOk l.prog w (K w.params) mg base (Z w) k U fd [x] (sp w))
  (t:∀w H a (ns:List Int),ns.length<=n->Only H->SqL (K w.params) H a (ns.map V.int)->sp w [.ref a] H (λv _=>v=.bl true) λ_ _ _=>False)
  (y:∀w H s e X,Z w [] H s (λ_ _ _=>False) e X->False):
  W.WalkO q loose P D l.row.toRowW d [] (λf vs=>PySem.call f vs):=by
 refine Att.attach_call hn r λw s₀ j mg Q U o R cd E a vs ns G Y S hd I z m i c J=>?_;have A:=C w _ Y;obtain⟨fd,L,M⟩:=F w mg U _ A G.T.g z;exact zfv A G.T.g G.T.b G.T.builtins G.T.nolimit J m i (bp c p) B M L (λH N O=>t w H a ns c N O) λH e X=>y w H j e X
def kF (s:Stmt):Arguments:=match s with
 |.FunctionDef _ a _ _ _ _ _ _ _ _=>a
 |_=>{posonlyargs:=[],args:=[],vararg:=none,kwonlyargs:=[],kw_defaults:=[],kwarg:=none,defaults:=[]}
def z0l (s:Stmt):List Stmt:=match s with
 |.FunctionDef _ _ b _ _ _ _ _ _ _=>b
 |_=>[]
def z09 (s:Stmt):Scope:=match s with
 |.FunctionDef _ _ _ _ _ _ sc _ _ _=>sc
 |_=>{kind:=.function,names:=[],isGenerator:=false,isCoroutine:=false}
abbrev nN:CXT:=λ_ _ _ _ _ _=>False
abbrev E0:XK:=λ_ _ _=>False
theorem K8:z2l nN X E0:=λ_ _ _ _ _ _ _ h=>h.elim
structure Fun (K:W.Frag)(x qual:Str)(st:Stmt)(f:Addr)(fd:ef):Prop where
 ex:∃(oc:Value) (od:Option Addr) (kV doc pm:Value) (an:Option Addr) (xj ct:Value) (Ew:Array (Option Value)),fd=W.fnOf x qual (kF st) (z0l st) (z09 st) .none kV doc pm an xj ct/\K.lookup f=some ⟨oc,od,.func fd,Ew⟩/\W.codeIn K xj qual=true
 kp:W.keepIn K (.ref f)=true
section
variable {P:cc}{w:World}{K:W.Frag}{mg:Str->Option Value}{base:Heap}
theorem Fun.ok {st:Stmt}(F:Fun K x b st f fd)(S:FnScope N ps (z09 st))(len:∀vs H Q E,m vs H Q E->vs.length=ps.length)
  (c:∀(a:Value) (A:e9) (outer:List Env) (s:aw) (H:Hp) (vs:List V) (Q:VK) (E:XK),Room k (A.deeper (md b (z09 st) s.heap.objs.size f a))->m vs H Q E->∃t,PSs (iC nN P w K mg base N b (z09 st) f a A outer s H E).ur (z0l st) t/\t {nx:=λ_ n=>Q .non n,rt:=Q} (start N vs) H):FnOk P w K mg base nN (k+1) f fd ps m:=by
 obtain⟨oc,od,kV,g,l,an,a,ct,i,rfl,lk,d⟩:=F.ex;refine zm2 lk d S len λA outer s H vs Q E j e=>?_;obtain⟨t,h,q⟩:=c a A outer s H vs Q E j e;exact⟨t,h.ur,q⟩
theorem Fun.binds {st:Stmt}(F:Fun K x c st f fd)
  (h:∀kV a d an b ct i,i.length=ps.length->p8 (W.fnOf x c (kF st) (z0l st) (z09 st) .none kV a d an b ct) ⟨i,[]⟩=pure (ps.zip i)):Binds K fd ps []:=by
 obtain⟨oc,od,kV,a,d,an,b,ct,e,rfl,lk,g⟩:=F.ex;exact .all (h kV a d an b ct)
theorem zT {st:Stmt}{kV:Value}(l:K.lookup f=some ⟨oc,od,.func (W.fnOf x a (kF st) (z0l st) (z09 st) .none kV d g an b ct),e⟩) (c:W.codeIn K b a=true) (k:W.keepIn K (.ref f)=true):Fun K x a st f (W.fnOf x a (kF st) (z0l st) (z09 st) .none kV d g an b ct):=⟨⟨oc,od,kV,d,g,an,b,ct,e,rfl,l,c⟩,k⟩
end
theorem aX {B:Prop}(h:B):if false=true then A else B:=h
theorem bA {B:Prop}(h:A):if true=true then A else B:=h
def Same (H H':Hp):Prop:=∀b o,H b=some o->H' b=some o
theorem Same.refl (H:Hp):Same H H:=λ_ _ h=>h
theorem Same.trans (a:Same H e)(b:Same e d):Same H d:=λc o h=>b c o (a c o h)
theorem K9:CallR X (.builtin "len") (λc H Q=>∃a b,c=[V.ref a]/\H a=some (.dK b)/\Q (.int b.length) H):=by
 rintro f s g H c h Q I r ⟨a,b,rfl,d,q⟩
 obtain⟨u,rfl,rfl⟩:=vals1 r;exact Km I (.inl d) λt i e=>⟨.int b.length,H,e,⟨t,rfl⟩,q⟩
end L2
set_option maxHeartbeats 5000000
namespace L2
open PySem PySem.Spec PyProof.Rows
def fA (env:Env):List (Str×d5)->List (Str×Addr)->List (Str×Addr)
 | [],cs=>cs
 |(n,k)::r,cs=>fA env r (if(k==.free)=true then(n,(env.cells.lookup n).getD 0)::cs else cs)
theorem Ex:∀(l:List (Str×d5)) (cs:List (Str×Addr)),(∃c,cs.lookup x=some c)->∃c,(fA env l cs).lookup x=some c
 | [],cs,h=>h
 |(n,k)::r,cs,h=>by
  refine Ex r _ ?_;split
  ·by_cases e:(x==n)=true
   ·exact⟨_,by rw[cy,e]⟩
   ·obtain⟨c,a⟩:=h;exact⟨c,by rw[cy,o9.mpr e];exact a⟩
  ·exact h
theorem zU:∀(l:List (Str×d5)) (cs:List (Str×Addr)),l.lookup x=some .free->∃c,(fA env l cs).lookup x=some c
 | [],cs,h=>by simp at h
 |(n,k)::r,cs,h=>by
  rw[cy]at h;cases e:(x==n)with
  |true=>rw[e]at h;have hk:=qg h;subst hk;exact Ex r _ ⟨_,by rw[qe (by rfl),cy,e]⟩
  |false=>rw[e]at h;exact zU r _ h
theorem zd2:∀(l:List (Str×d5)) (cs:List (Str×Addr)),(∀y∈l,y.2=.free->∃c,env.cells.lookup y.1=some c)->(∀x c,cs.lookup x=some c->env.cells.lookup x=some c)->
  ∀x c,(fA env l cs).lookup x=some c->env.cells.lookup x=some c
 | [],cs,_,h=>h
 |(n,k)::r,cs,g,h=>by
  refine zd2 r _ (λy i=>g y (ai _ i)) λx c a=>?_;by_cases hk:(k==NameKind.free)=true
  ·rw[qe hk,cy]at a;cases e:(x==n)with
   |true=>
    rw[e]at a;have f:x=n:=by simpa using e
    obtain⟨d,hd⟩:=g (n,k) aj (by simpa using hk);have b:=hd;rw[b]at a;rw[f,b];exact a
   |false=>rw[e]at a;exact h x c a
  ·rw[qf hk]at a;exact h x c a
theorem Ey (h:∀y∈scope.names,y.2=.free->∃c,env.cells.lookup y.1=some c):closureFor scope env=pure (fA env scope.names []):=by
 have go:∀(l:List (Str×d5)) (cs:List (Str×Addr)),(∀y∈l,y.2=.free->∃c,env.cells.lookup y.1=some c)->
   (forIn l cs λ(x:Str×d5) (r:List (Str×Addr))=>if(x.2==NameKind.free)=true then(do let a <-cellOf env x.1;pure (ForInStep.yield ((x.1,a)::r)):Sem _)else pure (ForInStep.yield r))=(pure (fA env l cs):Sem _):=by
  intro l
  induction l with
  |nil=>intro cs _;rfl
  |cons y r g=>
   intro cs d;obtain⟨n,k⟩:=y;rw[List.forIn_cons];unfold fA;by_cases hk:(k==NameKind.free)=true
   ·obtain⟨c,i⟩:=d (n,k) aj (by simpa using hk);have b:=i;have e:cellOf env n=pure c:=by unfold cellOf;rw[b]
    rw[qe hk,qe hk];rw[e,b];exact g ((n,c)::cs) λy f=>d y (ai _ f)
   ·rw[qf hk,qf hk];exact g cs λy f=>d y (ai _ f)
 have:=go scope.names [] h
 first
  |exact this
  |(show(forIn scope.names [] _>>=λr=>pure r)=_;rw[show(forIn scope.names ([]:List (Str×Addr)) _:Sem _)=_ from this];rfl)
theorem zax (f:∀y∈scope.names,y.2≠.cell):
  (relabel scope env).names.lookup x=some .cell\/(relabel scope env).names.lookup x=some .free->scope.names.lookup x=some .free:=by
 have go:∀(l:List (Str×d5)),(∀y∈l,y.2≠ .cell)->∀k,(k=NameKind.cell\/k=NameKind.free)->
   (l.map λ(n,k)=>if(k==.free&&env.scope.kind==.function&&env.kindOf n==some .cell)then(n,NameKind.cell)else(n,k)).lookup x=some k->l.lookup x=some .free:=by
  intro l
  induction l with
  |nil=>intro _ k _ h;simp at h
  |cons y r g=>
   intro b k hk h;obtain⟨n,q⟩:=y;rw[br]at h;rw[cy];by_cases c:(q==NameKind.free&&env.scope.kind==.function&&env.kindOf n==some .cell)=true
   ·have a:q=.free:=by
     simp at c;simpa using c.1.1
    dsimp only at h
    rw[qe c,cy]at h;cases e:(x==n)with
    |true=>rw[a]
    |false=>rw[e]at h;exact g (λy d=>b y (ai _ d)) k hk h
   ·dsimp only at h
    rw[qf c,cy]at h;cases e:(x==n)with
    |true=>
     rw[e]at h;have a:=qg h;rcases hk with hk|hk
     ·exact absurd (a.trans hk) (b (n,q) aj)
     ·show some q=some .free;rw[a,hk]
    |false=>rw[e]at h;exact g (λy d=>b y (ai _ d)) k hk h
 rintro(h|h)
 ·exact go scope.names f .cell (.inl rfl) h
 ·exact go scope.names f .free (.inr rfl) h
def blk (X:Cx)(scope:Scope)(N':List Str)(C:Addr)(fp:List Addr)(s:aw)(H:Hp):Cx:={X with N:=N',s₀:=s,hZ:=H,env:=compEnvC scope (fA X.env scope.names []) C X.env,outer:=X.stack,stack:=X.stack,ex:=fp,fn:=λ_=>false,xe:=λ_ _=>False,fx:=none}
structure BlkScope (X:Cx)(scope:Scope)(N':List Str)(nt:Nat)(js:List Nat):Prop where
 kind:scope.kind=.function
 mE:∀y∈scope.names,y.2≠.cell
 names:∀y∈scope.names,y.2=.local->scope.names.lookup y.1=some .local
 frees:∀y∈scope.names,y.2=.free->X.env.scope.names.lookup y.1=some .cell\/X.env.scope.names.lookup y.1=some .free
 nd:N'.Nodup
 len:N'.length=nt+js.length
 pl:∀(i j:Nat),js[i]?=some j->N'[nt+i]?=X.N[j]?/\∃x,X.N[j]?=some x/\scope.names.lookup x=some .free
def rB (NX:List Str)(Ez scope:Scope)(N':List Str)(nt:Nat)(js:List Nat):Bool:=
 (scope.kind==.function)&&scope.names.all (λy=>!(y.2==.cell))&&scope.names.all (λy=>!(y.2==.local)||(scope.names.lookup y.1==some .local))&&
 scope.names.all (λy=>!(y.2==.free)||(Ez.names.lookup y.1==some .cell)||(Ez.names.lookup y.1==some .free))&&decide N'.Nodup&&(N'.length==nt+js.length)&&
 (N'.drop nt==js.map λj=>NX.getD j "")&&js.all (λj=>decide (j<NX.length)&&(scope.names.lookup (NX.getD j "")==some .free))
theorem K' (hN:X.N=f)(hs:X.env.scope=c)(h:rB f c scope k l m=true):BlkScope X scope k l m:=by
 unfold rB at h;simp only[au,bj,decide_eq_true_eq,beq_iff_eq,Bool.or_eq_true,kx,beq_eq_false_iff_ne]at h;obtain⟨⟨⟨⟨⟨⟨⟨n,o⟩,p⟩,q⟩,r⟩,s⟩,t⟩,u⟩:=h;refine⟨n,o,λy d e=>(p y d).resolve_left (λz=>z e),λy d e=>?_,r,s,λi j g=>?_⟩
 ·rw[hs];rcases q y d with(z|z)|z
  ·exact absurd e z
  ·exact .inl z
  ·exact .inr z
 ·obtain⟨a,b⟩:=u j (de g);have e:X.N[j]?=some (f.getD j ""):=by rw[hN,bo a,ao,bo a];rfl
  refine⟨?_,_,e,b⟩;rw[e,<-oh,t,bu,g];rfl
def gA (nt:Nat)(js:List Nat)(σ:St):St:=bd nt none++js.map λj=>σ.getD j none
theorem zl3 (B:BlkScope X scope P F Q)(I:Inv X pins σ H s)
  (w:∀b∈fp,FpOk X pins H b) (R:∀b∈fp,∃o,s.heap.get? b=some o)
  (k:∀b o,s.heap.get? b=some o->N.get? b=some o) (hn:N.Ns s.heap.objs.size m1):
  Inv (blk X scope P s.heap.objs.size fp s H) pins (gA F Q σ) H {s with heap:=N,toks:=t1}:=by
 have S:∀y∈scope.names,y.2=.free->∃c,X.env.cells.lookup y.1=some c:=λy O hf=>I.ok.has y.1 (B.frees y O hf);have g:∀x c,(fA X.env scope.names []).lookup x=some c->X.env.cells.lookup x=some c:=zd2 _ _ S (λx c h=>by simp at h);have lt:∀b o,s.heap.get? b=some o->b≠s.heap.objs.size:=λb o e=>b9 (bb e);have hf:=I.hok.fresh (ag _);refine⟨⟨I.ok.mod,B.kind,I.ok.glob,I.ok.blt,ag _,λx y c N h2=>I.ok.inj x y c (g x c N) (g y c h2),λx T=>zU _ _ (zax B.mE T),λx c h=>(by cases h),I.ok.hd,I.ok.frames,.inl rfl,λb D=>?_,I.bs,bp I.ok.lF I.sz,λb o e D=>?_,λb D T=>?_,I.stack,I.gQ,λ_ _ z=>by cases z⟩,rfl,I.bare,Un.kept k,⟨m1,hn,λi x v e1 A e3=>?_⟩,λx c e=>?_,hf,λx c e=>I.bH x c (g x c e),λp hp=>?_,I.hok.kept k,?_,λ_ _ z=>by cases z⟩
 ·obtain⟨o,G⟩:=R b D;exact⟨lt b o G,λx c h=>(w b D).2.2.2.2.1 x c (g x c h)⟩
 ·rcases(w b D).2.2.2.1 with z|z
  ·exact I.ok.iV b o e z
  ·exact absurd (bv (bb e) (bp I.ok.lF z)) (cx _)
 ·rcases aq.mp (I.gP b T)with z|z
  ·exact(w b D).2.1 z
  ·exact(w b D).2.2.1 z
 ·--a name with a value:one of TV xl
  have hi:F<=i:=by refine Nat.le_of_not_lt λh=>?_;unfold gA at A;rw[ec (cu▸h),ci,qe h]at A;cases A
  unfold gA at A;rw[ij (cu▸hi),cu,bu]at A;cases U:Q[i-F]? with
  |none=>rw[U]at A;cases A
  |some j=>
   rw[U]at A;have C:σ.getD j none=some v:=qg A;obtain⟨J,y,O,f⟩:=B.pl (i-F) j U;rw[mx hi]at J;have V:x=y:=by have K:P[i]?=some x:=e1;rw[J,O]at K;exact(qg K).symm
   subst V
   have W:σ[j]?=some (some v):=by
    rw[ao]at C;cases q:σ[j]? with
    |none=>rw[q]at C;cases C
    |some z=>rw[q]at C;simp_all
   have L:=B.frees (x,.free) (PySem.mem_of_lookup f) rfl;have M:Vis X.env.scope x:=L.elim (λz=>.inr (.inl z)) (λz=>.inr (.inr z));obtain⟨m,TX,hl⟩:=I.loc;obtain⟨u,r,l⟩:=hl j x v O W M;refine⟨u,r,?_⟩;rcases l with⟨hk,_⟩|⟨hk,c,hc,E⟩
   ·rcases L with z|z
    ·have t:X.env.scope.names.lookup x=some .local:=hk;rw[z]at t;cases t
    ·have t:X.env.scope.names.lookup x=some .local:=hk;rw[z]at t;cases t
   ·obtain⟨d,hd⟩:=zU scope.names [] f;have Y:d=c:=by have:=g x d hd;rw[hc]at this;cases this;rfl
    subst Y;refine .inr ⟨?_,d,hd,?_⟩
    ·rcases e3 with z|z|z
     ·exfalso;have z':=z
      have:∀(l:List (Str×d5)),l.lookup x=some .free->(l.map λ(n,k)=>if(k==.free&&X.env.scope.kind==.function&&X.env.kindOf n==some .cell)then(n,NameKind.cell)else(n,k)).lookup x≠some .local:=by
       intro l
       induction l with
       |nil=>intro h;simp at h
       |cons y r ih=>
        intro h;obtain⟨n,q⟩:=y;rw[cy]at h;rw[br]
        dsimp only
        cases e:(x==n)with
        |true=>
         rw[e]at h;have hq:=qg h;subst hq;split
         ·rw[cy,e];intro z;cases z
         ·rw[cy,e];intro z;cases z
        |false=>
         rw[e]at h;split
         ·rw[cy,e];exact ih h
         ·rw[cy,e];exact ih h
      exact this _ f z'
     ·exact .inl z
     ·exact .inr z
    ·obtain⟨o,G,Z⟩:=E;exact⟨o,k _ _ G,Z⟩
 ·obtain⟨v,o,G,hd⟩:=I.cell x c (g x c e);exact⟨v,o,k _ _ G,hd⟩
 ·obtain⟨q1,q2,q3,q4,q5⟩:=I.pin p hp;refine⟨k _ _ q1,q2,lt _ _ q1,λz=>?_,q5⟩;rcases aq.mp (I.gP p.1 z)with z|z
  ·exact q3 z
  ·exact q4 z
 ·show(gA F Q σ).length=P.length;unfold gA;rw[ax,cu,ak,B.len]
section
variable (M:Model)(A:e9)(env:Env)
abbrev gB:Value->aw->Prop:=λ_ _=>False
def La (acc:Value)(Z:aw->Prop)(x:Value):aw->Prop:=wpAny M A (call (.builtin "list.append") [acc,x]) (λ_=>Z) gB
def zV (elt:Expr)(acc:Value)(Z:aw->Prop)(ok:Bool)(s:aw):Prop:=if ok=true then wpAny M A (eval elt env) (La M A acc Z) gB s else Z s
def Lb (ifs:List Expr)(elt:Expr)(acc:Value)(Z:aw->Prop):aw->Prop:=wpAny M A (forIn ifs true λc r=>if r=true then(pu c env (eval c env)>>=λok=>pure (ForInStep.yield ok))else pure (ForInStep.yield r)) (zV M A env elt acc Z) gB
def zW (tg:Expr)(ifs:List Expr)(elt:Expr)(acc:Value)(Z:aw->Prop)(v:Value):aw->Prop:=wpAny M A (nz tg env v) (λ_=>Lb M A env ifs elt acc Z) gB
def zX (tg:Expr)(ifs:List Expr)(elt:Expr)(it acc:Value)(End Z:aw->Prop)(r:Option Value)(s:aw):Prop:=match r with
 |some v=>wpAny M A (gp tg it v) (λ_=>zW M A env tg ifs elt acc Z v) gB s
 |none=>End s
end
theorem zmk (I:Nat->aw->Prop)
  (one:∀k t,I k t->wpAny (model P w) A (pv d) (zX (model P w) A env i a b d c (R (.ok .next)) λj=>∃m,m<k/\I m j) gB t) (n:Nat) (h:I n s):
  jh (model P w) A (.compLoop (.ListComp b [⟨i,e,a,0⟩] scope D) 0 d c env) R s:=by
 apply codeAny_loop rfl I _ n h;intro k t hk;apply wpAny_noted;apply wpAny_noRaise;apply aa;apply gw;apply aa;refine aM (one k t hk) ?_
 rintro(_|v) r f
 ·exact am f
 apply aa;refine aM f λ_ u l=>?_;apply aa;refine aM l λ_ y o=>?_;apply aa;refine aM o ?_
 rintro(_|_) z g
 ·exact am ⟨rfl,g⟩
 apply aa;apply aa;refine aM g λx B p=>?_;apply aa;refine aM p λ_ C q=>?_;exact am (am ⟨rfl,q⟩)
theorem Un.but (u:Un fs ex H j h f)(g:h.get? C=none)(c:b7 C f i):Un fs ex H j h i:=by
 have ne:∀b o,h.get? b=some o->b≠C:=λb o e z=>by rw[z,g]at e;cases e
 exact⟨λb o e n d a=>c.extBut b o (ne b o e) (u.keep b o e n d a),λb o e n d a=>let⟨sl,q⟩:=u.slot b o e n d a;⟨sl,c.extBut b _ (ne b o e) q⟩,u.free,λb o e a=>let⟨o',q⟩:=u.there b o e a;⟨o',c.extBut b _ (ne b o e) q⟩,u.cS,u.cO,u.cT⟩
theorem HOk.but (ok:HOk P w H h)(d:H C=none)(f:b7 C h g):HOk P w H g:=λa o e=>by
 refine(ok a o e).stay (λb u c q=>f.extBut b u (λz=>?_) q) (λ_ q=>q) λ_ _ q=>q;rcases c with c|c
 ·rw[z]at c;rw[<-c,d]at e;cases e
 ·rw[z,d]at c;cases c
def qz (X:Cx)(ifs:List Expr)(t:TT):Prop:=∀(pins:List (Addr×Obj)) (s:aw) (σ:St) (H:Hp) (Q:Bool->Hp->Prop),Inv X pins σ H s->t σ H Q->wpAny (model X.prog X.w) X.A (forIn ifs true λc r=>if r=true then do let ok <-pu c X.env (eval c X.env);pure (ForInStep.yield ok)else pure (ForInStep.yield r)) (TP X pins σ Q) X.xe s
def zY:TT:=λ_ H Q=>Q true H
theorem Lc:qz X [] zY:=λ_ _ _ H _ I h=>wpAny_tests_nil ⟨H,I,h⟩
theorem Ld (h:PT X c t):qz X [c] t:=λa s b H Q I q=>wpAny_tests_one (h a s b H Q I q)
def mF (a b:St):Prop:=a.length=b.length/\∀(i:Nat) v,a[i]?=some (some v)->b[i]?=some (some v)
def xm (wi:TI)(g:TG)(tc:TT)(te:TE)(em:St->St):TE:=λσ H Q=>wi σ H λJ H1=>∀l,H1 l=none->∃P:Nat->Nat->List V->Hp->Prop,(∃m,P 0 m [] (upd H1 l (.lst [])))/\∀i m acc H2,P i m acc H2->(J.stop i H2/\Q (.ref l) H2)\/(J.go i H2/\acc.length<av/\∃N:List V->Hp->Prop,(∀mG H',N mG H'->∃m',m'<m/\P (i+1) m' mG H')/\∀x H3,J.jZ i H2 x H3->g x (em σ) H3 λkG H4=>mF (em σ) kG/\tc kG H4 λb H5=>if b=true then te kG H5 λy H6=>H6 l=some (.lst acc)/\N (acc++[y]) (upd H6 l (.lst (acc++[y])))else N acc H5)
theorem z4x {Q:VK}{RR:Value->Addr->Result->aw->Prop}(hc:X.calm=true)(B:BlkScope X scope O nt js)
  (hg:∀C t s H,PG (blk X scope O C t s H) tg g) (ht:∀C t s H,qz (blk X scope O C t s H) ifs tc) (he:∀C t s H,PE (blk X scope O C t s H) elt te)
  (h2:q8 X Y σ tg (λJ H1=>∀l,H1 l=none->∃P:Nat->Nat->List V->Hp->Prop,(∃m,P 0 m [] (upd H1 l (.lst [])))/\∀i m a G,P i m a G->(J.stop i G/\Q (.ref l) G)\/(J.go i G/\a.length<av/\∃N:List V->Hp->Prop,(∀D H',N D H'->∃m',m'<m/\P (i+1) m' D H')/\∀x H3,J.jZ i G x H3->g x (gA nt js σ) H3 λkG H4=>mF (gA nt js σ) kG/\tc kG H4 λb H5=>
  if b=true then te kG H5 λy H6=>H6 l=some (.lst a)/\N (a++[y]) (upd H6 l (.lst (a++[y])))else N a H5)) uy h)
  (Le:∀(l C:Addr) (H':Hp) (s1:aw),(∃m,s1.heap.Ns C m)->H' C=none->C≠X.env.locals->C∉X.fs->(∀x c,X.env.cells.lookup x=some c->c≠C)->X.s₀.heap.objs.size<=C->(∀p∈X.pn++Y,p.1≠C)->(∀h',b7 C s1.heap h'->Inv X Y σ H' {s1 with heap:=h'})->Q (.ref l) H'->RR (.ref l) C (.ok .next) s1):
  wpAny (model X.prog X.w) X.A (newList []) (λa F=>wpAny (model X.prog X.w) X.A (newFunctionEnv scope X.env.globals (fA X.env scope.names []) [] X.env.qual none .none (some X.env)) (λU zZ=>jh (model X.prog X.w) X.A (.compStart (.ListComp elt [⟨tg,iter,ifs,0⟩] scope pos) 0 uy a {U with scope:=relabel scope X.env}) (RR a U.locals) zZ) E F) E h:=by
 obtain⟨it,t,tn,J,G,rfl,I2,T,uN,f2,q⟩:=h2;refine fk (wpAny_newFunctionEnv B.mE (by intro y hy;simp at hy) (λh₁ I K=>?_) B.kind);have W:∀b∈t,∃o,h.heap.get? b=some o:=λb f=>let⟨o,e,_⟩:=T.obj 0 _ uN b f;⟨o,e⟩;have hl:=I2.hok.fresh (ag _);have R:=I2.lnew (t':=h.toks) .nil (c7 _);obtain⟨P,⟨m0,p0⟩,turn⟩:=q _ hl;generalize Lf:h.heap.push {cls:=.type "list",dict:=none,data:=.seq ([]:List Value).toArray}=j at I K R ⊢;generalize EA:h.heap.objs.size=l at hl R p0 turn ⊢;have L:∀b o,h.heap.get? b=some o->j.get? b=some o:=λb o e=>Lf▸af _ e;have k:=λb o e=>K.extBut b o (b9 (bb e)) (af _ e);have f3:∀b∈t,FpOk X Y (upd G l (.lst [])) b:=λb f=>by obtain⟨o,e⟩:=W b f;have nl:b≠l:=EA▸b9 (bb e);exact⟨by rw[aH nl];exact(f2 b f).1,(f2 b f).2⟩
 have z0:∀b∈t,∃o,j.get? b=some o:=λb f=>let⟨o,e⟩:=W b f;⟨o,L b o e⟩;have J0:=zl3 (t1:=h.toks+([]:List (Str×Value)).length) B R f3 z0 k I;have z3:∀{H':Hp},(∀b∈t,H' b=none)->∀b∈t,FpOk (blk X scope O j.objs.size t {h with heap:=j,toks:=h.toks} (upd G l (.lst []))) Y H' b:=λhn b f=>⟨hn b f,(J0.ok.fI b f).1,J0.ok.iW b f,.inl f,(J0.ok.fI b f).2,(f2 b f).2.2.2.2.2⟩;have Lg:j.get? j.objs.size=none:=fi (ag _);have out:∀{H':Hp} {s1:aw},Inv (blk X scope O j.objs.size t {h with heap:=j,toks:=h.toks} (upd G l (.lst []))) Y (gA nt js σ) H' s1->∀h',b7 j.objs.size s1.heap h'->Inv X Y σ H' {s1 with heap:=h'}:=λ{H' s1} Jn h' sb=>by refine R.call' Jn.os (Un.but Jn.base Lg sb) (Jn.hok.but Jn.free sb) Jn.bare λb f=>?_;exact⟨(f3 b f).2.2.2.1,(f3 b f).2.1,(f3 b f).2.2.2.2.1,(f3 b f).2.2.2.2.2⟩
 have nL:=lq (R.lt);have nF:=R.uk (ag _);have nC:∀x c,X.env.cells.lookup x=some c->c≠j.objs.size:=λx c e z=>by obtain⟨v,q⟩:=R.cell x c e;exact absurd q.lt (z▸cx _)
 have nS:=R.sz;have nP:=λp hp=>b9 (bb (R.pin p hp).1)
 have loop:∀F:aw,F={h with heap:=h₁,toks:=h.toks+([]:List (Str×Value)).length}->
   jh (model X.prog X.w) X.A (.compLoop (.ListComp elt [⟨tg,iter,ifs,0⟩] scope pos) 0 (.ref it) (.ref l) (compEnvC scope (fA X.env scope.names []) j.objs.size X.env)) (RR (.ref l) j.objs.size) F:=by
  rintro F rfl
  refine zmk (λn s'=>∃i a H',Inv (blk X scope O j.objs.size t {h with heap:=j,toks:=h.toks} (upd G l (.lst []))) Y (gA nt js σ) H' s'/\tn i s'.heap/\(∀b∈t,H' b=none)/\P i n a H') ?_ m0 ⟨0,[],_,J0,T.keep _ _ _ uN λb _ o e=>k b o (L b o e),λb f=>(f3 b f).1,p0⟩
  rintro n s3 ⟨i,a,H3,Jn,EB,EC,w3⟩
  rcases turn i n a H3 w3 with⟨stop,qn⟩|⟨go,Lh,N,hN,step⟩
  ·refine aM (T.done (blk X scope O j.objs.size t {h with heap:=j,toks:=h.toks} (upd G l (.lst []))) rfl rfl rfl hc i Y s3 _ H3 (λ_ _=>False) Jn (z3 EC) EB stop) λr s4 ⟨hr,I4⟩=>?_;subst hr;obtain⟨m,hn,_⟩:=id I4.loc;exact Le l j.objs.size H3 s4 ⟨m,hn⟩ I4.free nL nF nC nS nP (out I4) qn
  ·refine aM (T.item (blk X scope O j.objs.size t {h with heap:=j,toks:=h.toks} (upd G l (.lst []))) rfl rfl rfl hc i Y s3 _ H3 (λ_ _=>False) Jn (z3 EC) EB go) λr s4 ⟨u,hr,h4⟩=>?_;subst hr;refine aM h4 λ_ s5 ⟨x,H5,I5,r5,y5,z4,Li⟩=>?_;have Lj:=I5.pinned (z3 Li) (T.obj _ _ z4);refine aM (hg _ _ _ _ _ s5 _ H5 x u _ Lj r5 (step x H5 y5)) λ_ s6 ⟨S,H6,I6,kp,q6⟩=>?_;refine aM (ht _ _ _ _ _ s6 S H6 _ I6 q6) λb s7 ⟨H7,I7,q7⟩=>?_
   have M:∀{s7:aw} {H7:Hp} {D:List V},Inv (blk X scope O j.objs.size t {h with heap:=j,toks:=h.toks} (upd G l (.lst []))) (Y++z6t t s5.heap) S H7 s7->N D H7->
     ∃m,m<n/\∃i a H',Inv (blk X scope O j.objs.size t {h with heap:=j,toks:=h.toks} (upd G l (.lst []))) Y (gA nt js σ) H' s7/\tn i s7.heap/\(∀b∈t,H' b=none)/\P i m a H':=λ{s7 H7 D} I7 w7=>by
    obtain⟨n',hm,w7⟩:=hN _ _ w7;refine⟨n',hm,i+1,D,H7,(I7.cW).weak kp.1 kp.2,T.keep _ _ _ z4 λb f o e=>(I7.pin (b,o) (bq _ (bq _ (wW f e)))).1,λb f=>?_,w7⟩;obtain⟨o,e,d⟩:=T.obj _ _ z4 b f;exact(I7.pin (b,o) (bq _ (bq _ (wW f e)))).2.1
   cases b with
   |false=>exact M I7 q7
   |true=>refine aM (he _ _ _ _ _ s7 S H7 _ I7 q7) λy' s8 ⟨y,H8,I8,r8,Lk,w8⟩=>?_;refine aM (xh _ s8 S H8 (.ref l) [y] (.ref l) [y'] (λ_ H9=>N (a++[y]) H9) I8 rfl (.cons r8 .nil) ⟨l,a,y,rfl,rfl,Lk,Lh,w8⟩) λ_ s9 ⟨v9,H9,I9,r9,w9⟩=>?_;exact M I9 w9
 exact codeAny_compStart_list (loop _ rfl) (T.self _ 0 _ _ _ (T.keep _ _ _ uN λb _ o e=>k b o (L b o e)) (loop _ rfl))
theorem zfn (j:X.calm=true)(B:BlkScope X scope c k n)(J:PI X i a o)
  (p:∀C b s H,PG (blk X scope c C b s H) i g) (r:∀C b s H,qz (blk X scope c C b s H) d tc) (t:∀C b s H,PE (blk X scope c C b s H) e te)
  (hs:∀x,ek a X.env x=pure x:=by intro _;rfl):PE X (.ListComp e [⟨i,a,d,0⟩] scope pos) (xm o g tc te (gA k n)):=by
 intro G s K H Q I h;refine k6 rfl hs (Ey λy u hf=>I.ok.has y.1 (B.frees y u hf)) B.kind B.names (aM (J G s K H _ I h) λv s1 w=>aM w λz F A=>?_);refine z4x j B p r t A ?_;intro l C L s1 ns _ _ _ _ _ _ f q;obtain⟨m,hn⟩:=ns;exact⟨m,hn,λD E=>⟨.ref l,L,f D E,rfl,q⟩⟩
def Ll (i:Nat)(t:TE):TS:=λD σ H=>t σ H λv H1=>D.nx (σ.set i (some v)) H1
theorem zhl (U:X.calm=true)(hN:X.N.Nodup)(V:X.N[i]?=some y)(O:X.env.scope.names.lookup y=some .local)(B:BlkScope X scope t W Y)(hi:PI X u a wi)
  (hg:∀C c s H,PG (blk X scope t C c s H) u g) (ht:∀C c s H,qz (blk X scope t C c s H) d tc) (he:∀C c s H,PE (blk X scope t C c s H) f te)
  (E:iu (.ListComp f [⟨u,a,d,0⟩] scope pos) (some (.Name y F)) j.line X.env=pure true)
  (hs:∀x,ek a X.env x=pure x:=by intro _;rfl):PS X (.Assign [.Name y F] (.ListComp f [⟨u,a,d,0⟩] scope pos) j) (Ll i (xm wi g tc te (gA W Y))):=by
 intro Z s σ H D I h;have ex:=exec_Assign_Name_used _ _ _ _ E;rw[ex];apply aa;apply gw;apply aa;refine aa (gk (k6 (use:=some (nz (.Name y F) X.env)) rfl hs (Ey λz hz hf=>I.ok.has z.1 (B.frees z hz hf)) B.kind B.names (aM (hi Z s σ H _ I h) λv s1 h1=>aM h1 λuy s2 h2=>?_)) (λ_ s' hq=>am (am hq)) λ_ _ e=>e);refine z4x (Q:=λv H1=>D.nx (σ.set i (some v)) H1) (RR:=λG C=>compPost (model X.prog X.w) X.A X.xe (some (nz (.Name y F) X.env)) (λ_ s'=>SP X Z D .next s') G C) U B hg ht he h2 ?_;intro l C H' s1 ns P R nF nC nS nP J q;obtain⟨m,hn⟩:=ns;have S:=J s1.heap (.refl ..);obtain⟨r,es,ep,K,k,L⟩:=id hn
 have I2:Inv X (Z++[(C,r)]) σ H' s1:=S.gR λp hp=>(bh.mp hp).elim (λz=>S.pin p (bq _ z)) λz=>by
  have e:p=(C,r):=by simpa using z
  subst e;exact⟨K,P,R,nF,λv z=>by have T:=z;rw[k]at T;cases T⟩
 refine oo (z5g I2 hN V (.inl O) (v:=.ref l) rfl (λrp n=>?_) (.inr O));have M:=(n.pin (C,r) (bq _ (bq _ (ah.mpr rfl)))).1;refine⟨m,⟨r,es,ep,M,k,L⟩,λh' sb=>⟨_,H',?_,q⟩⟩;exact(n.cW).turned (λb o hb e=>sb.extBut b o hb e) P R (.inr nS) nC nP
def z5 (z:Str):It:=⟨λi _=>i<z.cps.size,λi H x H'=>H'=H/\∃c,z.cps[i]?=some c/\x=.str ⟨#[c]⟩,λi _=>z.cps.size<=i⟩
theorem Lm {K:W.Frag}(j:ty="str_ascii_iterator"\/ty="str_iterator")(a:Addr)(z:Str)(t:Tok):Turn P w K N (z5 z) [a] a (λi h=>h.IsStrIter a ty z t i) where
 mem:=by simp
 obj:=λi h st b l=>by
  have e:b=a:=by simpa using l
  subst e;obtain⟨o,e,c,d⟩:=st;exact⟨o,e,λv z=>by rw[d]at z;cases z⟩
 keep:=λi h g st k=>let⟨o,e,r⟩:=st;⟨o,k a (by simp) o e,r⟩
 item:=by
  intro X G J L n i T s V H E I hf st B;subst G J L;obtain⟨f0,f1,f2,f3,q,y⟩:=hf a (by simp);have U:=B
  have p:∀(u:Value) (g:Heap) (m:Nat),SignAt z i u->g.IsStrIter a ty z t (i+1)->(∀b o,b∉ [a]->s.heap.get? b=some o->g.get? b=some o)->
    ∃C,some u=some C/\wpAny (model X.prog X.w) X.A (gp N (.ref a) C) (λ_ M=>∃x Y,Inv X T V Y M/\RelV x C/\(z5 z).jZ i H x Y/\M.heap.IsStrIter a ty z t (i+1)/\∀b∈[a],Y b=none) E {s with heap:=g,toks:=m}:=by
   rintro u g m ⟨c,O,Q,rfl⟩ f kk
   have R:Inv X T V H {s with heap:=g,toks:=m}:=I.turned (λb o l e=>kk b o (by simpa using l) e) f0 f1 f3 q y;obtain⟨o,e,S,d⟩:=id f;exact⟨_,rfl,z82 e S d (by rcases j with rfl|rfl<;>decide) ⟨.str ⟨#[c]⟩,H,R,⟨O,rfl⟩,⟨rfl,c,Q,rfl⟩,f,λb l=>(hf b l).1⟩⟩
  rcases j with rfl|rfl
  ·exact(Walks.strAscii (I.ok.hd n) a z t).item i s _ _ U st λv g m D f kk=>p v g m D f kk
  ·exact(Walks.strWide (I.ok.hd n) a z t).item i s _ _ U st λv g m D f kk=>p v g m D f kk
 done:=by
  intro X G J L n i T s V H E I hf st B;obtain⟨f0,f1,f2,f3,q,y⟩:=hf a (by simp);have U:z.cps[i]?=none:=by have:z.cps.size<=i:=B;simpa using this
  rcases j with rfl|rfl
  ·exact wpAny_pyNext_ascii_end (I.ok.hd n) st U λg F=>⟨rfl,I.turned (λb o l e=>F b o l e) f0 f1 f3 q y⟩
  ·exact wpAny_pyNext_wide_end (I.ok.hd n) st U λg F=>⟨rfl,I.turned (λb o l e=>F b o l e) f0 f1 f3 q y⟩
 self:=λ_ _ _ _ _ st h=>by
  rcases j with rfl|rfl
  ·exact wpAny_pyIter_striter_ascii st h
  ·exact wpAny_pyIter_striter_wide st h
theorem zti {J:It}{g:TG}{tc:TT}{C:TE}{Q:VK}(P:Nat->List V->Hp->Prop)(hn:n<=av)(h0:P 0 [] (upd D l (.lst [])))
  (q:∀i a H,P i a H->a.length<=i)
  (h:∀a H,P n a H->J.stop n H/\Q (.ref l) H) (u:∀i a H,i<n->P i a H->J.go i H)
  (r:∀i a H x j,i<n->P i a H->J.jZ i H x j->g x k j λc v=>mF k c/\tc c v λb s=>if b=true then C c s λy t=>t l=some (.lst a)/\P (i+1) (a++[y]) (upd t l (.lst (a++[y])))else P (i+1) a s):
  ∃P:Nat->Nat->List V->Hp->Prop,(∃m,P 0 m [] (upd D l (.lst [])))/\∀i m a f,P i m a f->(J.stop i f/\Q (.ref l) f)\/(J.go i f/\a.length<av/\∃N:List V->Hp->Prop,(∀d B,N d B->∃w,w<m/\P (i+1) w d B)/\∀x j,J.jZ i f x j->g x k j λc v=>mF k c/\tc c v λb s=>if b=true then C c s λy t=>t l=some (.lst a)/\N (a++[y]) (upd t l (.lst (a++[y])))else N a s):=by
 refine⟨λi m a H=>i<=n/\m=n-i/\P i a H,⟨n,c7 _,rfl,h0⟩,?_⟩
 rintro i m a f ⟨E,rfl,p⟩
 by_cases o:i<n
 ·have A:=q i a f p;exact .inr ⟨u i a f o p,by omega,P (i+1),λd B z=>⟨n-(i+1),by omega,o,rfl,z⟩,λx j y=>r i a f x j o p y⟩
 ·have e:i=n:=by omega
  subst e;exact .inl (h a f p)
theorem Ln:OpR X (cf .LtE) (λx y H Q=>∃i j,x=.str i/\y=.str j/\Q (.bl (!decide (j.cps.toList<i.cps.toList))) H):=by
 rintro d s e H x y v u Q I a b ⟨i,j,rfl,rfl,q⟩
 obtain⟨t,rfl⟩:=a;obtain⟨c,rfl⟩:=b;exact PySem.P.le_str ⟨.bl _,H,I,rfl,q⟩
theorem Lo:OpR X (cf .Gt) (λx y H Q=>∃i j,x=.str i/\y=.str j/\Q (.bl (decide (j.cps.toList<i.cps.toList))) H):=by
 rintro d s e H x y v u Q I a b ⟨i,j,rfl,rfl,q⟩
 obtain⟨t,rfl⟩:=a;obtain⟨c,rfl⟩:=b;exact PySem.P.gt_str ⟨.bl _,H,I,rfl,q⟩
def uO:V->Option Int->Option Int->Hp->VK->Prop:=λx lo hi H Q=>∃z,x=.str z/\z.length<=av/\Q (.str (Txt.slice z lo hi)) H
theorem xn:nM X uO:=by
 rintro r s w H x v n p y A sl Q I m hs pl f ⟨z,rfl,b,q⟩
 obtain⟨t,rfl⟩:=m;refine⟨"str",_,PySem.F.slot_str_getitem.lookup,og _ _ _,?_⟩;obtain⟨o,c,d,hd⟩:=hs;have a:∀g k,EP X r w Q (.str (Txt.slice z y A) g) {s with toks:=k}:=λg k=>⟨.str _,H,I.tok _,⟨_,rfl⟩,q⟩;cases pl with
 |none=>
  cases f with
  |none=>exact fz (l:=none) (u:=none) (st:=none) ⟨o,c,d,hd⟩ rfl (j0 ⟨bp (Txt.slice_le z _ _) b,a⟩)
  |int j e=>exact fz (l:=none) (u:=some (j,e)) (st:=none) ⟨o,c,d,hd⟩ rfl (j0 ⟨bp (Txt.slice_le z _ _) b,a⟩)
 |int i h=>
  cases f with
  |none=>exact fz (l:=some (i,h)) (u:=none) (st:=none) ⟨o,c,d,hd⟩ rfl (j0 ⟨bp (Txt.slice_le z _ _) b,a⟩)
  |int j e=>exact fz (l:=some (i,h)) (u:=some (j,e)) (st:=none) ⟨o,c,d,hd⟩ rfl (j0 ⟨bp (Txt.slice_le z _ _) b,a⟩)
theorem Lp (t:X.calm=true):CallR X (.builtin "all") (λm H Q=>∃(p:Addr) (bs:List Bool),m=[.ref p]/\SqL X.K H p (bs.map V.bl)/\Q (.bl (bs.all id)) H):=by
 intro N s P H m R Q I r h;obtain⟨p,bs,rfl,w,q⟩:=h;obtain⟨u,rfl,l⟩:=vals1 r;cases l;obtain⟨d,n,pl,E⟩:=I.list w;refine call_all_walk (jg pl.isList ?_);have ne:p≠s.heap.objs.size:=by obtain⟨o,x,_⟩:=pl.isList;exact b9 (bb x)
 have c:=by have:=n.length;rw[ak]at this;exact this
 refine⟨s.heap.objs.size,_,_,_,_,_,λi=>bs.getD i true,rfl,Walks.list (A:=X.A.in1) (I.ok.hd t) s.heap.objs.size p ne d.toArray,⟨⟨_,az _ rfl,rfl,rfl⟩,pl.isList.at λo e=>af _ e⟩,?_,?_⟩
 ·intro i v O y F B C;have M:d[i]?=some v:=by simpa using B
  have j:i<bs.length:=c▸(bg.mp M).1;obtain⟨G,hu,l⟩:=n.get (by rw[bu,bo j];rfl);rw[M]at hu;cases hu;cases l;refine dt ?_;have e:bs.getD i true=bs[i]:=by simp[ao,j]
  have f:y (bs.getD i true) O:=C;rw[e]at f;exact f
 ·intro J L k;refine⟨.bl (bs.all id),H,I.kept λb o e=>?_,?_,q⟩
  ·refine k b o (λz=>?_) (af _ e);have D:b=s.heap.objs.size:=by simpa using z
   exact absurd (bb e) (D▸cx _)
  ·have e:(dm d.toArray.size).all (fun i=>bs.getD i true)=bs.all id:=by
    rw[bn,<-c];apply j1.mpr;simp only[bj];constructor
    ·intro a b j;obtain⟨i,M,rfl⟩:=List.mem_iff_getElem.mp j;have:=a i (ew.mpr M);simpa[ao,M]using this
    ·intro a i M;rw[ew]at M;have g:=M;have:=a bs[i] (ll g);simpa[ao,g]using this
   rw[e];rfl
def Own (K:W.Frag)(mg:Str->Option Value)(x:Str)(st:Stmt)(ps:List Str):Prop:=∃f fd,Fun K x x st f fd/\mg x=some (.ref f)/\W.keepIn K (.ref f)=true/\Binds K fd ps []
def Cal (P:cc)(w:World)(K:W.Frag)(mg:Str->Option Value)(base:Heap)(k:Nat)(x:Str)(ps:List Str)(sp:Sp):Prop:=∃f fd,FnOk P w K mg base nN k f fd ps sp/\mg x=some (.ref f)/\W.keepIn K (.ref f)=true/\Binds K fd ps []
section
variable {K:W.Frag}{mg:Str->Option Value}
theorem zrf {st:Stmt}{kV:Value}(X:K.In h)(G:h.Ns bc mg)
  (a:W.nsIn K bc x=some (some (.ref f))) (l:K.lookup f=some ⟨oc,od,.func (W.fnOf x x (kF st) (z0l st) (z09 st) .none kV e g an d ct),i⟩) (c:W.codeIn K d x=true) (k:W.keepIn K (.ref f)=true)
  (b:∀(kV e g:Value) (an:Option Addr) (d ct:Value) (j:List Value),j.length=ps.length->p8 (W.fnOf x x (kF st) (z0l st) (z09 st) .none kV e g an d ct) ⟨j,[]⟩=pure (ps.zip j)):Own K mg x st ps:=
 ⟨f,_,zT l c k,W.mg_of X G a,k,(zT l c k).binds b⟩
end
def isStar:Expr->Bool
 |.Starred ..=>true
 |_=>false
theorem eA (h:isStar e=false):cn (e::a) env=(false,eval e env)::cn a env:=by cases e<;>first|rfl|cases h
theorem lL:∀{b:List Expr},(b.all λe=> !isStar e)=true->(gy pos (cn b env)).any (·.1)=false
 | [],_=>rfl
 |e::b,h=>by have a:=ba.mp (cj▸h);rw[eA (by simpa using a.1)];show(false||(gy pos (cn b env)).any (·.1))=false;rw[lL a.2];rfl
section
variable {X:Cx}{x:Str}{p pos:Pos}{e:Expr}{es:List Expr}{t:TA}{id:String}{r:List V->Hp->VK->Prop}
theorem dN (a:PE X e c)(b:PA X es t)(hs:isStar e=false:=by rfl):PA X (e::es) (mD c t):=wZ a b (eA hs)
theorem xo (c:CallR X (.builtin id) r)(hm:X.mg x=none)(d:cq x=some (.builtin id))(f:PA X (e::es) t)(a:((e::es).all λe=> !isStar e)=true:=by rfl)(g:Gl X x:=by rfl)(hn:x≠"__name__":=by decide)(b:Ue x:=by decide):PE X (.Call (.Name x p) (e::es) [] pos) (oI r t):=by rw[cj,au]at a;exact zga c g hm d f hn b (eA (by simpa using a.1)) (lL a.2)
theorem z6 (c:CallR X (.type T) r)(hm:X.mg x=none)(d:cq x=some (.type T))(f:PA X (e::es) t)(a:((e::es).all λe=> !isStar e)=true:=by rfl)(g:Gl X x:=by rfl)(hn:x≠"__name__":=by decide)(b:Ue x:=by decide):PE X (.Call (.Name x p) (e::es) [] pos) (oI r t):=by rw[cj,au]at a;exact zcq c g hm d f hn b (eA (by simpa using a.1)) (lL a.2)
theorem zg0 (C:Cal X.prog X.w X.K X.mg X.base k x ps j)(d:Room g X.A)(h:PA X (e::es) t)(a:((e::es).all fun e=> !isStar e)=true:=by rfl)(hk:k<=g:=by decide)(i:Gl X x:=by rfl)
  (c:Ue x:=by decide):PE X (.Call (.Name x p) (e::es) [] pos) (jP j [] E0 t):=by
 obtain⟨f,fd,F,m,kp,b⟩:=C;rw[cj,au]at a;exact zdn F (d.mono hk) i m kp b .nil K8 h c (eA (by simpa using a.1)) (lL a.2)
end
def nO:Expr->Bool
 |.ListComp ..=>true
 |.SetComp ..=>true
 |.DictComp ..=>true
 |_=>false
theorem rC (h:nO e=false)(a:Option Expr)(n:Nat)(env:Env):iu e a n env=pure false:=by cases e<;>first|rfl|cases h
theorem uP (hN:X.N.Nodup)(c:X.N[i]?=some x)(a:Loc X.env.scope x)(b:PE X e d)(hs:nO e=false:=by rfl)(hf:X.fn x=true\/X.env.scope.names.lookup x=some .local:=by first|exact .inl rfl|exact .inr rfl|assumption): PS X (.Assign [.Name x pos'] e pos) (oG d (wU i)):=zjm hN c a b (rC hs _ _ _) hf
theorem oK (a:PE X e b)(hs:nO e=false:=by rfl):PS X (.Expr e pos) (uv b):=JO a (rC hs _ _ _)
def z7 (K:W.Frag):R2:=λx y H Q=>lI (λi j=>.int (i+j)) x y H Q\/(∃i j,x=.str i/\y=.str j/\i.length+j.length<=av/\Q (.str (i++j)) H)\/uM x y H Q\/Ej K x y H Q
def rD:R2:=λx y H Q=>lI (λi j=>.bl (decide (i<j))) x y H Q\/∃i j,x=.str i/\y=.str j/\Q (.bl (decide (i.cps.toList<j.cps.toList))) H
def rE:R2:=λx y H Q=>lI (λi j=>.bl (decide (i<=j))) x y H Q\/∃i j,x=.str i/\y=.str j/\Q (.bl (!decide (j.cps.toList<i.cps.toList))) H
def rF:R2:=λx y H Q=>lI (λi j=>.bl (decide (j<i))) x y H Q\/∃i j,x=.str i/\y=.str j/\Q (.bl (decide (j.cps.toList<i.cps.toList))) H
def oM (K:W.Frag)(neg:Bool):R2:=λx y H Q=>zR K neg x y H Q\/∃i j,x=.str i/\y=.str j/\Q (.bl (if neg then !(!(d0 j i 0 j.length 1).isEmpty)else !(d0 j i 0 j.length 1).isEmpty)) H
def z8 (K:W.Frag):V->Option Int->Option Int->Hp->VK->Prop:=λx lo hi H Q=>uI K x lo hi H Q\/uO x lo hi H Q
def Lq (K:W.Frag):List V->Hp->VK->Prop:=λxs H Q=>(∃z,xs=[.str z]/\z.length<=av/\Q (.int z.length) H)\/(∃p ys,xs=[.ref p]/\(SqL K H p ys\/dB K H p ys)/\Q (.int ys.length) H)
theorem Ls:OpR X (eo .Add) (z7 X.K):=JX.or (Ka.or (K5.or KI))
theorem z9:OpR X (cf .Lt) rD:=J4.or J7
theorem Ab:OpR X (cf .LtE) rE:=J5.or Ln
theorem Ac:OpR X (cf .Gt) rF:=J6.or Lo
theorem Ae:OpR X (cf .In) (oM X.K false):=KW.or J8
theorem Lu:OpR X (cf .NotIn) (oM X.K true):=KY.or KZ
theorem Lw:lJ X (En X.K):=KO
theorem Lx:nM X (z8 X.K):=KS.or xn
theorem Ly:CallR X (.builtin "len") (Lq X.K):=K2.or K0
def eP (t T:String):Bool:=t==T||(t=="bool"&&T=="int")
def oN:List String:=["NoneType","bool","int","str","list","tuple","dict"]
def tysB:List String:=["str","int","bool","tuple","list"]
theorem LA (K:W.Frag):∀t∈oN,∀T∈tysB,W.kitOne K (.type t) (.type T)=some (eP t T):=by intro t a T b;simp only[oN,aq,iz,or_false]at a;simp only[tysB,aq,iz,or_false]at b;rcases a with rfl|rfl|rfl|rfl|rfl|rfl|rfl<;>rcases b with rfl|rfl|rfl|rfl|rfl<;>kernel_rfl
section
variable {H:Hp}{Q:VK}{K:W.Frag}
theorem LB (h:Q (.int (i+j)) H):z7 K (.int i) (.int j) H Q:=.inl ⟨i,j,rfl,rfl,h⟩
theorem LC (c:i.length+j.length<=av)(h:Q (.str (i++j)) H):z7 K (.str i) (.str j) H Q:=.inr (.inl ⟨i,j,rfl,rfl,c,h⟩)
theorem LD (h:Q (.bl (decide (i<j))) H):rD (.int i) (.int j) H Q:=.inl ⟨i,j,rfl,rfl,h⟩
theorem LF (h:Q (.bl (decide (i<=j))) H):rE (.int i) (.int j) H Q:=.inl ⟨i,j,rfl,rfl,h⟩
theorem LG (h:Q (.bl (decide (j<i))) H):rF (.int i) (.int j) H Q:=.inl ⟨i,j,rfl,rfl,h⟩
theorem LH (h:Q (.bl (decide (i.cps.toList<j.cps.toList))) H):rD (.str i) (.str j) H Q:=.inr ⟨i,j,rfl,rfl,h⟩
theorem LI (h:Q (.bl (!decide (j.cps.toList<i.cps.toList))) H):rE (.str i) (.str j) H Q:=.inr ⟨i,j,rfl,rfl,h⟩
theorem LJ (h:Q (.bl (decide (j.cps.toList<i.cps.toList))) H):rF (.str i) (.str j) H Q:=.inr ⟨i,j,rfl,rfl,h⟩
end
section
variable {K:W.Frag}{H:Hp}{Q:VK}
theorem LK (h:Q (.bl (decide (c∈z.cps.toList))) H):oM K false (.str ⟨#[c]⟩) (.str z) H Q:=.inr ⟨_,z,rfl,rfl,by have e:=PySem.StrLaws.found_one z c;rw[e];exact h⟩
theorem LL (h:Q (.bl (!decide (c∈z.cps.toList))) H):oM K true (.str ⟨#[c]⟩) (.str z) H Q:=.inr ⟨_,z,rfl,rfl,by have e:=congrArg Bool.not (PySem.StrLaws.found_one z c);rw[e];exact h⟩
end
theorem Same.upd (h:H p=none):Same H (L2.upd H p o):=λb u e=>by rw[aH (fZ e h)];exact e
theorem ED (h:n<=1000):n<=av:=bp h (by rw[cb];decide)
end L2
namespace Mi
open PySem
abbrev D:=ae
set_option genInjectivity true in
inductive Res (α:Type) where
 |ok (a:α)|exc (e:D)|no
namespace Res
def bind {α β:Type}(x:Res α)(f:α->Res β):Res β:=match x with
 |.ok a=>f a
 |.exc e=>.exc e
 |.no=>.no
instance:Monad Res where
 pure:=.ok
 bind:=Res.bind
theorem aB {b c:Type}(a:b)(f:b->Res c):(Res.ok a>>=f)=f a:=rfl
def fJ {α:Type}:Option α->Res α
 |some a=>.ok a
 |none=>.no
theorem aA {c d:Type}{x:Res c}{f:c->Res d}{b:d}(h:(x>>=f)=.ok b):∃a,x=.ok a/\f a=.ok b:=by
 cases x with
 |ok a=>exact⟨a,rfl,h⟩
 |exc e=>cases h
 |no=>cases h
end Res
mutual
def imm:ae->Bool
 |.tuple xs=>imms xs
 |.list _=>false
 |.dict _=>false
 |.none=>true
 |.bool _=>true
 |.int _=>true
 |.str _=>true
def imms:List ae->Bool
 | []=>true
 |x::xs=>imm x&&imms xs
end
theorem mH:∀{a:List D},imms a=true↔∀x∈a,imm x=true
 | []=>by simp[imms]
 |x::a=>by rw[imms,au,mH];simp
abbrev cC:D->D->Bool:=PyData.eqv
mutual
def cE:Nat->ae->Bool
 |0,.tuple _=>false
 |0,.list _=>false
 |n+1,.tuple xs=>iO n xs
 |n+1,.list xs=>iO n xs
 |_,.dict _=>false
 |_,.none=>true
 |_,.bool _=>true
 |_,.int _=>true
 |_,.str _=>true
def iO:Nat->List ae->Bool
 |_,[]=>true
 |n,x::xs=>cE n x&&iO n xs
end
def truth:ae->Bool
 |.none=>false
 |.bool b=>b
 |.int i=>!decide (i=0)
 |.str x=>!decide (x.length=0)
 |.tuple xs=>!xs.isEmpty
 |.list xs=>!xs.isEmpty
 |.dict es=>!es.isEmpty
def kB (n:Nat)(i:Int):Option Nat:=if 0<=i then(if i<n then some i.toNat else none)else if -(n:Int)<=i then some (i+n).toNat else none
def cK {α:Type}(xs:List α)(i:Int):Option α:=(kB xs.length i).bind λj=>xs[j]?
def bE (n d:Nat):Option Int->Nat
 |none=>d
 |some v=>if v<0 then(v+(n:Int)).toNat else min v.toNat n
def cut {α:Type}(xs:List α)(lo hi:Option Int):List α:=(xs.drop (bE xs.length 0 lo)).take (bE xs.length xs.length hi-bE xs.length 0 lo)
def eqK:ae->ae->Bool
 |.int a,y=>match y with|.int b=>a==b|_=>false
 |.str a,y=>match y with|.str b=>decide (a=b)|_=>false
 |_,_=>false
def qA:ae->Bool
 |.int _=>true
 |.str _=>true
 |_=>false
abbrev iZ:=List (D×D)
def gT (es:iZ)(k:D):Option D:=(es.find? λe=>eqK e.1 k).map (·.2)
section
inductive G where
 |fr|od|al|nu
 deriving Inhabited,DecidableEq
abbrev Rho:=List (Option (G×D))
abbrev GD:=G×D
inductive Tg where
 |nm (i:Nat)|tp (is:List Nat)
 deriving Inhabited,DecidableEq
inductive C where
 |var (i:Nat)|non|bl (b:Bool)|int (i:Int)|str (x:Str)|glob (k:Nat) (x:Str)|bin (op:mj) (a b:C)|cmp (op:CmpOp) (a b:C)|chain (op qB:CmpOp) (a b c:C)|mI (neg:Bool) (a:C)|and (a b:C)|or (a b:C)|not (a:C)|tup (xs:C)|lst (xs:C)|gU|ix (a b:C)|sl (a lo hi:C)|call (k:Nat) (f:Str) (args:C)|bi (f:String) (args:C)|mJ (f:String) (a:C)|eP (a:C) (ts:List String)|mt (m:String) (o args:C)|comp (nt:Nat) (js:List Nat) (N':List Str) (tg:Tg) (it cond elt:C)|qC (a b:C)|gV (args:C)|enum (a:C)|zip (a b:C)|tv (a:C)|gC (b:Bool) (x:Str)|nil|cons (a r:C)
 deriving Inhabited
inductive S where
 |nil|seq (a b:S)|bad|asg (t:Tg) (e:C)|mut (m:String) (i:Nat) (args:C)|ret (e:C)|aT (c:C) (a b:S)|bO (t:Tg) (it:C) (b:S)|wh (n:Nat) (c:C) (b:S)|cnt|pop (j i:Nat)|pap (i:Nat) (a r:C)
 deriving Inhabited
inductive Out where
 |nx (ρ:Rho)|rt (g:G) (d:D)|bk (ρ:Rho)|ct (ρ:Rho)
abbrev Fn:=List D->Res GD
def LIM:Nat:=1000000
def EE:G->G
 |.fr=>.al
 |.od=>.od
 |.al=>.al
 |.nu=>.nu
def rG:Option (Option GD)->Res GD
 |some (some (g,d))=>.ok (if imm d then .fr else EE g,d)
 |_=>.no
def gD:D->Res Bool
 |.str x=>if x.length<=LIM then .ok (!decide (x.length=0))else .no
 |d=>.ok (truth d)
def iP:G->G
 |.fr=>.fr
 |.od=>.al
 |.al=>.al
 |.nu=>.fr
def agG:G->G
 |.fr=>.fr
 |.od=>.al
 |.al=>.al
 |.nu=>.nu
def gJ (d:D)(g:G):G:=if imm d then .fr else g
def gN (d:D)(g:G):G:=match d with
 |.list xs=>if imms xs then .fr else g
 |d=>gJ d g
def cF (xs:List GD):G:=if xs.all (λx=>x.1==.fr)then .fr else if xs.all (λx=>x.1==.fr||x.1==.nu)then .nu else .al
def qD (xs:List GD):G:=if xs.all (λx=>x.1==.fr)then .fr else .al
def okIn (x:GD):Bool:=imm x.2||(x.1==.fr||x.1==.nu)
def oO (es:iZ):Bool:=es.all λe=>imm e.2
def z1u:GD->GD
 |(g,d)=>if imm d then(.al,d)else match g,d with
  |.fr,.list xs=>(if imms xs then .fr else .nu,.list xs)
  |.fr,.dict es=>(if oO es then .fr else .nu,.dict es)
  |.fr,d=>(.nu,d)
  |.nu,d=>(.nu,d)
  |.od,d=>(.od,d)
  |.al,d=>(.al,d)
def lM:GD->GD
 |(g,d)=>match g with|.od=>(.od,d)|_=>(.al,d)
def fP:Option GD->Option GD
 |some (.fr,d)=>some (.al,d)
 |some (.nu,d)=>some (.al,d)
 |s=>s
def z0g:Option GD->Option GD
 |some (.al,d)=>if imm d then some (.al,d)else none
 |s=>s
def qE:Rho->List Nat->List D->G->Option Rho
 |ρ,[],[],_=>some ρ
 |ρ,i::is,d::ds,g=>qE (ρ.set i (some (lM (gJ d g,d)))) is ds g
 |_,_,_,_=>none
def fB:Tg->GD->Rho->Res Rho
 |.nm i,x,ρ=>.ok (ρ.set i (some (lM x)))
 |.tp is,(g,.tuple ds),ρ=>Res.fJ (qE ρ is ds g)
 |.tp is,(g,.list ds),ρ=>Res.fJ (qE ρ is ds g)
 |_,_,_=>.no
def Af:D->Res D
 |.str x=>if x.length<=LIM then .ok (.int x.length)else .no
 |.tuple xs=>.ok (.int xs.length)
 |.list xs=>.ok (.int xs.length)
 |.dict es=>.ok (.int es.length)
 |_=>.no
def oP {α:Type}(n:Nat)(xs:List α):List α:=(bd n xs).flatten
def cL:mj->D->D->Res D
 |.Add,.int a,.int b=>.ok (.int (a+b))
 |.Add,.str a,.str b=>if a.length+b.length<=LIM then .ok (.str (a++b))else .no
 |.Add,.list a,.list b=>if a.length+b.length<=LIM then .ok (.list (a++b))else .no
 |.Add,.tuple a,.tuple b=>if a.length+b.length<=LIM then .ok (.tuple (a++b))else .no
 |.Sub,.int a,.int b=>.ok (.int (a-b))
 |.Mult,.str a,.int n=>if 0<=n/\n<=LIM/\a.length*n.toNat<=LIM then .ok (.str ⟨(oP n.toNat a.cps.toList).toArray⟩)else .no
 |.Mult,.int a,.int b=>if(-(2 ^ 64)<a/\a<2 ^ 64)\/(-(2 ^ 64)<b/\b<2 ^ 64)then .ok (.int (a*b))else .no
 |.FloorDiv,.int a,.int b=>if 0<b/\b<2 ^ 200 then .ok (.int (a/b))else .no
 |.Mod,.int a,.int b=>if 0<b then .ok (.int (a%b))else .no
 |.Pow,.int a,.int b=>if 0<=b/\b<=1000/\a.natAbs<2 ^ 64 then .ok (.int (a ^ b.toNat))else .no
 |_,_,_=>.no
def inD (x:D):D->Res Bool
 |.list xs=>if cE 40 x&&iO 40 xs then .ok (xs.any λy=>cC y x)else .no
 |.tuple xs=>if cE 40 x&&iO 40 xs then .ok (xs.any λy=>cC y x)else .no
 |.dict es=>if qA x then .ok (gT es x).isSome else .no
 |.str z=>match x with
  |.str w=>(match w.cps.toList with| [c]=>.ok (decide (c∈z.cps.toList))|_=>.no)
  |_=>.no
 |_=>.no
def cmpD:CmpOp->D->D->Res Bool
 |.Eq,x,y=>if cE 40 x&&cE 40 y then .ok (cC x y)else .no
 |.NotEq,x,y=>if cE 40 x&&cE 40 y then .ok (!cC x y)else .no
 |.Lt,.int a,.int b=>.ok (decide (a<b))
 |.LtE,.int a,.int b=>.ok (decide (a<=b))
 |.Gt,.int a,.int b=>.ok (decide (b<a))
 |.Lt,.str a,.str b=>.ok (decide (a.cps.toList<b.cps.toList))
 |.LtE,.str a,.str b=>.ok (!decide (b.cps.toList<a.cps.toList))
 |.Gt,.str a,.str b=>.ok (decide (b.cps.toList<a.cps.toList))
 |.In,x,y=>inD x y
 |.NotIn,x,y=>inD x y>>=λb=>.ok (!b)
 |_,_,_=>.no
def iD:D->D->Res D
 |.list xs,.int i=>Res.fJ (cK xs i)
 |.tuple xs,.int i=>Res.fJ (cK xs i)
 |.str z,.int i=>if z.length<=LIM then Res.fJ ((cK z.cps.toList i).map λc=>.str ⟨#[c]⟩)else .no
 |.dict es,k=>if qA k then Res.fJ (gT es k)else .no
 |_,_=>.no
def jQ (z:Str)(lo hi:Option Int):Str:=⟨(cut z.cps.toList lo hi).toArray⟩
def qF:D->Option Int->Option Int->Res D
 |.list xs,lo,hi=>.ok (.list (cut xs lo hi))
 |.tuple xs,lo,hi=>if bE xs.length 0 lo=0/\bE xs.length xs.length hi=xs.length then .no else .ok (.tuple (cut xs lo hi))
 |.str z,lo,hi=>if z.length<=LIM then .ok (.str (jQ z lo hi))else .no
 |_,_,_=>.no
def rH:D->Res (Option Int)
 |.int i=>.ok (some i)
 |_=>.no
def z4q:D->Res (List D)
 |.list xs=>.ok xs
 |.tuple xs=>.ok xs
 |.str z=>if z.length<=LIM then .ok (z.cps.toList.map λc=>.str ⟨#[c]⟩)else .no
 |_=>.no
def allB:List D->Option (List Bool)
 | []=>some []
 |.bool b::r=>(allB r).map (b:: ·)
 |_=>none
def fC:List D->Option (List Str)
 | []=>some []
 |.str b::r=>(fC r).map (b:: ·)
 |_=>none
def z69:D->Res (Bool×List D)
 |.list xs=>.ok (true,xs)
 |.tuple xs=>.ok (false,xs)
 |_=>.no
def kH:List D->Option Int
 | []=>none
 | [.int i]=>some i
 |.int i::r=>(kH r).map (max i)
 |_=>none
def aggD (f:String)(l:Bool)(xs:List D):Res D:=
 if f="list"then .ok (.list xs)
 else if f="tuple"then .ok (.tuple xs)
 else if f="all"then(if l then Res.fJ ((allB xs).map λbs=>.bool (bs.all id))else .no)
 else if f="max"then(if l then Res.fJ ((kH xs).map .int)else .no)
 else .no
def mK (l:List Nat):Bool:=!l.isEmpty&&l.all λc=>decide (48<=c)&&decide (c<=57)
def gW (l:List Nat):Nat:=l.foldl (λn c=>n*10+(c-48)) 0
def oQ (x:Str):Res D:=if mK x.cps.toList&&decide (x.length<=600)then .ok (.int (gW x.cps.toList:Int))else .no
def kI (y:Str):Option Nat:=match y.cps.toList with
 | [c]=>some c
 |_=>none
def toS (l:List Nat):Str:=⟨l.toArray⟩
def aU (c:Nat):List Nat->List (List Nat)
 | []=>[[]]
 |a::r=>if a=c then[]::aU c r else(match aU c r with|h::t=>(a::h)::t| []=>[[a]])
def gX:D->D->Res D
 |.str x,.str y=>match kI y with
  |some c=>if decide (x.length<=LIM)then .ok (.list ((aU c x.cps.toList).map λl=>.str (toS l)))else .no
  |none=>.no
 |_,_=>.no
def Ag (x y:Str):Res D:=match kI y with
 |some c=>if decide (x.length<=LIM)then .ok (.tuple [.str (toS (x.cps.toList.takeWhile (· != c))),.str (if x.cps.toList.contains c then y else ""),.str (toS ((x.cps.toList.dropWhile (· != c)).drop 1))])else .no
 |none=>.no
def Ah (x y:Str):Res D:=match kI y with
 |some c=>.ok (.int (match x.cps.toList.findIdx? (· ==c)with|some i=>(i:Int)|none=>-1))
 |none=>.no
def biD (f:String)(xs:List D):Res D:=
 if f="len"then(match xs with| [x]=>Af x|_=>.no)
 else if f="int"then(match xs with| [.int a]=>.ok (.int a)| [.bool b]=>.ok (.int (if b then 1 else 0))| [.str x]=>oQ x|_=>.no)
 else if f="str"then(match xs with| [.int a]=>if a.natAbs.log2<1920 then .ok (.str (toString a))else .no|_=>.no)
 else .no
def gY:D->String
 |.none=>"NoneType"|.bool _=>"bool"|.int _=>"int"|.str _=>"str"|.tuple _=>"tuple"|.list _=>"list"|.dict _=>"dict"
def i' (t T:String):Bool:=t==T||(t=="bool"&&T=="int")
def dO (sep:List Nat):List Str->List Nat
 | []=>[]
 |x::r=>x.cps.toList++(r.map λp=>sep++p.cps.toList).flatten
def z0t (sep:Str)(xs:List Str):Str:=⟨(dO sep.cps.toList xs).toArray⟩
def rJ (sep:Str)(xs:List Str):Nat:=(xs.map (·.length)).sum+xs.length*sep.length
def mtD (m:String)(o:D)(xs:List D):Res D:=
 if m="get"then(match o,xs with|.dict es,[k,d]=>if qA k then .ok ((gT es k).getD d)else .no|_,_=>.no)
 else if m="join"then(match o,xs with|.str z,[.list ys]=>(match fC ys with|some ss=>if rJ z ss<=LIM then .ok (.str (z0t z ss))else .no|none=>.no)|_,_=>.no)
 else if m="partition"then(match o,xs with|.str x,[.str y]=>Ag x y|_,_=>.no)
 else if m="find"then(match o,xs with|.str x,[.str y]=>Ah x y|_,_=>.no)
 else .no
def kJ:List D->Res (List D)
 | [.int n]=>if n<=LIM/\-LIM<=n then .ok ((dm n.toNat).map λ(i:Nat)=>.int i)else .no
 |_=>.no
def z17:Nat->List D->List D
 |_,[]=>[]
 |i,x::xs=>.tuple [.int i,x]::z17 (i+1) xs
def zipD:List D->List D->List D
 |x::xs,y::ys=>.tuple [x,y]::zipD xs ys
 |_,_=>[]
def seqR:D->Res (List D)
 |.list xs=>if decide (xs.length<=LIM)then .ok xs else .no
 |.tuple xs=>if decide (xs.length<=LIM)then .ok xs else .no
 |_=>.no
def oc:Option GD->List GD->List GD
 |some y,r=>y::r
 |none,r=>r
def kK (f:D->Res (Option GD)):List D->Res (List GD)
 | []=>.ok []
 |x::xs=>f x>>=λo=>kK f xs>>=λr=>.ok (oc o r)
variable (Κ:List D)(Φ:List Fn)
mutual
def aG:C->Rho->Res GD
 |.var i,ρ=>rG ρ[i]?
 |.non,_=>.ok (.fr,.none)
 |.bl b,_=>.ok (.fr,.bool b)
 |.int i,_=>.ok (.fr,.int i)
 |.str x,_=>.ok (.fr,.str x)
 |.gC b _,_=>.ok (.fr,.bool b)
 |.glob k _,_=>match Κ[k]? with|some d=>if imm d then .ok (.fr,d)else .no|none=>.no
 |.bin op a b,ρ=>aG a ρ>>=λx=>aG b ρ>>=λy=>cL op x.2 y.2>>=λd=>.ok (gN d (cF [x,y]),d)
 |.cmp op a b,ρ=>aG a ρ>>=λx=>aG b ρ>>=λy=>cmpD op x.2 y.2>>=λb=>.ok (.fr,.bool b)
 |.chain op qB a b c,ρ=>aG a ρ>>=λx=>aG b ρ>>=λy=>cmpD op x.2 y.2>>=λk=>if k then aG c ρ>>=λz=>cmpD qB y.2 z.2>>=λk'=>.ok (.fr,.bool k')else .ok (.fr,.bool false)
 |.mI ng a,ρ=>aG a ρ>>=λx=>.ok (.fr,.bool (match x.2 with|.none=>!ng|_=>ng))
 |.and a b,ρ=>aG a ρ>>=λx=>match x.2 with|.bool c=>if c then aG b ρ else .ok (.fr,.bool false)|_=>.no
 |.or a b,ρ=>aG a ρ>>=λx=>match x.2 with|.bool c=>if c then .ok (.fr,.bool true)else aG b ρ|_=>.no
 |.not a,ρ=>aG a ρ>>=λx=>gD x.2>>=λc=>.ok (.fr,.bool (!c))
 |.tup xs,ρ=>dD xs ρ>>=λys=>.ok (gJ (.tuple (ys.map (·.2))) (cF ys),.tuple (ys.map (·.2)))
 |.lst xs,ρ=>dD xs ρ>>=λys=>.ok (cF ys,.list (ys.map (·.2)))
 |.gU,_=>.ok (.fr,.dict [])
 |.ix a b,ρ=>aG a ρ>>=λx=>aG b ρ>>=λy=>iD x.2 y.2>>=λd=>.ok (gJ d x.1,d)
 |.sl a lo hi,ρ=>aG a ρ>>=λx=>rK lo ρ>>=λl=>rK hi ρ>>=λh=>qF x.2 l h>>=λd=>.ok (gN d (cF [x]),d)
 |.call k _ args,ρ=>dD args ρ>>=λys=>match Φ[k]? with|some m=>m (ys.map (·.2))>>=λr=>.ok (gJ r.2 (iP r.1),r.2)|none=>.no
 |.bi f args,ρ=>dD args ρ>>=λys=>biD f (ys.map (·.2))>>=λd=>.ok (gJ d .al,d)
 |.mJ f a,ρ=>Ai a ρ>>=λw=>aggD f w.2.1 w.2.2>>=λd=>.ok (gJ d (if imms w.2.2 then .fr else agG w.1),d)
 |.eP a ts,ρ=>aG a ρ>>=λx=>.ok (.fr,.bool (ts.any λT=>i' (gY x.2) T))
 |.mt m o args,ρ=>aG o ρ>>=λx=>dD args ρ>>=λys=>mtD m x.2 (ys.map (·.2))>>=λd=>.ok (gJ d .al,d)
 |.qC a b,ρ=>aG a ρ>>=λx=>aG b ρ>>=λy=>gX x.2 y.2>>=λd=>.ok (.fr,d)
 |.comp nt js _ tg it cond elt,ρ=>evW it ρ>>=λw=>kK (λx=>fB tg (gJ x w.1,x) (bd nt none++js.map λj=>fP (ρ.getD j none))>>=λρ1=>dY cond ρ1>>=λk=>if k then aG elt ρ1>>=λy=>.ok (some y)else .ok none) w.2>>=λys=>.ok (qD ys,.list (ys.map (·.2)))
 |_,_=>.no
def dY:C->Rho->Res Bool
 |.and a b,ρ=>dY a ρ>>=λc=>if c then dY b ρ else .ok false
 |.or a b,ρ=>dY a ρ>>=λc=>if c then .ok true else dY b ρ
 |.not a,ρ=>dY a ρ>>=λc=>.ok (!c)
 |.nil,_=>.ok true
 |.tv a,ρ=>aG a ρ>>=λx=>gD x.2
 |_,_=>.no
def dD:C->Rho->Res (List GD)
 |.nil,_=>.ok []
 |.cons a r,ρ=>aG a ρ>>=λx=>dD r ρ>>=λxs=>.ok (x::xs)
 |_,_=>.no
def rK:C->Rho->Res (Option Int)
 |.nil,_=>.ok none
 |.tv a,ρ=>aG a ρ>>=λx=>rH x.2
 |_,_=>.no
def Ai:C->Rho->Res (G×Bool×List D)
 |.tv a,ρ=>aG a ρ>>=λx=>z69 x.2>>=λp=>.ok (x.1,p)
 |_,_=>.no
def evW:C->Rho->Res (G×List D)
 |.gV args,ρ=>dD args ρ>>=λys=>kJ (ys.map (·.2))>>=λxs=>.ok (.fr,xs)
 |.tv a,ρ=>aG a ρ>>=λx=>z4q x.2>>=λxs=>.ok (x.1,xs)
 |.enum a,ρ=>aG a ρ>>=λx=>seqR x.2>>=λxs=>.ok (.al,z17 0 xs)
 |.zip a b,ρ=>aG a ρ>>=λx=>aG b ρ>>=λy=>seqR x.2>>=λxs=>seqR y.2>>=λys=>.ok (.al,zipD xs ys)
 |_,_=>.no
end
def oR:Res Out->(Rho->Res Out)->Res Out
 |.ok (.nx ρ),k=>k ρ
 |r,_=>r
def cG (f:D->Rho->Res Out):List D->Rho->Res Out
 | [],ρ=>.ok (.nx ρ)
 |x::xs,ρ=>match f x ρ with
  |.ok (.nx dZ)=>cG f xs dZ
  |.ok (.ct dZ)=>cG f xs dZ
  |.ok (.bk dZ)=>.ok (.nx dZ)
  |.ok (.rt g d)=>.ok (.rt g d)
  |.exc e=>.exc e
  |.no=>.no
def sZ (c:Rho->Res Bool)(f:Rho->Res Out):Nat->Rho->Res Out
 |0,_=>.no
 |n+1,ρ=>c ρ>>=λk=>if k then(match f ρ with
  |.ok (.nx dZ)=>sZ c f n dZ
  |.ok (.ct dZ)=>sZ c f n dZ
  |.ok (.bk dZ)=>.ok (.nx dZ)
  |.ok (.rt g d)=>.ok (.rt g d)
  |.exc e=>.exc e
  |.no=>.no)else .ok (.nx ρ)
def putAt (xs:List D)(ys:List GD):Res (List D):=match ys with
 | [x,y]=>(match x.2 with
  |.int i=>if okIn y&&decide (xs.length<LIM)&&decide (0<=i)&&decide (i<=xs.length)then .ok (xs.take i.toNat++y.2::xs.drop i.toNat)else .no
  |_=>.no)
 |_=>.no
def mL (m:String)(xs:List D)(ys:List GD):Res (List D):=
 if m="append"then(match ys with| [y]=>if okIn y&&decide (xs.length<LIM)then .ok (xs++[y.2])else .no|_=>.no)
 else .no
def oS (ρ:Rho)(i:Nat):Bool:=match ρ[i]? with
 |some (some (.fr,_))=>true
 |_=>false
def xp (i:Nat)(ρ:Rho):Res (G×List D×Rho):=match ρ[i]? with
 |some (some (.fr,d))=>z4q d>>=λxs=>.ok (.al,xs,ρ.set i (some (.al,d)))
 |_=>.no
def Aj:Option GD->Option GD
 |some (.fr,.list xs)=>some (.al,.list xs)
 |s=>s
def kL (x:GD)(ρ:Rho):Res (G×List D×Rho):=match x.2 with
 |.list xs=>if imms xs then .ok (.al,xs,ρ.map Aj)else .no
 |_=>.no
def mM (x:GD):Bool:=match x.2 with
 |.list _=>!(x.1==.al)
 |d=>!(x.1==.al)||imm d
def oT (ys:List GD)(ρ:Rho):Res (G×List D×Rho):=match ys with
 | [x]=>if mM x then seqR x.2>>=λxs=>.ok (.al,z17 0 xs,ρ)else .no
 |_=>.no
def kM (ys:List GD)(ρ:Rho):Res (G×List D×Rho):=match ys with
 | [x,y]=>if mM x&&mM y then seqR x.2>>=λxs=>seqR y.2>>=λzs=>.ok (.al,zipD xs zs,ρ)else .no
 |_=>.no
def iE (it:C)(ρ:Rho):Bool:=match evW Κ Φ it ρ with
 |.ok w=>w.1==.al
 |_=>false
def oU (it:C)(ρ:Rho):Res (G×List D×Rho):=evW Κ Φ it ρ>>=λw=>if w.1==.al then .no else .ok (w.1,w.2,ρ)
def evF (it:C)(ρ:Rho):Res (G×List D×Rho):=match it with
 |.tv (.var i)=>if oS ρ i then xp i ρ else if iE Κ Φ it ρ then aG Κ Φ (.var i) ρ>>=λx=>kL x ρ else oU Κ Φ it ρ
 |.tv a=>if iE Κ Φ it ρ then aG Κ Φ a ρ>>=λx=>kL x ρ else oU Κ Φ it ρ
 |.enum a=>dD Κ Φ (.cons a .nil) ρ>>=λys=>oT ys ρ
 |.zip a b=>dD Κ Φ (.cons a (.cons b .nil)) ρ>>=λys=>kM ys ρ
 |it=>oU Κ Φ it ρ
def excOf:Res GD->Option Str
 |.exc (.str c)=>some c
 |_=>none
def lN (xs:List D):Option D:=match xs.getLast? with
 |some d=>if imm d then some d else none
 |none=>none
def aK:S->Rho->Res Out
 |.nil,ρ=>.ok (.nx ρ)
 |.seq a b,ρ=>oR (aK a ρ) (aK b)
 |.bad,_=>.no
 |.asg (.nm i) e,ρ=>aG Κ Φ e ρ>>=λx=>.ok (.nx (ρ.set i (some (z1u x))))
 |.asg t e,ρ=>aG Κ Φ e ρ>>=λx=>fB t x ρ>>=λdZ=>.ok (.nx dZ)
 |.mut m i args,ρ=>dD Κ Φ args ρ>>=λys=>match ρ[i]? with
  |some (some (.fr,.list xs))=>mL m xs ys>>=λAl=>.ok (.nx ((ρ.set i (some (.fr,.list Al))).map z0g))
  |_=>.no
 |.ret e,ρ=>match e with
  |.var i=>match ρ[i]? with
   |some (some (g,d))=>.ok (.rt (if imm d then .fr else iP g) d)
   |_=>.no
  |e=>aG Κ Φ e ρ>>=λx=>.ok (.rt (iP x.1) x.2)
 |.aT c a b,ρ=>dY Κ Φ c ρ>>=λk=>if k then aK a ρ else aK b ρ
 |.bO t it b,ρ=>evF Κ Φ it ρ>>=λw=>cG (λx ρ1=>fB t (gJ x w.1,x) ρ1>>=λLM=>aK b LM) w.2.1 w.2.2
 |.wh n c b,ρ=>sZ (dY Κ Φ c) (aK b) n ρ
 |.cnt,ρ=>.ok (.ct ρ)
 |.pop j i,ρ=>match ρ[i]? with
  |some (some (.fr,.list xs))=>(match lN xs with
   |some d=>.ok (.nx (((ρ.set i (some (.fr,.list xs.dropLast))).map z0g).set j (some (.al,d))))
   |none=>.no)
  |_=>.no
 |.pap i a r,ρ=>aG Κ Φ a ρ>>=λx=>match ρ[i]? with
  |some (some (.fr,.list xs))=>(match lN xs with
   |some d=>dD Κ Φ r ((ρ.set i (some (.fr,.list xs.dropLast))).map z0g)>>=λzs=>if imm x.2&&imms (zs.map (·.2))&&decide (xs.length<=LIM)then .ok (.nx ((((ρ.set i (some (.fr,.list xs.dropLast))).map z0g).set i (some (.fr,.list (xs.dropLast++[.tuple (x.2::d::zs.map (·.2))])))).map z0g))else .no
   |none=>.no)
  |_=>.no
def LN (Κ:List D)(Φ:List Fn)(_:S)(_:Rho):Option Str:=none
def bC (n:Nat)(s:S)(ds:List D):Res GD:=match aK Κ Φ s (ds.map (λd=>some (.od,d))++bd (n-ds.length) none)with
 |.ok (.nx _)=>.ok (.fr,.none)
 |.ok (.rt g d)=>.ok (g,d)
 |.ok _=>.no
 |_=>match LN Κ Φ s (ds.map (λd=>some (.od,d))++bd (n-ds.length) none)with
  |some c=>.exc (.str c)
  |none=>.no
end
open PySem.Spec PyProof.Rows L2
def kD:Key->D
 |.inl i=>.int i
 |.inr x=>.str x
def keyOk:Key->Prop
 |.inl _=>True
 |.inr x=>PyData.strOk x=true
def KL (K:W.Frag)(a:Addr)(xs:List V):Prop:=∃(o:Obj) (fN:Array Value) (n:Nat),K.lookup a=some o/\o.cls=.type "list"/\o.dict=none/\o.data=.seq fN n/\fN.size<=av/\Vals xs fN.toList
abbrev Ad:=Option Addr
def FL (K:W.Frag)(H:Hp)(a:Addr)(xs:List V):Prop:=(∃o,H a=some (.gO o (.lst xs)))\/KL K a xs
def nw (H:Hp):Ad->Prop
 |some a=>H a=none
 |none=>False
section
variable (K:W.Frag)(H:Hp)(B:Ad->Prop)
mutual
def Rep:V->ae->Prop
 |v,.none=>v=.non
 |v,.bool b=>v=.bl b
 |v,.int i=>v=.int i
 |v,.str x=>v=.str x/\PyData.strOk x=true
 |v,.tuple ds=>∃a vs,v=.ref a/\dB K H a vs/\Reps vs ds
 |v,.list ds=>∃a vs,v=.ref a/\((H a=some (.lst vs)/\B (some a))\/(FL K H a vs/\B none))/\Reps vs ds
 |v,.dict es=>∃a aW,v=.ref a/\H a=some (.dK aW)/\B (some a)/\cQ aW es
def Reps:List V->List ae->Prop
 |vs,[]=>vs=[]
 |vs,d::ds=>∃v r,vs=v::r/\Rep v d/\Reps r ds
def cQ:List (Key×V)->List (ae×ae)->Prop
 |aW,[]=>aW=[]
 |aW,(kd,d)::es=>∃k v r,aW=(k,v)::r/\kd=kD k/\keyOk k/\Rep v d/\cQ r es
end
end
def Fix:HO->Prop
 |.tup _=>True
 |.gO _ (.lst _)=>True
 |.gO _ (.tup _)=>True
 |_=>False
section
variable {K:W.Frag}{H H':Hp}{B B':Ad->Prop}
theorem FL.keep (b:∀a o,H a=some o->(B (some a)\/Fix o)->H' a=some o)(r:FL K H a c):FL K H' a c:=by
 rcases r with⟨o,r⟩|r
 ·exact .inl ⟨o,b a _ r (.inr True.intro)⟩
 ·exact .inr r
theorem _root_.L2.dB.keep (b:∀a o,H a=some o->(B (some a)\/Fix o)->H' a=some o)(r:dB K H a c):dB K H' a c:=by
 rcases r with(r|⟨o,r⟩)|r
 ·exact .inl (.inl (b a _ r (.inr True.intro)))
 ·exact .inl (.inr ⟨o,b a _ r (.inr True.intro)⟩)
 ·exact .inr r
mutual
theorem Rep.keep (hH:∀a o,H a=some o->(B (some a)\/Fix o)->H' a=some o)(hB:∀a,B a->B' a):∀{v:V} (d:ae),Rep K H B v d->Rep K H' B' v d
 |v,.none,r=>r
 |v,.bool b,r=>r
 |v,.int i,r=>r
 |v,.str x,r=>r
 |v,.tuple ds,r=>by obtain⟨a,vs,e,h,q⟩:=r;exact⟨a,vs,e,h.keep hH,Reps.keep hH hB ds q⟩
 |v,.list ds,r=>by
  obtain⟨a,vs,e,h,q⟩:=r;refine⟨a,vs,e,?_,Reps.keep hH hB ds q⟩;rcases h with⟨h,b⟩|h
  ·exact .inl ⟨hH a _ h (.inl b),hB _ b⟩
  ·exact .inr ⟨FL.keep hH h.1,hB _ h.2⟩
 |v,.dict es,r=>by obtain⟨a,aW,e,h,b,q⟩:=r;exact⟨a,aW,e,hH a _ h (.inl b),hB _ b,cQ.keep hH hB es q⟩
theorem Reps.keep (hH:∀a o,H a=some o->(B (some a)\/Fix o)->H' a=some o)(hB:∀a,B a->B' a):∀{vs:List V} (ds:List ae),Reps K H B vs ds->Reps K H' B' vs ds
 |vs,[],r=>r
 |vs,d::ds,r=>by obtain⟨v,t,e,h,q⟩:=r;exact⟨v,t,e,Rep.keep hH hB d h,Reps.keep hH hB ds q⟩
theorem cQ.keep (hH:∀a o,H a=some o->(B (some a)\/Fix o)->H' a=some o)(hB:∀a,B a->B' a):∀{aW:List (Key×V)} (es:List (ae×ae)),cQ K H B aW es->cQ K H' B' aW es
 |aW,[],r=>r
 |aW,(kd,d)::es,r=>by obtain⟨k,v,t,e,e2,ok,h,q⟩:=r;exact⟨k,v,t,e,e2,ok,Rep.keep hH hB d h,cQ.keep hH hB es q⟩
end
theorem Rep.same (s:Same H H')(b:∀a,B a->B' a)(r:Rep K H B v d):Rep K H' B' v d:=Rep.keep (λa o e _=>s a o e) b d r
theorem Reps.same (s:Same H H')(c:∀a,B a->B' a)(r:Reps K H B d b):Reps K H' B' d b:=Reps.keep (λa o e _=>s a o e) c b r
theorem cQ.same (s:Same H H')(c:∀a,B a->B' a)(r:cQ K H B d b):cQ K H' B' d b:=cQ.keep (λa o e _=>s a o e) c b r
theorem Rep.weak (b:∀a,B a->B' a)(r:Rep K H B v d):Rep K H B' v d:=r.same (λ_ _ e=>e) b
theorem Reps.weak (b:∀a,B a->B' a)(r:Reps K H B v d):Reps K H B' v d:=r.same (λ_ _ e=>e) b
mutual
theorem Rep.bR:∀{v:V} (d:ae),imm d=true->Rep K H B v d->Rep K H B' v d
 |v,.none,_,r=>r
 |v,.bool b,_,r=>r
 |v,.int i,_,r=>r
 |v,.str x,_,r=>r
 |v,.tuple ds,i,r=>by obtain⟨a,vs,e,h,q⟩:=r;exact⟨a,vs,e,h,Reps.bR ds (i) q⟩
 |v,.list ds,i,r=>by cases(show false=true from i)
 |v,.dict es,i,r=>by cases(show false=true from i)
theorem Reps.bR:∀{vs:List V} (ds:List ae),imms ds=true->Reps K H B vs ds->Reps K H B' vs ds
 |vs,[],_,r=>r
 |vs,d::ds,i,r=>by have i:=ba.mp (show(imm d&&imms ds)=true from i);obtain⟨v,t,e,h,q⟩:=r;exact⟨v,t,e,Rep.bR d i.1 h,Reps.bR ds i.2 q⟩
end
mutual
theorem Rep.bW (hH:∀a o,H a=some o->Fix o->H' a=some o):∀{v:V} (d:ae),imm d=true->Rep K H B v d->Rep K H' B' v d
 |v,.none,_,r=>r
 |v,.bool b,_,r=>r
 |v,.int i,_,r=>r
 |v,.str x,_,r=>r
 |v,.tuple ds,i,r=>by obtain⟨a,vs,e,h,q⟩:=r;exact⟨a,vs,e,h.keep (B:=λ_=>False) (λa o e f=>hH a o e (f.resolve_left id)),Reps.bW hH ds (i) q⟩
 |v,.list ds,i,r=>by cases(show false=true from i)
 |v,.dict es,i,r=>by cases(show false=true from i)
theorem Reps.bW (hH:∀a o,H a=some o->Fix o->H' a=some o):∀{vs:List V} (ds:List ae),imms ds=true->Reps K H B vs ds->Reps K H' B' vs ds
 |vs,[],_,r=>r
 |vs,d::ds,i,r=>by have i:=ba.mp (show(imm d&&imms ds)=true from i);obtain⟨v,t,e,h,q⟩:=r;exact⟨v,t,e,Rep.bW hH d i.1 h,Reps.bW hH ds i.2 q⟩
end
theorem Reps.length:∀{vs:List V} {ds:List D},Reps K H B vs ds->vs.length=ds.length
 |vs,[],r=>by have e:vs=[]:=r;subst e;rfl
 |vs,d::ds,r=>by obtain⟨v,t,rfl,h,q⟩:=r;rw[ay,ay,q.length]
theorem Reps.get:∀{vs:List V} {a:List D} {i:Nat} {d:D},Reps K H B vs a->a[i]?=some d->∃v,vs[i]?=some v/\Rep K H B v d
 |vs,[],i,d,r,e=>by simp at e
 |vs,c::a,0,d,r,e=>by
  obtain⟨v,t,b,h,q⟩:=r;subst b;have:c=d:=by simpa using e
  subst this;exact⟨v,rfl,h⟩
 |vs,c::a,i+1,d,r,e=>by obtain⟨v,t,b,h,q⟩:=r;subst b;obtain⟨u,f,g⟩:=q.get (by simpa using e);exact⟨u,by simpa using f,g⟩
theorem Reps.kN:∀{j:List V} {b:List D} {i:Nat} {v:V},Reps K H B j b->j[i]?=some v->∃d,b[i]?=some d/\Rep K H B v d
 |j,[],i,v,r,e=>by have a:j=[]:=r;subst a;simp at e
 |j,c::b,0,v,r,e=>by
  obtain⟨u,t,a,h,q⟩:=r;subst a;have:u=v:=by simpa using e
  subst this;exact⟨c,rfl,h⟩
 |j,c::b,i+1,v,r,e=>by obtain⟨u,t,a,h,q⟩:=r;subst a;obtain⟨d,f,g⟩:=q.kN (by simpa using e);exact⟨d,by simpa using f,g⟩
theorem Reps.cons {v:V}{d:D}{vs:List V}{a:List D}(h:Rep K H B v d)(r:Reps K H B vs a):Reps K H B (v::vs) (d::a):=⟨v,vs,rfl,h,r⟩
theorem Reps.append:∀{b ws:List V} {a c:List D},Reps K H B b a->Reps K H B ws c->Reps K H B (b++ws) (a++c)
 |b,ws,[],c,r,q=>by have e:b=[]:=r;subst e;exact q
 |b,ws,d::a,c,r,q=>by obtain⟨v,t,rfl,h,p⟩:=r;exact⟨v,t++ws,rfl,h,p.append q⟩
theorem Reps.take:∀{b:List V} {a:List D} n,Reps K H B b a->Reps K H B (b.take n) (a.take n)
 |b,a,0,r=>by rw[List.take_zero];exact rfl
 |b,[],n+1,r=>by have e:b=[]:=r;subst e;exact rfl
 |b,d::a,n+1,r=>by obtain⟨v,t,e,h,p⟩:=r;subst e;exact⟨v,t.take n,rfl,h,p.take n⟩
theorem Reps.drop:∀{b:List V} {a:List D} (n:Nat),Reps K H B b a->Reps K H B (b.drop n) (a.drop n)
 |b,a,0,r=>r
 |b,[],n+1,r=>by have e:b=[]:=r;subst e;exact rfl
 |b,d::a,n+1,r=>by obtain⟨v,t,rfl,h,p⟩:=r;exact p.drop n
mutual
theorem Rep.there:∀{v:V} (d:ae),Rep K H B v d->Rep K H (λa=>B a/\¬nw H a) v d
 |v,.none,r=>r
 |v,.bool b,r=>r
 |v,.int i,r=>r
 |v,.str x,r=>r
 |v,.tuple ds,r=>by obtain⟨a,vs,e,h,q⟩:=r;exact⟨a,vs,e,h,Reps.there ds q⟩
 |v,.list ds,r=>by
  obtain⟨a,vs,e,h,q⟩:=r;refine⟨a,vs,e,?_,Reps.there ds q⟩;rcases h with⟨h,b⟩|h
  ·refine .inl ⟨h,b,λz=>?_⟩;have z':H a=none:=z;rw[h]at z';cases z'
  ·exact .inr ⟨h.1,h.2,λz=>z⟩
 |v,.dict es,r=>by obtain⟨a,aW,e,h,b,q⟩:=r;exact⟨a,aW,e,h,⟨b,λz=>by have z':H a=none:=z;rw[h]at z';cases z'⟩,cQ.there es q⟩
theorem Reps.there:∀{vs:List V} (ds:List ae),Reps K H B vs ds->Reps K H (λa=>B a/\¬nw H a) vs ds
 |vs,[],r=>r
 |vs,d::ds,r=>by obtain⟨v,t,e,h,q⟩:=r;exact⟨v,t,e,Rep.there d h,Reps.there ds q⟩
theorem cQ.there:∀{aW:List (Key×V)} (es:List (ae×ae)),cQ K H B aW es->cQ K H (λa=>B a/\¬nw H a) aW es
 |aW,[],r=>r
 |aW,(kd,d)::es,r=>by obtain⟨k,v,t,e,e2,ok,h,q⟩:=r;exact⟨k,v,t,e,e2,ok,Rep.there d h,cQ.there es q⟩
end
end
structure Fm where
 H0:Hp
 V:Addr->Prop
 O:Addr->Option Nat
 z:Prop
def Bin (F:Fm):Ad->Prop
 |some a=>F.O a=none/\F.H0 a=none/\F.V a
 |none=>False
def bS (F:Fm):Ad->Prop
 |some a=>F.V a
 |none=>F.z
def fQ (F:Fm):Ad->Prop
 |some a=>F.H0 a≠none/\F.V a
 |none=>F.z
def Slot (K:W.Frag)(F:Fm)(H:Hp)(i:Nat):G->V->D->Prop
 |.fr,v,d=>∃p,v=.ref p/\F.O p=some i/\((∃vs ds,d=.list ds/\H p=some (.lst vs)/\Reps K H (Bin F) vs ds)\/(∃aW es,d=.dict es/\H p=some (.dK aW)/\cQ K H (Bin F) aW es))
 |.od,v,d=>Rep K H (fQ F) v d
 |.al,v,d=>Rep K H (bS F) v d
 |.nu,v,d=>Rep K H (Bin F) v d
structure StOk (K:W.Frag)(F:Fm)(H:Hp)(σ:L2.St)(ρ:Rho):Prop where
 ext:Same F.H0 H
 aN:∀a,H a=none->F.V a
 own:∀a i,F.O a=some i->F.H0 a=none/\F.V a/\((∃xs,H a=some (.lst xs))\/∃aW,H a=some (.dK aW))
 len:σ.length=ρ.length
 sl:∀i g d,ρ[i]?=some (some (g,d))->∃v,σ[i]?=some (some v)/\Slot K F H i g v d
def BG (F:Fm)(H:Hp):G->Ad->Prop
 |.fr=>nw H
 |.od=>fQ F
 |.al=>bS F
 |.nu=>λa=>nw H a\/Bin F a
section
variable {K:W.Frag}{F:Fm}{H H':Hp}{σ:L2.St}{ρ:Rho}
theorem Slot.same (s:Same H H')(h:Slot K F H i g v d):Slot K F H' i g v d:=by
 cases g with
 |fr=>
  obtain⟨p,e,o,h⟩:=h;refine⟨p,e,o,?_⟩;rcases h with⟨j,a,c,f,r⟩|⟨j,a,c,f,r⟩
  ·exact .inl ⟨j,a,c,s _ _ f,r.same s λ_ b=>b⟩
  ·exact .inr ⟨j,a,c,s _ _ f,r.same s λ_ b=>b⟩
 |od=>exact Rep.same s (λ_ b=>b) h
 |al=>exact Rep.same s (λ_ b=>b) h
 |nu=>exact Rep.same s (λ_ b=>b) h
theorem _root_.L2.Same.none (s:Same H H')(h:H' a=none):H a=none:=by
 cases e:H a with
 |none=>rfl
 |some o=>rw[s a o e]at h;cases h
theorem StOk.same (s:Same H H')(h:StOk K F H σ ρ):StOk K F H' σ ρ where
 ext:=λa o e=>s a o (h.ext a o e)
 aN:=λa e=>h.aN a (s.none e)
 own:=λa i e=>by
  obtain⟨c,j,b⟩:=h.own a i e;refine⟨c,j,?_⟩;rcases b with⟨f,b⟩|⟨f,b⟩
  ·exact .inl ⟨f,s _ _ b⟩
  ·exact .inr ⟨f,s _ _ b⟩
 len:=h.len
 sl:=λi g d e=>by obtain⟨v,c,b⟩:=h.sl i g d e;exact⟨v,c,b.same s⟩
theorem nw.back (s:Same H H')(h:nw H' a):nw H a:=by
 cases a with
 |none=>exact h
 |some a=>exact s.none h
theorem nw.aN (b:∀a,H a=none->F.V a)(h:nw H a):bS F a:=by
 cases a with
 |none=>exact h.elim
 |some a=>exact b a h
theorem fQ.aN (h:fQ F a):bS F a:=by
 cases a with
 |none=>exact h
 |some a=>exact h.2
theorem Bin.aN (h:Bin F a):bS F a:=by
 cases a with
 |none=>exact h.elim
 |some a=>exact h.2.2
theorem BG.back (s:Same H H')(h:BG F H' g a):BG F H g a:=by
 cases g with
 |fr=>exact nw.back s h
 |od=>exact h
 |al=>exact h
 |nu=>exact h.elim (λh=>.inl (nw.back s h)) .inr
theorem BG.aN (b:∀a,H a=none->F.V a)(h:BG F H g a):bS F a:=by
 cases g with
 |fr=>exact nw.aN b h
 |od=>exact fQ.aN h
 |al=>exact h
 |nu=>exact h.elim (nw.aN b) Bin.aN
theorem Slot.rep (f:∀a i,F.O a=some i->F.V a)(h:Slot K F H i g v d):Rep K H (bS F) v d:=by
 cases g with
 |fr=>
  obtain⟨p,e,o,h⟩:=h;rcases h with⟨k,j,rfl,c,r⟩|⟨k,j,rfl,c,r⟩
  ·exact⟨p,k,e,.inl ⟨c,f _ _ o⟩,r.weak λ_ b=>b.aN⟩
  ·exact⟨p,k,e,c,f _ _ o,cQ.same (λ_ _ e=>e) (λ_ b=>b.aN) r⟩
 |od=>exact Rep.weak (λ_ b=>b.aN) h
 |al=>exact h
 |nu=>exact Rep.weak (λ_ b=>Bin.aN b) h
theorem StOk.jA (h:StOk K F H σ ρ):∀a i,F.O a=some i->F.V a:=λa i e=>(h.own a i e).2.1
theorem StOk.rd (h:StOk K F H σ ρ){i:Nat}(e:rG ρ[i]?=.ok x):∃v,σ[i]?=some (some v)/\Rep K H (BG F H x.1) v x.2:=by
 cases c:ρ[i]? with
 |none=>rw[c]at e;cases e
 |some o=>
  cases o with
  |none=>rw[c]at e;cases e
  |some f=>
   obtain⟨g,d⟩:=f;rw[c]at e;obtain⟨v,j,a⟩:=h.sl i g d c;have k:=(Res.ok.inj e).symm;subst k;refine⟨v,j,?_⟩;by_cases l:imm d=true
   ·show Rep K H (BG F H (if imm d=true then _ else _)) v d;exact Rep.bR d l (a.rep h.jA)
   ·show Rep K H (BG F H (if imm d=true then _ else _)) v d;rw[qf l];cases g with
    |fr=>exact a.rep h.jA
    |od=>exact a
    |al=>exact a
    |nu=>exact Rep.weak (λ_ b=>.inr b) a
end
structure Gm where
 N:List Str
 sc:Scope
 blk:Bool:=false
 free:List Str
 fns:List (Str×Nat)
 cst:List Str
 cm:Bool:=true
 xc:Option (Str×Str):=none
 sub:List (Str×Str×Bool):=[]
 rs:List Str:=[]
 fK:List (Str×Str):=[]
section
variable (Γ:Gm)
def gZ (i:Nat)(x:Str):Bool:=(Γ.N[i]?==some x)&&(Γ.sc.names.lookup x==some .local||Γ.sc.names.lookup x==some .cell||Γ.sc.names.lookup x==some .free)&& !(x==("__debug__":Str))&& !(x==("__classdict__":Str))
def lO (x:Str):Bool:=(Γ.sc.names.lookup x==some .globalImplicit)&& !(x==("__debug__":Str))
def dI (x:Str):Bool:=lO Γ x&&Γ.free.contains x&& !(x==("__name__":Str))
def kO (i:Nat)(x:Str):Bool:=(Γ.N[i]?==some x)&&(Γ.sc.names.lookup x==some .local||(!Γ.blk&&Γ.sc.names.lookup x==some .cell))
end
def tgIx:Tg->List Nat
 |.nm i=>[i]
 |.tp is=>is
def Am (scope sc:Scope):Scope:={scope with names:=scope.names.map λ(n,k)=>if(k==.free&&sc.kind==.function&&sc.names.lookup n==some .cell)then(n,.cell)else(n,k)}
def plainT:Expr->Bool
 |.UnaryOp .Not _ _=>false
 |.BoolOp _ _ _=>false
 |.IfExp _ _ _ _=>false
 |.Compare _ _ _ _=>false
 |_=>true
def EF:Expr->Bool
 |.Compare _ _ _ _=>true
 |_=>false
def z5d:Expr->Bool
 |.Slice _ _ _ _=>false
 |_=>true
def z0o:Expr->Bool
 |.Call (.Name _ _) [] [] _=>false
 |_=>true
def tf:Expr->Bool
 |.Set _ _ _=>false
 |_=>true
def isTup:Expr->Bool
 |.Tuple _ _ _=>true
 |_=>false
def An:Expr->Option Str
 |.Name x _=>some x
 |_=>none
def jB:Expr->Option Const
 |.Constant v _ _=>some v
 |_=>none
def rL:Expr->Option (Expr×mj×Expr)
 |.BinOp l o r _=>some (l,o,r)
 |_=>none
def xq:Expr->Option (UnaryOp×Expr)
 |.UnaryOp o x _=>some (o,x)
 |_=>none
def rM:Expr->Option (Expr×List CmpOp×List Expr)
 |.Compare l o r _=>some (l,o,r)
 |_=>none
def ti:Expr->Option (BoolOp×List Expr×Pos)
 |.BoolOp o xs p=>some (o,xs,p)
 |_=>none
def uQ:Expr->Option (Expr×Expr×Expr)
 |.IfExp t x y _=>some (t,x,y)
 |_=>none
def mO:Expr->Option (List Expr)
 |.Tuple es _ _=>some es
 |_=>none
def rN:Expr->Option (List Expr)
 |.List es _=>some es
 |_=>none
def Ao:Expr->Option (List (Option Expr)×List Expr)
 |.Dict k v _=>some (k,v)
 |_=>none
def mP:Expr->Option (Expr×Expr)
 |.Subscript x i _=>some (x,i)
 |_=>none
def uR:Expr->Option (Option Expr×Option Expr×Option Expr)
 |.Slice l h s _=>some (l,h,s)
 |_=>none
def Ap:Expr->Option (Expr×List Expr×List lr×Pos)
 |.Call f es k p=>some (f,es,k,p)
 |_=>none
def tj:Expr->Option (Expr×Str×Pos)
 |.Attribute x n p=>some (x,n,p)
 |_=>none
def EG:Expr->Option (Expr×List Comprehension×Scope)
 |.ListComp el gs s _=>some (el,gs,s)
 |_=>none
def bP {α:Type}:List α->Option α
 | [x]=>some x
 |_=>none
def mQ {α:Type}:List α->Option (α×α)
 | [x,y]=>some (x,y)
 |_=>none
def jC (e:Expr):Option (Str×List Expr):=(Ap e).bind λv=>if v.2.2.1.isEmpty then(An v.1).map λx=>(x,v.2.1)else none
def mR (e:Expr):Option (Expr×Str×List Expr×Bool):=(Ap e).bind λv=>if v.2.2.1.isEmpty then(tj v.1).map λu=>(u.1,u.2.1,v.2.1,u.2.2.endLine==v.2.2.2.line)else none
def tm (f g:Expr->Bool)(o:BoolOp)(p:Pos):List Expr->Bool
 |x::y::r=>f x&&(if r.isEmpty then g y else g (.BoolOp o (y::r) p))
 |_=>false
def uS (n:Bool)(f:Expr->Bool):List Expr->Bool
 | []=>n
 |t::r=>r.isEmpty&&f t
def uT:C->Bool
 |.nil=>true
 |_=>false
def hT (f:Str->Bool)(e:Expr):Bool:=(An e).any f
def Aq (Γ:Gm):List Nat->List Expr->Bool
 | [],es=>es.isEmpty
 |i::is,es=>match es with|e::es=>hT (kO Γ i) e&&Aq Γ is es| []=>false
def rO (Γ:Gm):Tg->Expr->Bool
 |.nm i,e=>hT (kO Γ i) e
 |.tp is,e=>Γ.cm&&(mO e).any (Aq Γ is)
def xr:mj->Bool
 |.Add|.Sub|.Mult|.FloorDiv|.Mod|.Pow=>true
 |_=>false
def z2h:CmpOp->Bool
 |.Is|.IsNot|.GtE=>false
 |_=>true
def Ar (T:String):Bool:=tysB.contains T
def tyB (Γ:Gm)(T:String)(t:Expr):Bool:=hT (λx=>(x==Str.ofString T)&&dI Γ x&&Ar T) t
def uU:List String:=["tuple","all","max"]
def LO:Tg->Bool
 |.nm _=>true
 |.tp _=>false
def isNm:Expr->Bool
 |.Name _ _=>true
 |_=>false
def xu:C->Expr->Bool
 |.enum _,e=>isTup e
 |.zip _ _,e=>isTup e||isNm e
 |_,_=>true
def rP (f:Expr->Bool)(e:Expr):Bool:=(mR e).any λm=>f m.1&&(m.2.1==("pop":Str))&&m.2.2.1.isEmpty&&m.2.2.2
def As (f g:Expr->Bool)(h:List Expr->Bool):List Expr->Bool
 |a::b::l=>f a&&g b&&h l
 |_=>false
mutual
def chkE (Γ:Gm):C->Expr->Bool
 |.var i,e=>hT (gZ Γ i) e
 |.non,e=>decide (jB e=some .none)
 |.bl b,e=>decide (jB e=some (.bool b))
 |.int i,e=>decide (jB e=some (.int i))
 |.str x,e=>decide (jB e=some (.str x))&&PyData.strOk x
 |.glob k x,e=>hT (λy=>(x==y)&&lO Γ x&&(Γ.cst[k]?==some x)) e
 |.bin op a b,e=>(rL e).any λv=>decide (op=v.2.1)&&xr op&&chkE Γ a v.1&&chkE Γ b v.2.2
 |.cmp op a b,e=>(rM e).any λv=>decide (v.2.1=[op])&&(bP v.2.2).any λr=>z2h op&& !(dq op r)&&chkE Γ a v.1&&chkE Γ b r
 |.chain op qB a b c,e=>(rM e).any λv=>decide (v.2.1=[op,qB])&&(mQ v.2.2).any λr=>z2h op&&z2h qB&& !(li [op,qB] [r.1,r.2])&&chkE Γ a v.1&&(chkE Γ b r.1&&chkE Γ c r.2)
 |.mI ng a,e=>(rM e).any λv=>decide (v.2.1=[if ng then .IsNot else .Is])&&(bP v.2.2).any λr=>decide (jB r=some .none)&&chkE Γ a v.1
 |.and a b,e=>(ti e).any λv=>decide (v.1=.And)&&tm (λx=>chkE Γ a x) (λx=>chkE Γ b x) .And v.2.2 v.2.1
 |.or a b,e=>(ti e).any λv=>decide (v.1=.Or)&&tm (λx=>chkE Γ a x) (λx=>chkE Γ b x) .Or v.2.2 v.2.1
 |.not a,e=>(xq e).any λv=>decide (v.1=.Not)&&chkE Γ a v.2
 |.tup xs,e=>(mO e).any λes=>decide (es.length<=1000)&&dP Γ xs es
 |.lst xs,e=>(rN e).any λes=>decide (es.length<=1000)&&dP Γ xs es
 |.gU,e=>(Ao e).any λv=>v.1.isEmpty&&v.2.isEmpty
 |.ix a b,e=>(mP e).any λv=>z5d v.2&&chkE Γ a v.1&&chkE Γ b v.2
 |.sl a lo hi,e=>(mP e).any λv=>(uR v.2).any λs=>s.2.2.isNone&&chkE Γ a v.1&&oV Γ lo s.1&&oV Γ hi s.2.1
 |.call k f args,e=>(jC e).any λv=>(Γ.cm&&(v.1==f))&&lO Γ v.1&&(Γ.fns[k]?==some (f,v.2.length))&&dP Γ args v.2&& !v.2.isEmpty
 |.bi f args,e=>(jC e).any λv=>(v.1==Str.ofString f)&&dI Γ v.1&&((["len","int","str"].contains f)&&(Γ.cm||f=="int"))&&dP Γ args v.2&& !v.2.isEmpty
 |.mJ f a,e=>(jC e).any λv=>(v.1==Str.ofString f)&&dI Γ v.1&&(uU.contains f&&Γ.cm)&&(bP v.2).any λy=>!isStar y&&rQ Γ a y
 |.eP a ts,e=>(jC e).any λv=>(v.1==("isinstance":Str))&&dI Γ v.1&&(mQ v.2).any λy=>!isStar y.1&&chkE Γ a y.1&&(bP ts).any λT=>tyB Γ T y.2
 |.mt m o args,e=>(mR e).any λv=>((v.2.1==Str.ofString m)&& ["join"].contains m&&z0o v.1&&v.2.2.2&&decide (v.2.2.1.length<20))&&chkE Γ o v.1&&dP Γ args v.2.2.1&& !v.2.2.1.isEmpty
 |.comp nt js N' tg it cond elt,e=>(EG e).any λv=>(bP v.2.1).any λg=>let Au:Gm:={Γ with N:=N',sc:=Am v.2.2 Γ.sc,blk:=true,xc:=none}
  ((Γ.cm&&(g.is_async==0))&&(tgIx tg).all (λi=>decide (i<nt))&&rB Γ.N Γ.sc v.2.2 N' nt js&&tf g.iter&&decide N'.Nodup)&&(rO Au tg g.target&&xu it g.target)&&jD Γ it g.iter&&uS (uT cond) (λt=>eQ Au cond t) g.ifs&&chkE Au elt v.1
 |.qC a b,e=>(mR e).any λv=>((v.2.1==("split":Str))&&z0o v.1&&v.2.2.2)&&chkE Γ a v.1&&(bP v.2.2.1).any λy=>!isStar y&&chkE Γ b y
 |.gC b x,e=>(jC e).any λv=>(v.1==("isinstance":Str))&&dI Γ v.1&&(mQ v.2).any λy=>Γ.xc.any λz=>hT (λn=>(n==z.1)&&(Γ.sc.names.lookup n==some .local)&& !(n==("__debug__":Str))&& !(n==("__classdict__":Str))) y.1&&hT (λC=>(C==x)&&lO Γ C&&Γ.sub.contains (z.2,x,b)) y.2
 |.gV _,_=>false
 |.enum _,_=>false
 |.zip _ _,_=>false
 |.tv _,_=>false
 |.nil,_=>false
 |.cons _ _,_=>false
def eQ (Γ:Gm):C->Expr->Bool
 |.and a b,e=>(ti e).any λv=>decide (v.1=.And)&&tm (λx=>eQ Γ a x) (λx=>eQ Γ b x) .And v.2.2 v.2.1
 |.or a b,e=>(ti e).any λv=>decide (v.1=.Or)&&tm (λx=>eQ Γ a x) (λx=>eQ Γ b x) .Or v.2.2 v.2.1
 |.not a,e=>(xq e).any λv=>decide (v.1=.Not)&&eQ Γ a v.2
 |.tv a,e=>(plainT e||EF e)&&chkE Γ a e
 |_,_=>false
def dP (Γ:Gm):C->List Expr->Bool
 |.nil,es=>es.isEmpty
 |.cons a r,es=>match es with|e::es=>!isStar e&&chkE Γ a e&&dP Γ r es|_=>false
 |_,_=>false
def oV (Γ:Gm):C->Option Expr->Bool
 |.nil,e=>e.isNone
 |.tv a,e=>e.any λe=>chkE Γ a e
 |_,_=>false
def jD (Γ:Gm):C->Expr->Bool
 |.gV args,e=>(jC e).any λv=>(v.1==("range":Str))&&dI Γ v.1&&dP Γ args v.2&&(!v.2.isEmpty&&decide (v.2.length<=1))
 |.tv a,e=>tf e&&chkE Γ a e
 |.enum a,e=>(jC e).any λv=>(v.1==("enumerate":Str))&&dI Γ v.1&&(bP v.2).any λy=>!isStar y&&chkE Γ a y
 |.zip a b,e=>(jC e).any λv=>(v.1==("zip":Str))&&dI Γ v.1&&(mQ v.2).any λy=>(!isStar y.1&& !isStar y.2)&&chkE Γ a y.1&&chkE Γ b y.2
 |_,_=>false
def rQ (Γ:Gm):C->Expr->Bool
 |.tv a,e=>chkE Γ a e
 |_,_=>false
end
def rR:C->Bool
 |_=>false
def uV (Γ:Gm)(it:C)(tg ie:Expr):Bool:=xu it tg&&jD Γ it ie
def rS:Stmt->Option (List Expr×Expr)
 |.Assign t v _=>some (t,v)
 |_=>none
def uW:Stmt->Option Expr
 |.Expr v _=>some v
 |_=>none
def Aw:Stmt->Option (Option Expr)
 |.Return v _=>some v
 |_=>none
def Ax:Stmt->Option (Expr×List Stmt×List Stmt)
 |.If t A B _=>some (t,A,B)
 |_=>none
def xv:Stmt->Option (Expr×Expr×List Stmt×List Stmt)
 |.For t i B o _=>some (t,i,B,o)
 |_=>none
def Ay:Stmt->Option (Expr×List Stmt×List Stmt)
 |.While t B o _=>some (t,B,o)
 |_=>none
def EH:Stmt->Option Nat
 |.Pass _=>some 0
 |.Break _=>some 1
 |.Continue _=>some 2
 |_=>none
def Az:Stmt->Option (Str×List Expr)
 |.Raise (some c) none _=>jC c
 |_=>none
def AA:ExceptHandler->Option (Str×Str×List Stmt)
 |.ExceptHandler (some (.Name x _)) (some n) b _=>some (x,n,b)
 |_=>none
mutual
def oW (Γ:Gm):S->Stmt->Bool
 |.bad,_=>true
 |.asg t e,s=>(rS s).any λu=>(bP u.1).any λx=>rO Γ t x&& !rR e&&(LO t||(!nO u.2&& !isTup u.2))&&chkE Γ e u.2
 |.mut m i args,s=>(uW s).any λc=>(mR c).any λv=>(hT (gZ Γ i) v.1&&(v.2.1==Str.ofString m)&& ["append"].contains m&&v.2.2.2&&decide (v.2.2.1.length<20))&& !v.2.2.1.isEmpty&&dP Γ args v.2.2.1
 |.ret e,s=>(Aw s).any λo=>o.any λv=>chkE Γ e v
 |.aT c a b,s=>(Ax s).any λv=>eQ Γ c v.1&&chkL Γ a v.2.1&&chkL Γ b v.2.2
 |.bO t it b,s=>Γ.cm&&(xv s).any λv=>rO Γ t v.1&&uV Γ it v.1 v.2.1&&chkL Γ b v.2.2.1&&v.2.2.2.isEmpty
 |.wh _ c b,s=>(Ay s).any λv=>eQ Γ c v.1&&chkL Γ b v.2.1&&v.2.2.isEmpty
 |.cnt,s=>decide (EH s=some 2)
 |.pop j i,s=>(rS s).any λu=>(bP u.1).any λx=>hT (kO Γ j) x&&rP (hT (gZ Γ i)) u.2
 |.pap i a r,s=>(uW s).any λc=>(mR c).any λv=>(hT (gZ Γ i) v.1&&(v.2.1==("append":Str))&&v.2.2.2)&&(bP v.2.2.1).any λt=>(mO t).any λes=>As (λe=>!isStar e&&chkE Γ a e) (rP (hT (gZ Γ i))) (λl=>decide (l.length<=900)&&dP Γ r l) es
 |.nil,_=>false
 |.seq _ _,_=>false
def chkL (Γ:Gm):S->List Stmt->Bool
 |.nil,l=>l.isEmpty
 |.seq a b,l=>match l with|s::r=>oW Γ a s&&chkL Γ b r|_=>false
 |_,_=>false
end
def tD (K:W.Frag)(f:Rho->Res GD):TE:=λσ H Q=>∃ρ F x,StOk K F H σ ρ/\f ρ=.ok x/\∀v H',Same H H'->Rep K H' (BG F H x.1) v x.2->Q v H'
def dQ (K:W.Frag)(f:Rho->Res Bool):TT:=λσ H Q=>∃ρ F b,StOk K F H σ ρ/\f ρ=.ok b/\∀H',Same H H'->Q b H'
def tDO (K:W.Frag)(f:Rho->Res (Option Int)):TO:=λσ H Q=>∃ρ F b,StOk K F H σ ρ/\f ρ=.ok b/\∀H',Same H H'->Q b H'
def eC (K:W.Frag)(F:Fm)(H H':Hp):List V->List GD->Prop
 |vs,[]=>vs=[]
 |vs,x::xs=>∃v r,vs=v::r/\Rep K H' (BG F H x.1) v x.2/\eC K F H H' r xs
def tDA (K:W.Frag)(f:Rho->Res (List GD)):TA:=λσ H Q=>∃ρ F xs,StOk K F H σ ρ/\f ρ=.ok xs/\∀vs H',Same H H'->eC K F H H' vs xs->Q vs H'
theorem _root_.L2.PE.imp (h:PE X e t)(i:∀b H Q,a b H Q->t b H Q):PE X e a:=λc s b H Q I q=>h c s b H Q I (i b H Q q)
theorem _root_.L2.PT.imp (h:PT X e t)(i:∀b H Q,a b H Q->t b H Q):PT X e a:=λc s b H Q I q=>h c s b H Q I (i b H Q q)
theorem _root_.L2.PW.imp (h:PW X e t)(i:∀b H Q,a b H Q->t b H Q):PW X e a:=λwh c s b H Q I q=>h wh c s b H Q I (i b H Q q)
theorem _root_.L2.PA.imp (h:PA X e t)(i:∀b H Q,a b H Q->t b H Q):PA X e a:=λd c s b H Q I q=>h d c s b H Q I (i b H Q q)
theorem _root_.L2.PO.imp (h:PO X e t)(i:∀b H Q,a b H Q->t b H Q):PO X e a:=λc s b H Q I q=>h c s b H Q I (i b H Q q)
theorem _root_.L2.PS.imp (h:PS X e t)(i:∀D b H,a D b H->t D b H):PS X e a:=λc s b H D I q=>h c s b H D I (i D b H q)
theorem _root_.L2.PSs.imp (h:PSs X e t)(i:∀D b H,a D b H->t D b H):PSs X e a:=λc s b H D I q=>h c s b H D I (i D b H q)
section
variable {K:W.Frag}{F:Fm}{H H1 H':Hp}
theorem eC.back:∀{c:List V} {a:List GD},Same H H1->eC K F H1 H' c a->eC K F H H' c a
 |c,[],_,r=>r
 |c,x::a,s,r=>by obtain⟨v,t,e,h,q⟩:=r;exact⟨v,t,e,h.weak λ_ b=>b.back s,q.back s⟩
theorem eC.mS:∀{f:List V} {b:List GD},(∀x∈b,∀a,BG F H x.1 a->B a)->eC K F H H' f b->Reps K H' B f (b.map (·.2))
 |f,[],_,r=>r
 |f,x::b,c,r=>by obtain⟨v,t,e,h,q⟩:=r;exact⟨v,t,e,h.weak (c x aj),q.mS λy d=>c y (ai _ d)⟩
theorem eC.iF (b:∀a,H a=none->F.V a)(r:eC K F H H' d c):Reps K H' (bS F) d (c.map (·.2)):=r.mS λ_ _ _ h=>h.aN b
theorem uX (f:∀a,H a=none->F.V a)(c:x∈d)(h:BG F H x.1 a):BG F H (cF d) a:=by
 unfold cF;by_cases e:(d.all λx=>x.1==.fr)=true
 ·rw[qe e];have:=(bj.mp e) x c;have b:x.1=.fr:=by simpa using this
  rw[b]at h;exact h
 ·rw[qf e];split
  ·rename_i g;have:=(bj.mp g) x c;rcases d8.mp this with b|b
   ·rw[eq_of_beq b]at h;exact .inl h
   ·rw[eq_of_beq b]at h;exact h
  ·exact h.aN f
theorem AB (b:∀a,H a=none->F.V a)(s:Same H H1)(h:nw H1 a):BG F H (cF c) a:=by
 unfold cF;by_cases e:(c.all λx=>x.1==.fr)=true
 ·rw[qe e];exact nw.back s h
 ·rw[qf e];split
  ·exact .inl (nw.back s h)
  ·exact(nw.back s h).aN b
theorem qG (r:Rep K H' B v d)(h:∀a,B a->BG F H g a):Rep K H' (BG F H (gJ d g)) v d:=by
 unfold gJ;by_cases e:imm d=true
 ·rw[qe e];exact Rep.bR d e r
 ·rw[qf e];exact r.weak h
end
def lP (K:W.Frag)(m:D->D->Res D):R2:=λx y H Q=>∃Bx By dx dy d,Rep K H Bx x dx/\Rep K H By y dy/\m dx dy=.ok d/\∀w H',Same H H'->Rep K H' (λa=>nw H a\/Bx a\/By a) w d->Q w H'
def oX (X:Cx)(f:Value->Value->Sem Value)(m:D->D->Res D):Prop:=OpR X f (lP X.K m)
def oY (K:W.Frag)(m:D->D->Res D):R2:=λx y H Q=>∃Bx By dx dy d,Rep K H Bx x dx/\Rep K H By y dy/\m dx dy=.ok d/\∀w H',Same H H'->Rep K H' (λa=>nw H a\/Bx a\/By a) w d->(∀ds,d=.list ds->imms ds=true->Rep K H' (nw H) w d)->Q w H'
def AD (X:Cx)(f:Value->Value->Sem Value)(m:D->D->Res D):Prop:=OpR X f (oY X.K m)
theorem _root_.L2.OpR.imp (h:OpR X f r)(i:∀x y H Q,a x y H Q->r x y H Q):OpR X f a:=λd s e H x y v u Q I b c q=>h d s e H x y v u Q I b c (i x y H Q q)
def z6v (K:W.Frag)(m:List D->Res D):List V->Hp->VK->Prop:=λxs H Q=>∃B ds d,Reps K H B xs ds/\m ds=.ok d/\∀w H',Same H H'->Rep K H' (λa=>nw H a\/B a) w d->Q w H'
theorem _root_.L2.CallR.imp (h:CallR X f r)(i:∀x H Q,a x H Q->r x H Q):CallR X f a:=λc s d H x v Q I b q=>h c s d H x v Q I b (i x H Q q)
theorem LP (a:PyData.strOk x=true)(b:PyData.strOk y=true):PyData.strOk (x++y)=true:=by
 unfold PyData.strOk at *
 show(x.cps++y.cps).all _=true;rw[Array.all_append,a,b];rfl
theorem strOk_iff:PyData.strOk x=true↔∀c∈x.cps.toList,c<0x110000:=by unfold PyData.strOk;rw[<-jq];rw[bj];exact⟨λh c a=>by simpa using h c a,λh c a=>by simpa using h c a⟩
theorem EI (a:PyData.strOk x=true)(b:c∈x.cps.toList):PyData.strOk ⟨#[c]⟩=true:=
 strOk_iff.mpr λd hd=>by
  have e:d=c:=by simpa using hd
  rw[e];exact strOk_iff.mp a c b
theorem kP (h:n<=LIM):n<=av:=bp h (by rw[cb];unfold LIM;decide)
section
def LQ (K:W.Frag):R2:=λx y H Q=>∃l b xs zs,x=.ref l/\y=.ref b/\SqL K H l xs/\SqL K H b zs/\xs.length+zs.length<=av/\∀p,H p=none->Q (.ref p) (upd H p (.lst (xs++zs)))
theorem LR:OpR X (eo .Add) (LQ X.K):=by
 intro M s O H x y v u Q I z A h;obtain⟨l,b,J,L,rfl,rfl,B,C,m,q⟩:=h;cases z;cases A;obtain⟨c,o,p1,_⟩:=I.list B;obtain⟨a,p,p2,_⟩:=I.list C;obtain⟨⟨cls,N,r,sl⟩,n,t,D,_,hd⟩:=p1;obtain⟨⟨w,e,f,g⟩,E,d,i,_,j⟩:=p2;subst D hd i j;have k:c.toArray.size+a.toArray.size<=av:=by rw[bn,bn,<-o.length,<-p.length];exact m
 refine ls ⟨_,t,rfl⟩ ⟨_,d,rfl⟩ noFill_list_add seq_list_add PySem.F.slot_list_add PySem.F.entry_list_add (PySem.F.args_list_add_2 _ _) (list_addW l b c.toArray a.toArray n E N e sl g k) ⟨t,d,?_⟩;have G:c.toArray++a.toArray=(c++a).toArray:=by simp
 rw[G];exact⟨.ref _,_,I.lnew (o.append p) (ax▸m),rfl,q _ I.fresh⟩
def LS (K:W.Frag):R2:=λx y H Q=>∃a b ys,x=.ref a/\y=.ref b/\dB K H a []/\dB K H b ys/\Q (.ref b) H
theorem LU:OpR X (eo .Add) (LS X.K):=by intro E s J H x y v u Q I o p h;obtain⟨l,b,C,rfl,rfl,r,t,q⟩:=h;cases o;cases p;obtain⟨w,z,p1,_⟩:=I.tuple r;obtain⟨a,D,p2,_⟩:=I.tuple t;cases z;obtain⟨⟨cls,G,j,sl⟩,k,A,n,hd⟩:=p1;obtain⟨⟨m,d,e,f⟩,c,g,B,i⟩:=p2;subst A hd g i;refine ls ⟨_,k,rfl⟩ ⟨_,c,rfl⟩ lj nn PySem.F.slot_tuple_add PySem.F.entry_tuple_add (PySem.F.args_tuple_add_2 _ _) (tuple_addW0 l b _ a.toArray n B G d sl f (by simp)) ⟨k,c,?_⟩;exact⟨.ref b,H,I,rfl,q⟩
variable {K:W.Frag}{H:Hp}{B:Ad->Prop}{v:V}
theorem nQ (r:Rep K H B v (.list b)):∃a c,v=.ref a/\SqL K H a c/\Reps K H B c b:=by
 obtain⟨a,c,e,h,q⟩:=r;refine⟨a,c,e,?_,q⟩;rcases h with⟨h,_⟩|⟨h|h,_⟩
 ·exact .inl (.inl h)
 ·exact .inl (.inr h)
 ·exact .inr h
theorem tq (b:H p=none)(r:Reps K H B f c)(d:∀a,B a->B' a)(e:B' (some p)):Rep K (upd H p (.lst f)) B' (.ref p) (.list c):=⟨p,f,rfl,.inl ⟨bG,e⟩,r.same (Same.upd b) d⟩
theorem xw (b:H p=none)(r:Reps K H B e c)(d:∀a,B a->f a):Rep K (upd H p (.tup e)) f (.ref p) (.tuple c):=⟨p,e,rfl,.inl (.inl bG),r.same (Same.upd b) d⟩
theorem gE {b:Type}{a:b}(h:(Res.no:Res b)=.ok a):False:=by cases h
theorem LV:AD X (eo .Add) (cL .Add):=by
 refine OpR.imp ((Ls.or LR).or LU) λx y H Q h=>?_;obtain⟨u,v,D,w,d,k,l,e,q⟩:=h;cases D<;>try (exact(gE e).elim)
 all_goals cases w<;>try (exact(gE e).elim)
 case int.int i j=>cases e;have s:=k;have t:=l;subst s t;exact .inl (.inl (LB (q _ H (Same.refl H) rfl λm z=>by cases z)))
 case str.str i j=>
  have s:=k.1;have t:=l.1;subst s t;have e:(if i.length+j.length<=LIM then Res.ok (PyData.str (i++j))else Res.no)=Res.ok d:=e;split at e
  ·rename_i n;cases e;exact .inl (.inl (LC (kP n) (q _ H (Same.refl H) ⟨rfl,LP k.2 l.2⟩ λm z=>by cases z)))
  ·cases e
 case list.list xs ys=>
  have e:(if xs.length+ys.length<=LIM then Res.ok (PyData.list (xs++ys))else Res.no)=Res.ok d:=e;split at e
  ·rename_i n;cases e;obtain⟨a,C,rfl,o,c⟩:=nQ k;obtain⟨b,ws,rfl,r,f⟩:=nQ l;refine .inl (.inr ⟨a,b,C,ws,rfl,rfl,o,r,kP (by rw[c.length,f.length];exact n),λp g=>q _ _ (Same.upd g) ?_ ?_⟩)
   ·exact tq g (Reps.append (c.weak λ_ z=>.inr (.inl z)) (f.weak λ_ z=>.inr (.inr z))) (λ_ z=>z) (.inl g)
   ·intro m z E;cases z;exact tq g (Reps.bR _ E (Reps.append (c.weak (B':=λa=>nw H a\/u a\/v a) λ_ z=>.inr (.inl z)) (f.weak λ_ z=>.inr (.inr z)))) (λ_ z=>z) g
  ·cases e
 case tuple.tuple xs ys=>
  have e:(if xs.length+ys.length<=LIM then Res.ok (PyData.tuple (xs++ys))else Res.no)=Res.ok d:=e;split at e
  ·rename_i n;cases e;obtain⟨a,C,rfl,o,c⟩:=k;obtain⟨b,ws,rfl,r,f⟩:=l;cases C with
   |nil=>
    have:xs=[]:=by have:=c.length;exact f8.mp this.symm
    subst this;exact .inr ⟨a,b,ws,rfl,rfl,o,r,q _ H (Same.refl H) ⟨b,ws,rfl,r,f.weak λ_ z=>.inr (.inr z)⟩ λm z=>by cases z⟩
   |cons A B=>
    refine .inl (.inl (.inr (.inr (.inr ⟨a,b,A::B,ws,rfl,rfl,o,r,by simp,kP (by rw[c.length,f.length];exact n),λz=>?_,λz p g=>q _ _ (Same.upd g) ?_ λm z=>by cases z⟩))))
    ·subst z;have:ys=[]:=by have:=f.length;exact f8.mp this.symm
     subst this;rw[bx]at q;exact q _ H (Same.refl H) ⟨a,_,rfl,o,c.weak λ_ z=>.inr (.inl z)⟩ λm z=>by cases z
    ·exact xw g (Reps.append (c.weak λ_ z=>.inr (.inl z)) (f.weak λ_ z=>.inr (.inr z))) (λ_ z=>z)
  ·cases e
theorem xx {gd:Int->Int->D}(h:OpR X f (rI k g))(b:∀i j H B,Rep X.K H B (g i j) (gd i j))(hm:∀r a d,m r a=.ok d->∃i j,r=.int i/\a=.int j/\k i j/\d=gd i j):AD X f m:=by refine OpR.imp h λx y H Q h=>?_;obtain⟨o,p,r,a,d,l,n,e,q⟩:=h;obtain⟨i,j,rfl,rfl,c,rfl⟩:=hm r a d e;exact⟨i,j,l,n,c,q _ H (Same.refl H) (b i j _ _) λ_ _ _=>b i j _ _⟩
theorem LW (h:OpR X f (lI g)):OpR X f (rI (λ_ _=>True) g):=OpR.imp h λx y H Q ⟨i,j,a,b,_,q⟩=>⟨i,j,a,b,q⟩
theorem LX:OpR X (eo .FloorDiv) (rI (λ_ j=>0<j/\j<2 ^ 200) λi j=>.int (i/j)):=opI λi j _ _ _ _ _ b q=>by
 refine floordiv_int (by omega) (by rw[Int.fdiv_eq_ediv_of_nonneg i (by omega)];exact q) (.inl (PyProof.noPylong_of_log2 ?_));have a:j.natAbs<2 ^ 200:=by omega
 have c:=(Nat.log2_lt (by omega)).mpr a;omega
def LY:R2:=λx y H Q=>∃a n,x=.str a/\y=.int n/\(0<=n/\n<=LIM/\a.length*n.toNat<=LIM)/\Q (.str ⟨(oP n.toNat a.cps.toList).toArray⟩) H
theorem LZ {a:Type}(n:Nat):oP n ([]:List a)=[]:=by
 unfold oP
 induction n with
 |zero=>rfl
 |succ n b=>rw[my,pa,b];rfl
theorem EJ (a:Array Nat):∀(k:Nat) (b:List Nat),(bd k a).foldl (·++·) b.toArray=(b++oP k a.toList).toArray
 |0,b=>by simp[oP]
 |k+1,b=>by
  rw[my,List.foldl_cons];have e:b.toArray++a=(b++a.toList).toArray:=by simp
  rw[e,EJ a k];rw[ib];rfl
theorem L0 (h:0<=n):Txt.mul a n=⟨(oP n.toNat a.cps.toList).toArray⟩:=by
 unfold Txt.mul;by_cases c:n<1
 ·obtain rfl:n=0:=by omega
  rw[qe c];rfl
 ·rw[qf c];split
  ·rename_i b;rcases d8.mp b with b|b
   ·obtain rfl:n=1:=qm b;show a=⟨(a.cps.toList++[]).toArray⟩;rw[bx]
   ·have e:a.cps.size=0:=qm b;have d:=f8.mp (cv▸e);rw[d,LZ];have f:a.cps=#[]:=by rw[<-fm (xs:=a.cps),d]
    cases a;cases f;rfl
  ·have :=EJ a.cps n.toNat [];exact congrArg Str.mk this
theorem L1 (h:PyData.strOk a=true)(n:Nat):PyData.strOk ⟨(oP n a.cps.toList).toArray⟩=true:=by unfold PyData.strOk at h ⊢;rw[<-jq,bj]at h ⊢;intro c d;obtain⟨l,e,b⟩:=lm.mp d;rw[(List.mem_replicate.mp e).2]at b;exact h c b
theorem L3:OpR X (eo .Mult) LY:=by
 rintro g s h H x y v u Q I b c ⟨a,n,rfl,rfl,⟨h0,hn,d⟩,q⟩
 obtain⟨t,rfl⟩:=b;obtain⟨e,rfl⟩:=c;unfold LIM at hn d;refine SB.mul (PyProof.Rows.mulOk_of a.length n.toNat (ag _) (by omega) (by omega) (by omega) (by omega)) λf k=>?_;rw[L0 h0];exact⟨.str _,H,I.tok _,⟨_,rfl⟩,q⟩
theorem EK (f:mj)(h:xr f=true):AD X (eo f) (cL f):=by
 cases f<;>try (cases h;done)
 case Add=>exact LV
 case Sub=>
  refine xx (LW JY) (gd:=λi j=>.int (i-j)) (λ_ _ _ _=>rfl) λs b d e=>?_;cases s<;>try (exact(gE e).elim)
  cases b<;>try (exact(gE e).elim)
  cases e;simp_all
 case Mult=>
  refine OpR.imp (JZ.or L3) λx y H Q h=>?_;obtain⟨p,r,s,b,d,l,m,e,q⟩:=h;cases s<;>try (exact(gE e).elim)
  all_goals cases b<;>try (exact(gE e).elim)
  case int.int i j=>
   have e:(if(-(2 ^ 64)<i/\i<2 ^ 64)\/(-(2 ^ 64)<j/\j<2 ^ 64)then Res.ok (PyData.int (i*j))else Res.no)=Res.ok d:=e;split at e
   ·rename_i c;cases e;exact .inl ⟨i,j,l,m,c,q _ H (Same.refl H) rfl λo z=>by cases z⟩
   ·cases e
  case str.int a n=>
   have e:(if 0<=n/\n<=LIM/\a.length*n.toNat<=LIM then Res.ok (PyData.str ⟨(oP n.toNat a.cps.toList).toArray⟩)else Res.no)=Res.ok d:=e;split at e
   ·rename_i c;cases e;obtain⟨g,k⟩:=l;exact .inr ⟨a,n,g,m,c,q _ H (Same.refl H) ⟨rfl,L1 k _⟩ λo z=>by cases z⟩
   ·cases e
 case FloorDiv=>
  refine xx LX (gd:=λi j=>.int (i/j)) (λ_ _ _ _=>rfl) λs b d e=>?_;cases s<;>try (exact(gE e).elim)
  cases b<;>try (exact(gE e).elim)
  rename_i i j;have e:(if 0<j/\j<2 ^ 200 then Res.ok (PyData.int (i/j))else Res.no)=Res.ok d:=e;split at e
  ·rename_i c;cases e;simp_all
  ·cases e
 case Mod=>
  refine xx J1 (gd:=λi j=>.int (i%j)) (λ_ _ _ _=>rfl) λs b d e=>?_;cases s<;>try (exact(gE e).elim)
  cases b<;>try (exact(gE e).elim)
  rename_i i j;have e:(if 0<j then Res.ok (PyData.int (i%j))else Res.no)=Res.ok d:=e;split at e
  ·rename_i c;cases e;simp_all
  ·cases e
 case Pow=>
  refine xx J3 (gd:=λi j=>.int (i ^ j.toNat)) (λ_ _ _ _=>rfl) λs b d e=>?_;cases s<;>try (exact(gE e).elim)
  cases b<;>try (exact(gE e).elim)
  rename_i i j;have e:(if 0<=j/\j<=1000/\i.natAbs<2 ^ 64 then Res.ok (PyData.int (i ^ j.toNat))else Res.no)=Res.ok d:=e;split at e
  ·rename_i c;cases e;exact⟨_,_,rfl,rfl,⟨c.1,by omega,c.2.2⟩,rfl⟩
  ·cases e
end
section
variable {X:Cx}{pins:List (Addr×Obj)}{σ:L2.St}{H:Hp}{s:aw}{B:Ad->Prop}
mutual
theorem Rep.reads (I:Inv X pins σ H s):∀{v:V} {u:Value} (d:ae) (n:Nat),cE n d=true->Rep X.K H B v d->RelV v u->(∃as,Reads s.heap u d as)/\d.canLay0=true/\d.depth<=n
 |v,u,.none,n,_,r,q=>by have e:v=.non:=r;subst e;cases q;exact⟨⟨[],.none⟩,by simp only[PyData.canLay0],c7 _⟩
 |v,u,.bool b,n,_,r,q=>by have e:v=.bl b:=r;subst e;cases q;exact⟨⟨[],.bool b⟩,by simp only[PyData.canLay0],c7 _⟩
 |v,u,.int b,n,_,r,q=>by have e:v=.int b:=r;subst e;obtain⟨t,rfl⟩:=q;exact⟨⟨[],.int b t⟩,by simp only[PyData.canLay0],c7 _⟩
 |v,u,.str b,n,_,r,q=>by obtain⟨e,ok⟩:v=.str b/\_:=r;subst e;obtain⟨t,rfl⟩:=q;exact⟨⟨[],.str b t⟩,by simp only[PyData.canLay0];exact ok,c7 _⟩
 |v,u,.tuple ds,0,h,r,q=>by cases h
 |v,u,.list ds,0,h,r,q=>by cases h
 |v,u,.tuple ds,n+1,h,r,q=>by obtain⟨a,vs,e,h1,r1⟩:=r;subst e;cases q;obtain⟨fN,rv,⟨o,ho,hc,k,hd⟩,_⟩:=I.tuple h1;obtain⟨⟨as,ra⟩,c,dp⟩:=Reps.reads I ds n (h) r1 rv;refine⟨⟨as,.tuple ho hc hd (by simpa using ra)⟩,by simp only[PyData.canLay0];exact c,?_⟩;simp only[PyData.depth];omega
 |v,u,.list ds,n+1,h,r,q=>by obtain⟨a,vs,e,h1,r1⟩:=nQ r;subst e;cases q;obtain⟨fN,rv,⟨o,k,ho,hc,_,hd⟩,_⟩:=I.list h1;obtain⟨⟨as,ra⟩,c,dp⟩:=Reps.reads I ds n (h) r1 rv;refine⟨⟨a::as,.list ho hc hd (by simpa using ra)⟩,by simp only[PyData.canLay0];exact c,?_⟩;simp only[PyData.depth];omega
 |v,u,.dict es,n,h,r,q=>by cases n<;>cases h
theorem Reps.reads (I:Inv X pins σ H s):∀{vs:List V} {us:List Value} (ds:List ae) (n:Nat),iO n ds=true->Reps X.K H B vs ds->Vals vs us->(∃as,ReadsAll s.heap us ds as)/\PyData.canLayAll0 ds=true/\PyData.depthAll ds<=n
 |vs,us,[],n,_,r,q=>by have e:vs=[]:=r;subst e;cases q;exact⟨⟨[],.nil⟩,by simp only[PyData.canLayAll0],c7 _⟩
 |vs,us,d::ds,n,h,r,q=>by
  obtain⟨v,t,e,h1,r1⟩:=r;subst e;rw[iO,au]at h;cases q with
  |cons q1 q2=>obtain⟨⟨as,ra⟩,c,dp⟩:=Rep.reads I d n h.1 h1 q1;obtain⟨⟨bs,rb⟩,c2,L4⟩:=Reps.reads I ds n h.2 r1 q2;refine⟨⟨as++bs,.cons ra rb⟩,by simp only[PyData.canLayAll0,c,c2,Bool.and_self],?_⟩;simp only[PyData.depthAll];exact Nat.max_le.mpr ⟨dp,L4⟩
end
end
def mB (m:D->D->Res Bool):D->D->Res D:=λx y=>m x y>>=λb=>.ok (.bool b)
theorem uY (h:mB m x y=.ok d):∃b,m x y=.ok b/\d=.bool b:=by obtain⟨b,a,c⟩:=Res.aA h;exact⟨b,a,(Res.ok.inj c).symm⟩
theorem AE (hu:X.A.units+64<cLine):oX X (cf .Eq) (mB (cmpD .Eq)):=by
 intro w s z H x y v u Q I c f h;obtain⟨o,p,t,a,d,g,i,e,q⟩:=h;obtain⟨b,j,ed⟩:=uY e;subst ed;have e:=j;have e:(if(cE 40 t&&cE 40 a)=true then Res.ok (cC t a)else Res.no)=Res.ok b:=e;split at e
 ·rename_i hs;cases e;rw[au]at hs;obtain⟨⟨r,k⟩,l,p1⟩:=Rep.reads I t 40 hs.1 g c;obtain⟨⟨bs,m⟩,n,p2⟩:=Rep.reads I a 40 hs.2 i f;exact SeqAt.compareEq_reads k m l n (by omega) ⟨.bl _,H,I,rfl,q _ H (Same.refl H) rfl⟩
 ·cases e
theorem AF (hu:X.A.units+64<cLine):oX X (cf .NotEq) (mB (cmpD .NotEq)):=by
 intro w s z H x y v u Q I c f h;obtain⟨o,p,t,a,d,g,i,e,q⟩:=h;obtain⟨b,j,ed⟩:=uY e;subst ed;have e:=j;have e:(if(cE 40 t&&cE 40 a)=true then Res.ok (!cC t a)else Res.no)=Res.ok b:=e;split at e
 ·rename_i hs;cases e;rw[au]at hs;obtain⟨⟨r,k⟩,l,p1⟩:=Rep.reads I t 40 hs.1 g c;obtain⟨⟨bs,m⟩,n,p2⟩:=Rep.reads I a 40 hs.2 i f;exact SeqAt.compareNe_reads k m l n (by omega) ⟨.bl _,H,I,rfl,q _ H (Same.refl H) rfl⟩
 ·cases e
theorem zkv (h:OpR X (cf a) r)(m:∀i j b H Q,cmpD a (.int i) (.int j)=.ok b->Q (.bl b) H->r (.int i) (.int j) H Q)(n:∀i j b H Q,cmpD a (.str i) (.str j)=.ok b->Q (.bl b) H->r (.str i) (.str j) H Q)
  (hm:∀t c b,cmpD a t c=.ok b->(∃i j,t=.int i/\c=.int j)\/∃i j,t=.str i/\c=.str j):oX X (cf a) (mB (cmpD a)):=by
 refine OpR.imp h λx y H Q h=>?_;obtain⟨p,s,t,c,d,k,l,e,q⟩:=h;obtain⟨b,o,ed⟩:=uY e;subst ed;have e:=o;rcases hm t c b e with⟨i,j,rfl,rfl⟩|⟨i,j,rfl,rfl⟩
 ·have f:x=.int i:=k;have g:=l;subst f g;exact m i j b H Q e (q _ H (Same.refl H) rfl)
 ·have f:x=.str i:=k.1;have g:=l.1;subst f g;exact n i j b H Q e (q _ H (Same.refl H) rfl)
theorem AG:oX X (cf .Lt) (mB (cmpD .Lt)):=zkv z9 (λi j b H Q e q=>by cases e;exact LD q) (λi j b H Q e q=>by cases e;exact LH q) λc a b e=>by cases c<;>first|exact(gE e).elim|(cases a<;>first|exact .inl ⟨_,_,rfl,rfl⟩|exact .inr ⟨_,_,rfl,rfl⟩|exact(gE e).elim)
theorem AH:oX X (cf .LtE) (mB (cmpD .LtE)):=zkv Ab (λi j b H Q e q=>by cases e;exact LF q) (λi j b H Q e q=>by cases e;exact LI q) λc a b e=>by cases c<;>first|exact(gE e).elim|(cases a<;>first|exact .inl ⟨_,_,rfl,rfl⟩|exact .inr ⟨_,_,rfl,rfl⟩|exact(gE e).elim)
theorem AI:oX X (cf .Gt) (mB (cmpD .Gt)):=zkv Ac (λi j b H Q e q=>by cases e;exact LG q) (λi j b H Q e q=>by cases e;exact LJ q) λc a b e=>by cases c<;>first|exact(gE e).elim|(cases a<;>first|exact .inl ⟨_,_,rfl,rfl⟩|exact .inr ⟨_,_,rfl,rfl⟩|exact(gE e).elim)
theorem cQ.val {K:W.Frag}(k:Key):∀{a:List (Key×V)} {j:iZ},cQ K H B a j->match gT j (kD k)with|some d=>∃v,cP a k=some v/\Rep K H B v d|none=>cP a k=none
 |a,[],r=>by have e:=r;subst e;exact rfl
 |a,(kd,d)::j,r=>by
  obtain⟨b,v,t,e,f,ok,h,q⟩:=r;subst e f;have g:=cQ.val k q;by_cases z:b=k
  ·subst z
   have c:gT ((kD b,d)::j) (kD b)=some d:=by
    have:eqK (kD b) (kD b)=true:=by cases b<;>simp[kD,eqK]
    unfold gT;rw[lw (by exact this)];rfl
   rw[c];exact⟨v,w5 rfl,h⟩
  ·have i:eqK (kD b) (kD k)=false:=by
    rw[o9];intro w;apply z;cases b<;>cases k<;>simp[kD,eqK]at w<;>rw[w]
   have c:gT ((kD b,d)::j) (kD k)=gT j (kD k):=by unfold gT;rw[List.find?_cons_of_neg (i▸ca)]
   rw[c,xb z];exact g
theorem EL {K:W.Frag}(h:qA d=true)(r:Rep K H B v d):∃k,d=kD k/\v=kV k/\keyOk k:=by
 cases d<;>try (cases h;done)
 case int i=>exact⟨.inl i,rfl,r,True.intro⟩
 case str x=>exact⟨.inr x,rfl,r.1,r.2⟩
theorem zj6 (hu:X.A.units+64<cLine)(j:Bool)(I:Inv X pins σ H s)(l:RelV x v)(n:RelV y u)
  (t:Rep X.K H R x dx) (B:Rep X.K H T y E) (e:inD dx E=.ok b) (q:Q (.bl (if j then !b else b)) H):
  wpAny (model X.prog X.w) X.A (cf (if j then .NotIn else .In) v u) (EP X pins σ Q) X.xe s:=by
 cases E<;>try (cases e;done)
 case list xs=>
  change(if(cE 40 dx&&iO 40 xs)=true then Res.ok (xs.any λy=>cC y dx)else .no)=_ at e;split at e
  ·rename_i hs;cases e;rw[au]at hs;obtain⟨⟨G,o⟩,p,p1⟩:=Rep.reads I dx 40 hs.1 t l;obtain⟨⟨bs,r⟩,C,p2⟩:=Rep.reads I (.list xs) 41 hs.2 B n;have f:PyData.canLayAll0 xs=true:=by simpa only[PyData.canLay0]using C
   cases j
   ·exact SeqAt.in_list_reads r o f p (by omega) ⟨.bl _,H,I,rfl,q⟩
   ·exact SeqAt.notIn_list_reads r o f p (by omega) ⟨.bl _,H,I,rfl,q⟩
  ·cases e
 case tuple xs=>
  change(if(cE 40 dx&&iO 40 xs)=true then Res.ok (xs.any λy=>cC y dx)else .no)=_ at e;split at e
  ·rename_i hs;cases e;rw[au]at hs;obtain⟨⟨G,o⟩,p,p1⟩:=Rep.reads I dx 40 hs.1 t l;obtain⟨⟨bs,r⟩,C,p2⟩:=Rep.reads I (.tuple xs) 41 hs.2 B n;have f:PyData.canLayAll0 xs=true:=by simpa only[PyData.canLay0]using C
   cases j
   ·exact SeqAt.in_tuple_reads r o f p (by omega) ⟨.bl _,H,I,rfl,q⟩
   ·exact SeqAt.notIn_tuple_reads r o f p (by omega) ⟨.bl _,H,I,rfl,q⟩
  ·cases e
 case dict es=>
  change(if qA dx=true then Res.ok (gT es dx).isSome else .no)=_ at e;split at e
  ·rename_i hk;cases e;obtain⟨k,rfl,rfl,_⟩:=EL hk t;obtain⟨a,h,rfl,J,_,L⟩:=B;cases n;have m:=L.val k;have g:DGet H a (kV k) (cP h k):=DGet.k J
   have F:(cP h k).isSome=(gT es (kD k)).isSome:=by
    cases e:gT es (kD k)with
    |none=>rw[e]at m;rw[show cP h k=none from m];rfl
    |some d=>rw[e]at m;obtain⟨v,m,_⟩:=m;rw[m];rfl
   cases j
   ·exact d_in (by omega) I g l λS D=>⟨.bl _,H,D,rfl,by rw[F];exact q⟩
   ·exact zlp (by omega) I g l λS D=>⟨.bl _,H,D,rfl,by rw[F];exact q⟩
  ·cases e
 case str z=>
  cases dx<;>try (cases e;done)
  rename_i w;have M:=t.1;have N:=B.1;subst M N;change(match w.cps.toList with| [c]=>Res.ok (decide (c∈z.cps.toList))|_=>.no)=_ at e;split at e
  ·rename_i c O;cases e
   have P:w=⟨#[c]⟩:=by
    obtain⟨i⟩:=w;have:i=#[c]:=by rw[<-fm (xs:=i)];rw[show i.toList=[c]from O]
    rw[this]
   subst P;cases j
   ·exact Ae pins s σ H _ _ v u Q I l n (LK q)
   ·exact Lu pins s σ H _ _ v u Q I l n (LL q)
  ·cases e
theorem AJ (hu:X.A.units+64<cLine):oX X (cf .In) (mB (cmpD .In)):=by intro m s n H x y v u Q I a c h;obtain⟨j,k,o,l,d,f,g,e,q⟩:=h;obtain⟨b,i,ed⟩:=uY e;subst ed;have e:=i;exact zj6 hu false I a c f g e (q _ H (Same.refl H) rfl)
theorem L5 (hu:X.A.units+64<cLine):oX X (cf .NotIn) (mB (cmpD .NotIn)):=by intro p s r H x y v u Q I a c h;obtain⟨l,m,t,n,d,f,g,e,q⟩:=h;obtain⟨b,i,ed⟩:=uY e;subst ed;have e:=i;obtain⟨o,j,k⟩:=Res.aA e;cases k;exact zj6 hu true I a c f g j (q _ H (Same.refl H) rfl)
theorem rT (hu:X.A.units+64<cLine)(a:CmpOp)(h:z2h a=true):oX X (cf a) (mB (cmpD a)):=by
 cases a<;>try (cases h;done)
 ·exact AE hu
 ·exact AF hu
 ·exact AG
 ·exact AH
 ·exact AI
 ·exact AJ hu
 ·exact L5 hu
section
variable {X:Cx}{a b c e:Expr}{fa fb fc:Rho->Res GD}{pos:Pos}
theorem xy (h:PE X e (tC v))(r:∀H B,Rep X.K H B v d):PE X e (tD X.K λ_=>.ok (.fr,d)):=PE.imp h λb H Q ⟨c,F,x,a,e,q⟩=>by cases e;exact q v H (Same.refl H) (r H _)
theorem L6 {i:Nat}(hN:X.N[i]?=some x)(b:Vis X.env.scope x)(hd:Ue x)(a:(x==("__classdict__":Str))=false):PE X (.Name x pos) (tD X.K λg=>rG g[i]?):=PE.imp (oF hN b hd a) λh H Q ⟨g,F,x,c,e,q⟩=>by obtain⟨v,d,f⟩:=c.rd e;exact⟨v,d,q v H (Same.refl H) f⟩
theorem L7 (a:Gl X x)(hm:X.mg x=some (.ref g))(hd:Ue x)(c:imm d=true)(r:∀H (B:Ad->Prop),B none->Rep X.K H B (.ref g) d):PE X (.Name x pos) (tD X.K λ_=>.ok (.fr,d)):=PE.imp (JE (v:=.ref g) a hm rfl hd) λf H Q ⟨h,F,x,b,e,q⟩=>by cases e;exact q _ H (Same.refl H) (Rep.bR d c (r H (λ_=>True) True.intro))
theorem EM {K:W.Frag}(r:Rep K H' B v d)(h:∀a,B a->BG F H g a)(n:∀b,d=.list b->imms b=true->Rep K H' (nw H) v d):Rep K H' (BG F H (gN d g)) v d:=by
 cases d with
 |list b=>
  show Rep K H' (BG F H (if imms b=true then .fr else g)) v _;split
  ·rename_i c;exact n b rfl c
  ·exact r.weak h
 |_=>exact qG r h
theorem L8 (j:xr g=true)(k:PE X a (tD X.K fa))(l:PE X b (tD X.K fb)):PE X (.BinOp a g b pos) (tD X.K λE=>fa E>>=λx=>fb E>>=λy=>cL g x.2 y.2>>=λd=>.ok (gN d (cF [x,y]),d)):=
 PE.imp (DU (EK g j) k l) λI H Q m=>by
  obtain⟨E,F,z,c,e,q⟩:=m;obtain⟨x,n,e⟩:=Res.aA e;obtain⟨y,o,e⟩:=Res.aA e;obtain⟨d,p,e⟩:=Res.aA e;cases e;refine⟨E,F,x,c,n,λv J s1 r=>⟨E,F,y,c.same s1,o,λu D f s=>⟨_,_,x.2,y.2,d,r.same f λ_ z=>z,s,p,λw t A i B=>q w t ((s1.trans f).trans A) (EM i (λa h=>?_) λC z G=>(B C z G).weak λ_ z=>nw.back (s1.trans f) z)⟩⟩⟩;rcases h with h|h|h
  ·exact AB c.aN (s1.trans f) h
  ·exact uX c.aN (by simp) h
  ·exact uX c.aN (by simp) (h.back s1)
theorem EN (h:tD X.K (λp=>fa p>>=λx=>fb p>>=λy=>cmpD r x.2 y.2>>=λb=>.ok (.fr,.bool b)) s H Q):lH (lP X.K (mB (cmpD r))) (tD X.K fa) (tD X.K fb) s H Q:=by obtain⟨p,F,z,c,e,q⟩:=h;obtain⟨x,g,e⟩:=Res.aA e;obtain⟨y,i,e⟩:=Res.aA e;obtain⟨d,j,e⟩:=Res.aA e;cases e;exact⟨p,F,x,c,g,λv t s1 k=>⟨p,F,y,c.same s1,i,λu o f l=>⟨_,_,x.2,y.2,.bool d,k.same f λ_ z=>z,l,by show(cmpD r x.2 y.2>>=λb=>Res.ok (PyData.bool b))=_;rw[j];rfl,λw m n a=>q w m ((s1.trans f).trans n) a⟩⟩⟩
theorem zvd (hu:X.A.units+64<cLine)(c:z2h f=true)(hm:dq f b=false)(d:PE X a (tD X.K fa))(e:PE X b (tD X.K fb)):
  PE X (.Compare a [f] [b] pos) (tD X.K λg=>fa g>>=λx=>fb g>>=λy=>cmpD f x.2 y.2>>=λb=>.ok (.fr,.bool b)):=
 PE.imp (J9 (rT hu f c) d e hm) λi H Q h=>EN h
theorem xE (d:∀j H Q,tD X.K f j H Q->t j H Q)(g:∀l x,f l=.ok x->∃c,x.2=.bool c)(j:L2.St)(H:Hp)(Q:Bool->Hp->Prop)(h:dQ X.K (λl=>f l>>=λx=>gD x.2) j H Q):uA t j H Q:=by obtain⟨l,F,c,i,e,q⟩:=h;obtain⟨x,a,e⟩:=Res.aA e;obtain⟨k,b⟩:=g l x a;rw[b]at e;cases e;refine d j H _ ⟨l,F,x,i,a,λv m s r=>?_⟩;rw[b]at r;exact⟨k,r,q m s⟩
theorem L9 (e:(fa h>>=λx=>fb h>>=λy=>cmpD i x.2 y.2>>=λb=>Res.ok ((.fr,.bool b):GD))=.ok x):∃c,x.2=.bool c:=by obtain⟨x,a,e⟩:=Res.aA e;obtain⟨y,f,e⟩:=Res.aA e;obtain⟨d,g,e⟩:=Res.aA e;cases e;exact⟨d,rfl⟩
theorem zsg (hu:X.A.units+64<cLine)(c:z2h g=true)(hm:dq g b=false)(d:PE X a (tD X.K fa))(f:PE X b (tD X.K fb)):
  PT X (.Compare a [g] [b] pos) (dQ X.K λi=>(fa i>>=λx=>fb i>>=λy=>cmpD g x.2 y.2>>=λb=>Res.ok ((.fr,.bool b):GD))>>=λx=>gD x.2):=
 PT.imp (DW (rT hu g c) d f hm) (xE (λj H Q h=>EN h) λi x e=>L9 e)
def xF (op qB:CmpOp)(fa fb fc:Rho->Res GD):Rho->Res GD:=λρ=>fa ρ>>=λx=>fb ρ>>=λy=>cmpD op x.2 y.2>>=λk=>if k then fc ρ>>=λz=>cmpD qB y.2 z.2>>=λk'=>.ok (.fr,.bool k')else .ok (.fr,.bool false)
theorem EO (h:tD X.K (xF i L fa fb fc) N H Q):zK (lP X.K (mB (cmpD i))) (lP X.K (mB (cmpD L))) (tD X.K fa) (tD X.K fb) (tD X.K fc) N H Q:=by
 obtain⟨M,F,z,d,e,q⟩:=h;obtain⟨x,m,e⟩:=Res.aA e;obtain⟨y,n,e⟩:=Res.aA e;obtain⟨k,o,e⟩:=Res.aA e;refine⟨M,F,x,d,m,λv O s1 p=>⟨M,F,y,d.same s1,n,λu G a j=>⟨_,_,x.2,y.2,.bool k,p.same a λ_ z=>z,j,by show(cmpD i x.2 y.2>>=λb=>Res.ok (PyData.bool b))=_;rw[o];rfl,λw r c f=>⟨k,f,?_⟩⟩⟩⟩;cases k with
 |false=>cases e;exact aX (q _ r ((s1.trans a).trans c) rfl)
 |true=>obtain⟨g,s,e⟩:=Res.aA e;obtain⟨A,B,e⟩:=Res.aA e;cases e;refine bA ⟨M,F,g,d.same ((s1.trans a).trans c),s,λt I l rt=>⟨_,_,y.2,g.2,.bool A,j.same (c.trans l) λ_ z=>z,rt,by show(cmpD L y.2 g.2>>=λb=>Res.ok (PyData.bool b))=_;rw[B];rfl,λJ C D E=>q _ C (((s1.trans a).trans c).trans (l.trans D)) E⟩⟩
theorem zm5 (hu:X.A.units+64<cLine)(f:z2h k=true)(e:z2h d=true)(hm:li [k,d] [b,c]=false)(g:PE X a (tD X.K fa))(i:PE X b (tD X.K fb))(j:PE X c (tD X.K fc)):
  PE X (.Compare a [k,d] [b,c] pos) (tD X.K (xF k d fa fb fc)):=
 PE.imp (zfy (rT hu k f) (rT hu d e) g i j hm) λl H Q h=>EO h
theorem L' (e:xF l j fa fb fc m=.ok x):∃c,x.2=.bool c:=by
 obtain⟨x,a,e⟩:=Res.aA e;obtain⟨y,b,e⟩:=Res.aA e;obtain⟨k,d,e⟩:=Res.aA e;cases k with
 |false=>cases e;exact⟨_,rfl⟩
 |true=>obtain⟨f,g,e⟩:=Res.aA e;obtain⟨h,i,e⟩:=Res.aA e;cases e;exact⟨_,rfl⟩
theorem zk8 (hu:X.A.units+64<cLine)(i:z2h f=true)(g:z2h d=true)(hm:li [f,d] [b,c]=false)(j:PE X a (tD X.K fa))(k:PE X b (tD X.K fb))(l:PE X c (tD X.K fc)):
  PT X (.Compare a [f,d] [b,c] pos) (dQ X.K λm=>xF f d fa fb fc m>>=λx=>gD x.2):=
 PT.imp (zhj (rT hu f i) (rT hu d g) j k l hm) (xE (λn H Q h=>EO h) λm x e=>L' e)
theorem ER {K:W.Frag}(r:Rep K H B v d):decide (v=.non)=(match d with|.none=>true|_=>false):=by
 cases d with
 |none=>have e:v=.non:=r;subst e;rfl
 |bool b=>have e:v=.bl b:=r;subst e;rfl
 |int b=>have e:v=.int b:=r;subst e;rfl
 |str b=>have e:v=.str b:=r.1;subst e;rfl
 |tuple c=>obtain⟨a,f,e,_⟩:=r;subst e;rfl
 |list c=>obtain⟨a,f,e,_⟩:=r;subst e;rfl
 |dict c=>obtain⟨a,f,e,_⟩:=r;subst e;rfl
def oZ (ng:Bool)(fa:Rho->Res GD):Rho->Res GD:=λρ=>fa ρ>>=λx=>.ok (.fr,.bool (match x.2 with|.none=>!ng|_=>ng))
theorem xG (h:tD X.K (oZ i fa) k H Q):(if i then DA (tD X.K fa)else uo (tD X.K fa)) k H Q:=by
 obtain⟨j,F,z,b,e,q⟩:=h;obtain⟨x,c,e⟩:=Res.aA e;cases e;cases i with
 |false=>
  refine⟨j,F,x,b,c,λv f s1 a=>?_⟩
  dsimp only
  rw[ER a];refine q _ f s1 ?_;obtain⟨g,d⟩:=x;cases d<;>rfl
 |true=>
  refine⟨j,F,x,b,c,λv f s1 a=>?_⟩
  dsimp only
  rw[ER a];refine q _ f s1 ?_;obtain⟨g,d⟩:=x;cases d<;>rfl
theorem ES (e:oZ ng fa ρ=.ok x):∃c,x.2=.bool c:=by obtain⟨x,a,e⟩:=Res.aA e;cases e;exact⟨_,rfl⟩
theorem Ma {j p2}(c:o=if d then .IsNot else .Is)(b:PE X a (tD X.K fa)):PE X (.Compare a [o] [.Constant .none j p2] pos) (tD X.K (oZ d fa)):=by
 subst c;cases d with
 |false=>exact PE.imp (DD (DB b)) λe H Q h=>xG h
 |true=>exact PE.imp (DD (DC b)) λe H Q h=>xG h
theorem xH {j p2}(c:o=if f then .IsNot else .Is)(b:PE X a (tD X.K fa)):PT X (.Compare a [o] [.Constant .none j p2] pos) (dQ X.K λd=>oZ f fa d>>=λx=>gD x.2):=by
 subst c;cases f with
 |false=>exact PT.imp (DE (DB b)) (xE (λg H Q h=>xG h) λd x e=>ES e)
 |true=>exact PT.imp (DE (DC b)) (xE (λg H Q h=>xG h) λd x e=>ES e)
def AK (fa fb:Rho->Res GD):Rho->Res GD:=λρ=>fa ρ>>=λx=>match x.2 with|.bool c=>if c then fb ρ else .ok (.fr,.bool false)|_=>.no
def Mb (fa fb:Rho->Res GD):Rho->Res GD:=λρ=>fa ρ>>=λx=>match x.2 with|.bool c=>if c then .ok (.fr,.bool true)else fb ρ|_=>.no
theorem ET (s1:Same H g)(a:StOk X.K F H h d)(e:f d=.ok x)(q:∀v c,Same H c->Rep X.K c (BG F H x.1) v x.2->Q v c):tD X.K f h g Q:=⟨d,F,x,a.same s1,e,λv c s r=>q v c (s1.trans s) (r.weak λ_ b=>b.back s1)⟩
theorem EU {rest:List Expr}(h:PE X a (tD X.K fa))(i:PE X (.BoolOp .And (b::rest) pos) (tD X.K fb)):PE X (.BoolOp .And (a::b::rest) pos) (tD X.K (AK fa fb)):=
 PE.imp (JJ h i) λn H Q ⟨l,F,z,f,e,q⟩=>by
  obtain⟨x,j,e⟩:=Res.aA e;refine⟨l,F,x,f,j,λv m s1 k=>?_⟩;obtain⟨g,d⟩:=x;cases d<;>try (cases e;done)
  rename_i c;refine⟨c,k,?_⟩;cases c with
  |true=>exact bA (ET s1 f e q)
  |false=>cases e;exact aX (q _ m s1 rfl)
theorem uZ {rest:List Expr}(h:PE X a (tD X.K fa))(i:PE X (.BoolOp .Or (b::rest) pos) (tD X.K fb)):PE X (.BoolOp .Or (a::b::rest) pos) (tD X.K (Mb fa fb)):=
 PE.imp (JK h i) λn H Q ⟨l,F,z,f,e,q⟩=>by
  obtain⟨x,j,e⟩:=Res.aA e;refine⟨l,F,x,f,j,λv m s1 k=>?_⟩;obtain⟨g,d⟩:=x;cases d<;>try (cases e;done)
  rename_i c;refine⟨c,k,?_⟩;cases c with
  |false=>exact aX (ET s1 f e q)
  |true=>cases e;exact bA (q _ m s1 rfl)
theorem EV {K:W.Frag}(r:Rep K H B v d)(e:gD d=.ok k):oH K v H k:=by
 cases d with
 |none=>cases e;have c:v=.non:=r;subst c;exact rfl
 |bool b=>cases e;have c:v=.bl b:=r;subst c;exact rfl
 |int b=>cases e;have c:v=.int b:=r;subst c;show(!decide (b=0))=(b != 0);rw[bne,l7]
 |str b=>
  have c:=r.1;subst c;simp only[gD]at e;split at e
  ·rename_i j;cases e;refine⟨kP j,?_⟩;rw[bne,l7]
   congr 1
   rw[decide_eq_decide];omega
  ·cases e
 |tuple f=>cases e;obtain⟨a,n,c,h,q⟩:=r;subst c;refine .inr (.inl ⟨n,h,?_⟩);show(!f.isEmpty)=!n.isEmpty;have:=q.length;cases n<;>cases f<;>simp at this ⊢
 |list f=>cases e;obtain⟨a,n,c,h,q⟩:=nQ r;subst c;refine .inl ⟨n,h,?_⟩;show(!f.isEmpty)=!n.isEmpty;have:=q.length;cases n<;>cases f<;>simp at this ⊢
 |dict o=>
  cases e;obtain⟨a,g,c,h,_,q⟩:=r;subst c;refine .inr (.inr ⟨g,h,?_⟩);cases o with
  |nil=>have i:g=[]:=q;subst i;rfl
  |cons l m=>obtain⟨k,v,t,i,_⟩:=q;subst i;rfl
theorem Mc (g:PE X a (tD X.K fa)):PE X (.UnaryOp .Not a pos) (tD X.K λB=>fa B>>=λx=>gD x.2>>=λc=>.ok (.fr,.bool (!c))):=by
 rintro w s C H Q I ⟨B,F,z,h,e,q⟩
 obtain⟨x,i,e⟩:=Res.aA e;obtain⟨k,j,e⟩:=Res.aA e;cases e;refine UnaryOp_ (aM (g w s C H (λv A=>Same H A/\Rep X.K A (BG F H x.1) v x.2) I ⟨B,F,x,h,i,λv A s1 f=>⟨s1,f⟩⟩) λv s1 l=>?_);obtain⟨y,A,m,n,o,f⟩:=l;exact not_of (aM (DY w s1 C A y v (λb d=>b=k/\d=A) m n ⟨k,EV f j,rfl,rfl⟩) λb p ⟨d,r,t,u⟩=>by subst t u;exact⟨.bl _,d,r,rfl,q _ d o rfl⟩)
theorem Md (b:PE X e (tD X.K fa))(c:∀a,pu e X.env a=(do let v <-a;standAt e.pos;holding [v] (truthy v))):PT X e (dQ X.K λh=>fa h>>=λx=>gD x.2):=PT.imp (z9f b c) λj H Q ⟨h,F,k,d,e,q⟩=>by obtain⟨x,f,e⟩:=Res.aA e;exact⟨h,F,x,d,f,λv i s1 g=>⟨k,EV g e,q i s1⟩⟩
section
variable {ta tb:Rho->Res Bool}{rest:List Expr}
theorem EW (s1:Same H H1)(a:StOk X.K F H σ ρ)(e:f ρ=.ok x)(q:∀b,Same H b->Q x b):dQ X.K f σ H1 Q:=⟨ρ,F,x,a.same s1,e,λb s=>q b (s1.trans s)⟩
theorem w_and (f:PT X a (dQ X.K ta))(g:PW X (.BoolOp .And (b::rest) pos) (dQ X.K tb)):PW X (.BoolOp .And (a::b::rest) pos) (dQ X.K λi=>ta i>>=λc=>if c then tb i else .ok false):=
 PW.imp (JH f g) λj H Q ⟨i,F,k,d,e,q⟩=>by
  obtain⟨x,h,e⟩:=Res.aA e;refine⟨i,F,x,d,h,λl s1=>?_⟩;cases x with
  |true=>exact bA (EW s1 d e q)
  |false=>cases e;simp_all
theorem w_or (f:PT X a (dQ X.K ta))(g:PW X (.BoolOp .Or (b::rest) pos) (dQ X.K tb)):PW X (.BoolOp .Or (a::b::rest) pos) (dQ X.K λi=>ta i>>=λc=>if c then .ok true else tb i):=
 PW.imp (zy f g) λj H Q ⟨i,F,k,d,e,q⟩=>by
  obtain⟨x,h,e⟩:=Res.aA e;refine⟨i,F,x,d,h,λl s1=>?_⟩;cases x with
  |false=>exact aX (EW s1 d e q)
  |true=>cases e;simp_all
theorem tu (b:PT X a (dQ X.K ta)):PT X (.UnaryOp .Not a pos) (dQ X.K λρ=>ta ρ>>=λc=>.ok (!c)):=PT.imp (DH b) λh H Q ⟨ρ,F,k,d,e,q⟩=>by obtain⟨x,f,e⟩:=Res.aA e;cases e;exact⟨ρ,F,x,d,f,λg s1=>q g s1⟩
end
theorem EX:PA X [] (tDA X.K λ_=>.ok []):=PA.imp j' λb H Q ⟨c,F,z,a,e,q⟩=>by cases e;exact q [] H (Same.refl H) rfl
theorem AL (hs:isStar e=false)(d:PE X e (tD X.K fa))(f:PA X m (tDA X.K fs)):PA X (e::m) (tDA X.K λl=>fa l>>=λx=>fs l>>=λa=>.ok (x::a)):=PA.imp (dN d f hs) λo H Q g=>by obtain⟨l,F,z,b,e,q⟩:=g;obtain⟨x,h,e⟩:=Res.aA e;obtain⟨a,i,e⟩:=Res.aA e;cases e;refine⟨l,F,x,b,h,λv p s1 j=>⟨l,F,a,b.same s1,i,λn k c rs=>q _ k (s1.trans c) ?_⟩⟩;exact⟨v,n,rfl,j.same c λ_ z=>z,rs.back s1⟩
theorem Me {i}(h:PA X n (tDA X.K fs))(j:∀m c,fs m=.ok c->c.length<=av):PE X (.Tuple n i pos) (tD X.K λm=>fs m>>=λb=>.ok (gJ (.tuple (b.map (·.2))) (cF b),.tuple (b.map (·.2)))):=PE.imp (zM h) λo H Q k=>by obtain⟨m,F,z,d,e,q⟩:=k;obtain⟨b,f,e⟩:=Res.aA e;cases e;refine⟨m,F,b,d,f,λs t s1 rs=>?_⟩;have r:=rs.mS λx l a h=>uX d.aN l h;refine⟨by rw[r.length,ak];exact j m b f,λp g=>q _ _ (s1.trans (Same.upd g)) (qG (xw g r λ_ z=>z) λ_ z=>z)⟩
theorem Mf (h:PA X m (tDA X.K fs))(i:∀l f,fs l=.ok f->f.length<=av):PE X (.List m pos) (tD X.K λl=>fs l>>=λb=>.ok (cF b,.list (b.map (·.2)))):=PE.imp (D5 h) λn H Q j=>by obtain⟨l,F,z,c,e,q⟩:=j;obtain⟨b,g,e⟩:=Res.aA e;cases e;refine⟨l,F,b,c,g,λo s s1 rs=>?_⟩;have r:=rs.mS λx k a h=>uX c.aN k h;refine⟨by rw[r.length,ak];exact i l b g,λp d=>q _ _ (s1.trans (Same.upd d)) (tq d r (λ_ z=>z) (AB c.aN s1 d))⟩
theorem Mh:PE X (.Dict [] [] pos) (tD X.K λ_=>.ok (.fr,.dict [])):=PE.imp Ee λc H Q ⟨d,F,z,b,e,q⟩=>by cases e;intro p a;exact q _ _ (Same.upd a) ⟨p,[],rfl,bG,a,rfl⟩
end
theorem Mj {b:Type}(a:List b)(i:Int):L2.cK a i=Mi.cK a i:=rfl
theorem AM (n d:Nat)(o:Option Int):HT.bE n d o=Mi.bE n d o:=by cases o<;>rfl
theorem Reps.cut {K:W.Frag}(b c:Option Int)(r:Reps K H B d a):Reps K H B (Mi.cut d b c) (Mi.cut a b c):=by unfold Mi.cut;rw[r.length];exact(r.drop _).take _
theorem Reps.cK {K:W.Frag}(r:Reps K H B g b)(e:Mi.cK b i=some d):∃v,L2.cK g i=some v/\Rep K H B v d:=by
 unfold Mi.cK at e;cases a:Mi.kB b.length i with
 |none=>rw[a]at e;cases e
 |some j=>rw[a]at e;obtain⟨v,c,f⟩:=r.get e;refine⟨v,?_,f⟩;rw[Mj];unfold Mi.cK;rw[r.length,a];exact c
theorem Ml (hu:X.A.units+64<cLine):lJ X (λx y H Q=>∃a v,x=.ref a/\DGet H a y (some v)/\Q v H):=by intro b c k s l H x y v u Q I e f h hs;obtain⟨a,z,rfl,g,q⟩:=h;cases e;exact tail_any (Kn I g) PySem.F.slot_dict_getitem.lookup (zbp (by omega) I g f λj m i d=>⟨z,H,i,d,q⟩) hs
def rU (K:W.Frag):R2:=λx y H Q=>∃B B' dx dy d,Rep K H B x dx/\Rep K H B' y dy/\iD dx dy=.ok d/\∀w,Rep K H B w d->Q w H
theorem EY (hu:X.A.units+64<cLine):lJ X (rU X.K):=by
 intro f g R s T H x y v u Q I G J h hs;refine(Lw.or (Ml hu)) f g R s T H x y v u Q I G J ?_ hs;obtain⟨B,V,U,t,d,l,r,e,q⟩:=h;cases U<;>try (cases e;done)
 case list xs=>
  cases t<;>try (cases e;done)
  rename_i i;have m:=r;subst m;obtain⟨a,S,rfl,n,C⟩:=nQ l;change Res.fJ (Mi.cK xs i)=_ at e;cases b:Mi.cK xs i with
  |none=>rw[b]at e;cases e
  |some D=>rw[b]at e;cases e;obtain⟨w,o,p⟩:=C.cK b;exact .inl (.inl ⟨a,S,i,w,rfl,rfl,n,o,q w p⟩)
 case tuple xs=>
  cases t<;>try (cases e;done)
  rename_i i;have m:=r;subst m;obtain⟨a,S,rfl,n,C⟩:=l;change Res.fJ (Mi.cK xs i)=_ at e;cases b:Mi.cK xs i with
  |none=>rw[b]at e;cases e
  |some D=>rw[b]at e;cases e;obtain⟨w,o,p⟩:=C.cK b;exact .inl (.inr (.inl ⟨a,S,i,w,rfl,rfl,n,o,q w p⟩))
 case str z=>
  cases t<;>try (cases e;done)
  rename_i i;have m:=r;have L:=l.1;subst L m;change(if z.length<=LIM then Res.fJ ((Mi.cK z.cps.toList i).map λc=>PyData.str ⟨#[c]⟩)else .no)=_ at e;split at e
  ·rename_i M;cases b:Mi.cK z.cps.toList i with
   |none=>rw[b]at e;cases e
   |some c=>
    rw[b]at e;cases e
    have N:c∈z.cps.toList:=by
     unfold Mi.cK at b;cases E:Mi.kB z.cps.toList.length i with
     |none=>rw[E]at b;cases b
     |some j=>rw[E]at b;exact de b
    exact .inl (.inr (.inr ⟨z,i,c,rfl,rfl,kP M,b,q _ ⟨rfl,EI l.2 N⟩⟩))
  ·cases e
 case dict es=>
  change(if qA _=true then Res.fJ (gT es _)else Res.no)=_ at e;split at e
  ·rename_i hk;obtain⟨k,rfl,rfl,_⟩:=EL hk r;obtain⟨a,O,rfl,n,_,P⟩:=l;have F:=P.val k;cases b:gT es (kD k)with
   |none=>rw[b]at e;cases e
   |some D=>rw[b]at e F;cases e;obtain⟨w,o,p⟩:=F;exact .inr ⟨a,w,rfl,by rw[<-o];exact DGet.k n,q w p⟩
  ·cases e
theorem EZ (h:z5d i=true):El i:=λo v=>by cases i<;>first|rfl|cases h
theorem d_ix (hu:X.A.units+64<cLine)(hs:z5d i=true)(g:PE X a (tD X.K r))(h:PE X i (tD X.K s)):
  PE X (.Subscript a i t) (tD X.K λp=>r p>>=λx=>s p>>=λy=>iD x.2 y.2>>=λd=>.ok (gJ d x.1,d)):=
 PE.imp (Em (EY hu) g h (EZ hs)) λB H Q ⟨p,F,z,c,e,q⟩=>by obtain⟨x,j,e⟩:=Res.aA e;obtain⟨y,k,e⟩:=Res.aA e;obtain⟨d,l,e⟩:=Res.aA e;cases e;exact⟨p,F,x,c,j,λv C s1 m=>⟨p,F,y,c.same s1,k,λu n f o=>⟨_,_,x.2,y.2,d,m.same f λ_ z=>z,o,l,λw b=>q w n (s1.trans f) (qG b λ_ z=>z)⟩⟩⟩
theorem Mm (h:PyData.strOk z=true)(b d:Option Int):PyData.strOk (jQ z b d)=true:=
 strOk_iff.mpr λc a=>strOk_iff.mp h c (by
  have:c∈Mi.cut z.cps.toList b d:=by simpa[jQ]using a
  exact ik (il this))
theorem E1 (b c:Option Int)(n:Nat):eu b c 1 n=sliceRange ((Mi.bE n 0 b:Nat):Int) ((Mi.bE n n c:Nat):Int) 1:=by
 delta eu
 have a:=Int.one_pos;simp
 congr 1
 ·cases b with
  |none=>rfl
  |some v=>
   simp only[Mi.bE];by_cases h:v<0
   ·simp only[qe h];omega
   ·simp only[qf h];omega
 ·cases c with
  |none=>rfl
  |some v=>
   simp only[Mi.bE];by_cases h:v<0
   ·simp only[qe h];omega
   ·simp only[qf h];omega
theorem Mn (n d:Nat)(hd:d<=n)(o:Option Int):Mi.bE n d o<=n:=by rw[<-AM];exact HT.rq n d hd o
theorem Mo (z:Str)(g h:Option Int):Txt.slice z g h=jQ z g h:=by
 have hn:z.cps.toList.length=z.length:=by simp[Str.length]
 have e:(eu g h 1 z.length).filterMap (z.cps[·]?)=Mi.cut z.cps.toList g h:=by rw[E1,mf,pick_run];unfold Mi.cut;rw[hn]
 have d:(eu g h 1 z.length).length=Mi.bE z.length z.length h-Mi.bE z.length 0 g:=by rw[E1,mf,ak,du]
 unfold Txt.slice;split
 ·rename_i a;simp at a;have f:=Mn z.length z.length (ag _) h
  have b:Mi.cut z.cps.toList g h=z.cps.toList:=by
   unfold Mi.cut;rw[hn];by_cases h0:Mi.bE z.length 0 g=0
   ·rw[h0,List.drop_zero,List.take_of_length_le (by grind)]
   ·have c:z.length=0:=by omega
    have:z.cps.toList=[]:=f8.mp (hn▸c);rw[this];simp
  unfold jQ;rw[b]
 ·unfold jQ;rw[<-e]
def AN (K:W.Frag):V->Option Int->Option Int->Hp->VK->Prop:=λx lo hi H Q=>∃B dx d,Rep K H B x dx/\qF dx lo hi=.ok d/\∀w H',Same H H'->Rep K H' (λa=>nw H a\/B a) w d->(∀ds,d=.list ds->imms ds=true->Rep K H' (nw H) w d)->Q w H'
theorem Mp:nM X (AN X.K):=by
 intro y s C H x v j k u w sl Q I l hs pl m h;refine(Lx.or KH) y s C H x v j k u w sl Q I l hs pl m ?_;obtain⟨B,D,d,r,e,q⟩:=h;cases D<;>try (cases e;done)
 case list xs=>cases e;obtain⟨a,A,rfl,f,c⟩:=nQ r;refine .inl (.inl ⟨a,A,rfl,f,λp b=>?_⟩);exact q _ _ (Same.upd b) (tq b (c.cut u w) (λ_ z=>.inr z) (.inl b)) λi z g=>by cases z;exact tq b (Reps.bR _ g (c.cut u w)) (λ_ z=>z) b
 case tuple xs=>
  change(if bE xs.length 0 u=0/\bE xs.length xs.length w=xs.length then Res.no else Res.ok (PyData.tuple (cut xs u w)))=_ at e;split at e
  ·cases e
  ·rename_i n;cases e;obtain⟨a,A,rfl,f,c⟩:=r;refine .inr ⟨a,A,rfl,f,by rw[AM,AM,c.length];exact n,λp b=>?_⟩;exact q _ _ (Same.upd b) (xw b (c.cut u w) λ_ z=>.inr z) λi z=>by cases z
 case str z=>
  change(if z.length<=LIM then Res.ok (PyData.str (jQ z u w))else .no)=_ at e;split at e
  ·rename_i o;cases e;have t:=r.1;subst t;refine .inl (.inr ⟨z,rfl,kP o,?_⟩);rw[Mo];exact q _ H (Same.refl H) ⟨rfl,Mm r.2 u w⟩ λi z=>by cases z
  ·cases e
theorem lQ:PO X none (tDO X.K λ_=>.ok none):=PO.imp Kz λb H Q ⟨c,F,z,a,e,q⟩=>by cases e;exact q H (Same.refl H)
theorem Mq (b:PE X a (tD X.K j)):PO X (some a) (tDO X.K λi=>j i>>=λx=>rH x.2):=
 PO.imp (KA b) λl H Q ⟨i,F,z,c,e,q⟩=>by
  obtain⟨x,f,e⟩:=Res.aA e;refine⟨i,F,x,c,f,λv k s1 h=>?_⟩;obtain⟨g,d⟩:=x;cases d<;>try (cases e;done)
  cases e;exact⟨_,h,q k s1⟩
theorem d_sl {G:Option Expr}(i:PE X a (tD X.K I))(j:PO X G (tDO X.K fl))(hh:PO X E (tDO X.K k)):
  PE X (.Subscript a (.Slice G E none p2) J) (tD X.K λD=>I D>>=λx=>fl D>>=λl=>k D>>=λh=>qF x.2 l h>>=λd=>.ok (gN d (cF [x]),d)):=
 PE.imp (KG Mp i j hh) λL H Q m=>by
  obtain⟨D,F,z,b,e,q⟩:=m;obtain⟨x,n,e⟩:=Res.aA e;obtain⟨l,o,e⟩:=Res.aA e;obtain⟨h,p,e⟩:=Res.aA e;obtain⟨d,r,e⟩:=Res.aA e;cases e;refine⟨D,F,x,b,n,λv M s1 s=>⟨D,F,l,b.same s1,o,λB c=>⟨D,F,h,b.same (s1.trans c),p,λC f=>⟨_,x.2,d,s.same (c.trans f) λ_ z=>z,r,λw t u g y=>q w t ((s1.trans (c.trans f)).trans u) (EM g (λa h=>?_) λA z E=>(y A z E).weak λ_ z=>nw.back (s1.trans (c.trans f)) z)⟩⟩⟩⟩;rcases h with h|h
  ·exact AB b.aN (s1.trans (c.trans f)) h
  ·exact uX b.aN (by simp) h
theorem d_cB {id:String}(j:CallR X (.builtin id) (z6v X.K m))(hm:X.mg x=none)(k:cq x=some (.builtin id))(l:PA X (e::y) (tDA X.K fs))(b:((e::y).all fun e=>!isStar e)=true)(n:Gl X x)(hn:x≠"__name__")(c:Ue x):
  PE X (.Call (.Name x p) (e::y) [] A) (tD X.K λv=>fs v>>=λf=>m (f.map (·.2))>>=λd=>.ok (gJ d .al,d)):=
 PE.imp (xo j hm k l b n hn c) λB H Q o=>by obtain⟨v,F,z,g,e,q⟩:=o;obtain⟨f,r,e⟩:=Res.aA e;obtain⟨d,s,e⟩:=Res.aA e;cases e;exact⟨v,F,f,g,r,λC D s1 rs=>⟨_,_,d,rs.iF g.aN,s,λw t u i=>q w t (s1.trans u) (qG i λa h=>h.elim (λz=>(nw.back s1 z).aN g.aN) λz=>z)⟩⟩
theorem cQ.length {K:W.Frag}:∀{a:List (Key×V)} {b:iZ},cQ K H B a b->a.length=b.length
 |a,[],r=>by have e:a=[]:=r;subst e;rfl
 |a,(kd,d)::b,r=>by obtain⟨k,v,t,e,_,_,_,q⟩:=r;subst e;rw[ay,ay,q.length]
theorem tE {K:W.Frag}(r:Reps K H B a [d]):∃v,a=[v]/\Rep K H B v d:=by obtain⟨v,t,e,h,q⟩:=r;have b:=q;subst e b;exact⟨v,rfl,h⟩
theorem E2:CallR X (.builtin "len") (z6v X.K (biD "len")):=by
 refine CallR.imp (Ly.or K9) λk H Q h=>?_;obtain⟨B,f,d,r,e,q⟩:=h;simp only[biD,if_true]at e;split at e
 ·rename_i x;obtain⟨v,rfl,g⟩:=tE r;clear r;have r:=g;cases x<;>try (cases e;done)
  case str z=>
   change(if z.length<=LIM then Res.ok (PyData.int z.length)else .no)=_ at e;split at e
   ·rename_i i;cases e;have j:=r.1;subst j;exact .inl (.inl ⟨z,rfl,kP i,q _ H (Same.refl H) rfl⟩)
   ·cases e
  case tuple f=>cases e;obtain⟨a,l,rfl,b,c⟩:=r;exact .inl (.inr ⟨a,l,rfl,.inr b,q _ H (Same.refl H) (c.length▸rfl)⟩)
  case list f=>cases e;obtain⟨a,l,rfl,b,c⟩:=nQ r;exact .inl (.inr ⟨a,l,rfl,.inl b,q _ H (Same.refl H) (c.length▸rfl)⟩)
  case dict f=>cases e;obtain⟨a,l,rfl,b,_,c⟩:=r;exact .inr ⟨a,l,rfl,b,q _ H (Same.refl H) (c.length▸rfl)⟩
 ·cases e
theorem zfa (I:Inv X p t H s)(f:RelV x u)(r:Rep X.K H B x d)(k:T∈tysB)
  (h:∀l,Q (.bool (i' (gY d) T)) {s with toks:=l}):wpAny (model X.prog X.w) A (call (.builtin "isinstance") [u,.type T]) Q E s:=by
 have m:gY d∈oN:=by cases d<;>simp[gY,oN]
 have e:=LA X.K _ m T k;cases d with
 |none=>have c:x=.non:=r;subst c;exact z29 I f .non e h
 |bool b=>have c:x=.bl b:=r;subst c;exact z29 I f (.bl b) e h
 |int b=>have c:x=.int b:=r;subst c;exact z29 I f (.int b) e h
 |str b=>have c:x=.str b:=r.1;subst c;exact z29 I f (.str b) e h
 |tuple n=>obtain⟨a,q,c,g,_⟩:=r;subst c;cases f;obtain⟨_,_,⟨o,i,j,_⟩,_⟩:=I.tuple g;exact W.kia_one W.kitx_tuple I.cZ ⟨o,i,j⟩ e (λz=>nomatch z) h
 |list n=>obtain⟨a,q,c,g,_⟩:=nQ r;subst c;cases f;obtain⟨_,_,⟨o,_,i,j,_⟩,_⟩:=I.list g;exact W.kia_one W.kitx_list I.cZ ⟨o,i,j⟩ e (λz=>nomatch z) h
 |dict v=>obtain⟨a,q,c,g,_⟩:=r;subst c;exact z29 I f (.dK g) e h
def AO (K:W.Frag):List V->Hp->VK->Prop:=λxs H Q=>∃B x d T,xs=[x,.ty T]/\Rep K H B x d/\T∈tysB/\Q (.bl (i' (gY d) T)) H
theorem Mr:CallR X (.builtin "isinstance") (AO X.K):=by
 rintro i s j H g k Q I r ⟨B,x,d,T,rfl,a,b,q⟩
 obtain⟨u,c,rfl,e,f⟩:=vals2 r;obtain rfl:c=Value.type T:=f;exact zfa I e a b λh=>⟨.bl _,H,I.tok _,rfl,q⟩
theorem zug (hm:X.mg "isinstance"=none)(h:Gl X "isinstance")(b:X.mg a=none)(c:cq a=some (.type T))(d:Gl X a)(f:a≠"__name__")(g:Ue a)(i:T∈tysB)(hs:isStar y=false)(j:PE X y (tD X.K r)):
  PE X (.Call (.Name "isinstance" p) [y,.Name a p2] [] s) (tD X.K λo=>r o>>=λx=>.ok (.fr,.bool ([T].any λT=>i' (gY x.2) T))):=
 PE.imp (xo Mr hm (by decide+kernel) (dN j (dN (JF (v:=.ty T) d b c rfl f g) j') hs) (by simp[hs];rfl) h dc dc) λu H Q k=>by obtain⟨o,F,z,l,e,q⟩:=k;obtain⟨x,m,e⟩:=Res.aA e;cases e;refine⟨o,F,x,l,m,λv t s1 n=>?_⟩;refine⟨_,v,x.2,T,rfl,n,i,q _ t s1 ?_⟩;show V.bl _=V.bl _;simp
def AQ (K:W.Frag)(n:Nat)(t:qZ):TG:=λv σ H Q=>∃a xs,v=.ref a/\SqL K H a xs/\xs.length=n/\t xs σ H Q
theorem Ms (i:X.calm=true)(h:PGs X A t)(hn:(dw A X.env).length=n)(c:(dw A X.env).findIdx? (·.1)=none):PG X (.Tuple A k pos) (AQ X.K n t):=by
 intro z s B H v u Q I r d;obtain⟨a,j,l,m,p,d⟩:=d;subst l;cases r;obtain⟨f,g,pl,y⟩:=I.list m;apply aa;refine gw ?_
 delta unpack
 rw[c,show(dw A X.env).length=f.toArray.size by rw[hn,<-p,g.length,bn]];apply aa;refine ei (W.kun_itemsOf (I.ok.hd i) pl.isList λq w=>?_);have x:Inv X z B H {s with heap:=q}:=I.kept λb o e=>w b o (b9 (bb e)) e;exact h z _ B H j _ Q x (by simpa using g) d
def Kp (B:Ad->Prop)(H1 H2:Hp):Prop:=∀a o,H1 a=some o->(B (some a)\/Fix o)->H2 a=some o
theorem Kp.of (s:Same c b):Kp B c b:=λa o e _=>s a o e
structure Walk (K:W.Frag)(J:It)(B:Ad->Prop)(H1:Hp)(xs:List D):Prop where
 len:xs.length<=av
 go:∀H2,Kp B H1 H2->∀i,i<xs.length->J.go i H2
 stop:∀H2,Kp B H1 H2->J.stop xs.length H2
 jZ:∀H2,Kp B H1 H2->∀i x H3,i<xs.length->J.jZ i H2 x H3->Same H2 H3/\∃d,xs[i]?=some d/\Rep K H3 B x d
def tDW (K:W.Frag)(f:Rho->Res (G×List D)):TI:=λσ H R=>∃ρ F w,StOk K F H σ ρ/\f ρ=.ok w/\∀J B H',Same H H'->(∀a,B a->BG F H w.1 a/\¬nw H' a)->Walk K J B H' w.2->R J H'
theorem _root_.L2.PI.imp (h:PI X a e t)(i:∀c H Q,b c H Q->t c H Q):PI X a e b:=λd s c H Q I q=>h d s c H Q I (i c H Q q)
section
variable {K:W.Frag}{H:Hp}{B:Ad->Prop}
theorem Mt (h:(H a=some (.lst q)/\B (some a))\/(FL K H a q/\B none))(r:Reps K H B q f)(g:f.length<=av):Walk K (zH K a) B H f:=by
 have sq:∀c,Kp B H c->SqL K c a q:=λc k=>by
  rcases h with⟨h,b⟩|⟨⟨o,h⟩|h,_⟩
  ·exact .inl (.inl (k a _ h (.inl b)))
  ·exact .inl (.inr ⟨o,k a _ h (.inr True.intro)⟩)
  ·exact .inr h
 refine⟨g,λc k i s=>?_,λc k=>⟨q,sq c k,by rw[r.length];exact ag _⟩,λc k i x p s y=>?_⟩
 ·have j:i<q.length:=r.length▸s;exact⟨q,q[i],sq c k,by simp[j]⟩
 ·obtain⟨e,y⟩:=y;subst e;have l:=y q (sq _ k);obtain⟨d,m,n⟩:=r.kN l;exact⟨Same.refl _,d,m,Rep.keep k (λ_ z=>z) d n⟩
theorem Mu (h:dB K H a o)(r:Reps K H B o c)(f:c.length<=av):Walk K (DR K a) B H c:=by
 have sq:∀b,Kp B H b->dB K b a o:=λb k=>h.keep k;refine⟨f,λb k i p=>?_,λb k=>⟨o,sq b k,by rw[r.length];exact ag _⟩,λb k i x n p y=>?_⟩
 ·have g:i<o.length:=r.length▸p;exact⟨o,o[i],sq b k,by simp[g]⟩
 ·obtain⟨e,y⟩:=y;subst e;have j:=y o (sq _ k);obtain⟨d,l,m⟩:=r.kN j;exact⟨Same.refl _,d,l,Rep.keep k (λ_ z=>z) d m⟩
theorem Mv (ok:PyData.strOk z=true)(e:z.length<=av):Walk K (z5 z) B H (z.cps.toList.map λc=>.str ⟨#[c]⟩):=by
 have b:(z.cps.toList.map λc=>(PyData.str ⟨#[c]⟩:D)).length=z.cps.size:=by simp
 refine⟨by rw[b];exact e,λd k i h=>?_,λd k=>?_,λd k i x g h y=>?_⟩
 ·rw[b]at h;exact h
 ·show z.cps.size<=_;rw[b];simp_all
 ·obtain⟨rfl,c,f,rfl⟩:=y;have a:z.cps.toList[i]?=some c:=by simpa using f
  refine⟨Same.refl _,.str ⟨#[c]⟩,by rw[bu,a];rfl,rfl,EI ok (de a)⟩
theorem Mw {f:Int}(c:n<=av):Walk K (wV f n) B H ((dm n).map λ(i:Nat)=>.int (f+i)):=by
 have a:((dm n).map λ(i:Nat)=>(PyData.int (f+i):D)).length=n:=by simp
 refine⟨by rw[a];exact c,λb k i e=>?_,λb k=>?_,λb k i x d e y=>?_⟩
 ·rw[a]at e;exact e
 ·show n<=_;rw[a];simp_all
 ·obtain⟨rfl,rfl⟩:=y;rw[a]at e;exact⟨Same.refl _,.int (f+i),by rw[bu,List.getElem?_range e];rfl,rfl⟩
end
section
variable {X:Cx}{a b e:Expr}{fc:Rho->Res GD}
theorem z5j (f:Inv X E σ F s1)(m:RelV y v)(k:Rep X.K F B y d)(e:z4q d=.ok x)
  (q:∀J,Walk X.K J B F x->R J F):wpAny (model X.prog X.w) X.A (pw v) (q8 X E σ H R) X.xe s1:=by
 cases d<;>try (cases e;done)
 case list ds=>
  cases e;obtain⟨a,G,rfl,h,rs⟩:=k
  have l:SqL X.K F a G:=by
   rcases h with⟨h,_⟩|⟨h|h,_⟩
   ·exact .inl (.inl h)
   ·exact .inl (.inr h)
   ·exact .inr h
  cases m;obtain⟨n,r,p,s⟩:=f.list l;refine jg p.isList ?_;refine⟨s1.heap.objs.size,[s1.heap.objs.size],_,_,F,rfl,f.kept λb o e=>af _ e,DS a _,⟨_,az _ rfl,rfl,rfl⟩,λb g=>?_,q _ (Mt h rs (rs.length▸s))⟩;have e:b=s1.heap.objs.size:=by simpa using g
  subst e;exact f.iB (ag _) (f.hok.fresh (ag _))
 case tuple ds=>
  cases e;obtain⟨a,G,rfl,l,rs⟩:=k;cases m;obtain⟨n,r,p,s⟩:=f.tuple l;refine oj p ?_;refine⟨s1.heap.objs.size,[s1.heap.objs.size],_,_,F,rfl,f.kept λb o e=>af _ e,JR a _,⟨_,az _ rfl,rfl,rfl⟩,λb g=>?_,q _ (Mu l rs (rs.length▸s))⟩;have e:b=s1.heap.objs.size:=by simpa using g
  subst e;exact f.iB (ag _) (f.hok.fresh (ag _))
 case str z=>
  change(if z.length<=LIM then Res.ok (z.cps.toList.map λc=>PyData.str ⟨#[c]⟩)else .no)=_ at e;split at e
  case isFalse=>cases e
  rename_i hs;cases e;have C:=k.1;subst C;obtain⟨t,rfl⟩:=m;have D:=q _ (Mv k.2 (kP hs))
  have i:∀(ty:String) (j:ty="str_ascii_iterator"\/ty="str_iterator"),q8 X E σ H R (.ref s1.heap.objs.size) {s1 with heap:=s1.heap.push {cls:=.type ty,data:=.fields #[.str z t,.int 0 0]}}:=λty j=>by
   refine⟨s1.heap.objs.size,[s1.heap.objs.size],_,_,F,rfl,f.kept λb o e=>af _ e,Lm j _ z t,⟨_,az _ rfl,rfl,rfl⟩,λb g=>?_,D⟩;have e:b=s1.heap.objs.size:=by simpa using g
   subst e;exact f.iB (ag _) (f.hok.fresh (ag _))
  cases u:z.cps.all (· <128)
  ·exact wpAny_pyIter_wide u (i _ (.inr rfl))
  ·exact wpAny_pyIter_ascii u (i _ (.inl rfl))
theorem eR (d:PE X a (tD X.K p)):PI X m a (tDW X.K λρ=>p ρ>>=λx=>z4q x.2>>=λxs=>.ok (x.1,xs)):=by
 rintro n s r H R I ⟨ρ,F,w,f,e,q⟩
 obtain⟨x,g,e⟩:=Res.aA e;obtain⟨xs,h,e⟩:=Res.aA e;cases e;refine aM (d n s r H (λv o=>Same H o/\Rep X.K o (BG F H x.1) v x.2) I ⟨ρ,F,x,f,g,λv o s1 b=>⟨s1,b⟩⟩) λv s1 i=>?_;obtain⟨y,o,j,k,c,b⟩:=i;exact z5j j k (Rep.there _ b) h λJ l=>q J _ o c (λ_ z=>z) l
theorem Mx {n:Int}(a:n<=LIM)(b:-LIM<=n):-(2 ^ 62)<=n/\n<2 ^ 62:=by unfold LIM at *;omega
theorem eC.one {K:W.Frag}(r:eC K F H H' vs [x]):∃v,vs=[v]/\Rep K H' (BG F H x.1) v x.2:=by obtain⟨v,t,e,h,q⟩:=r;have a:=q;subst e a;exact⟨v,rfl,h⟩
theorem eC.two {K:W.Frag}(r:eC K F H c d [x,y]):∃v w,d=[v,w]/\Rep K c (BG F H x.1) v x.2/\Rep K c (BG F H y.1) w y.2:=by obtain⟨v,t,e,h,q⟩:=r;obtain⟨w,a,b⟩:=q.one;subst e a;exact⟨v,w,rfl,h,b⟩
theorem My (hm:X.mg "range"=none)(k:Gl X "range")(hs:isStar a=false)(l:PA X [a] (tDA X.K fs))(m:∀A b,fs A=.ok b->b.length=1):PI X y (.Call (.Name "range" p) [a] [] B) (tDW X.K λA=>fs A>>=λb=>kJ (b.map (·.2))>>=λh=>.ok (.fr,h)):=
 PI.imp (JV k hm l (eA hs)) λE H R o=>by
  obtain⟨A,F,w,r,e,q⟩:=o;obtain⟨b,j,e⟩:=Res.aA e;obtain⟨h,c,e⟩:=Res.aA e;cases e;refine⟨A,F,b,r,j,λG C s1 rs=>?_⟩;have s:=m A b j
  match b,s with
  | [(g,d)],t=>
   obtain⟨v,rfl,u⟩:=rs.one;cases d<;>try (cases c;done)
   rename_i n;have ev:=u;subst ev;change(if n<=LIM/\-LIM<=n then Res.ok ((dm n.toNat).map λ(i:Nat)=>PyData.int i)else .no)=_ at c;split at c
   case isFalse=>cases c
   rename_i hn;cases c;have f:=Mx hn.1 hn.2;refine⟨n,rfl,f.1,f.2,q _ (λ_=>False) C s1 (λ_ z=>z.elim) ?_⟩;have x:((dm n.toNat).map λ(i:Nat)=>(PyData.int i:D))=(dm n.toNat).map λ(i:Nat)=>.int (0+i):=by apply mz;intro i _;rw[Int.zero_add]
   rw[x];exact Mw (kP (by unfold LIM at *;omega))
def Fm.drop (F:Fm)(i:Nat):Fm:={F with O:=λa=>if F.O a=some i then none else F.O a}
theorem Fm.bQ {F:Fm}{a:Addr}(h:F.O a=none):(F.drop i).O a=none:=by show(if F.O a=some i then none else F.O a)=none;rw[h];rfl
theorem Bin.drop {a:Ad}(h:Bin F a):Bin (F.drop i) a:=by
 cases a with
 |none=>exact h
 |some a=>exact⟨Fm.bQ h.1,h.2⟩
theorem Slot.drop {K:W.Frag}(a:j≠i)(h:Slot K F H j g v d):Slot K (F.drop i) H j g v d:=by
 cases g with
 |fr=>
  obtain⟨p,e,o,h⟩:=h;refine⟨p,e,?_,?_⟩
  ·show(if F.O p=some i then none else F.O p)=some j;rw[o,qf (λz=>a (qg z))]
  ·rcases h with⟨l,c,f,k,r⟩|⟨l,c,f,k,r⟩
   ·exact .inl ⟨l,c,f,k,r.weak λ_ b=>b.drop⟩
   ·exact .inr ⟨l,c,f,k,cQ.same (λ_ _ e=>e) (λ_ b=>b.drop) r⟩
 |od=>exact h
 |al=>exact h
 |nu=>exact Rep.weak (λ_ b=>b.drop) h
def BI (F:Fm):G->Ad->Prop
 |.od=>fQ F
 |.fr=>bS F
 |.al=>bS F
 |.nu=>bS F
theorem BI.of {a:Ad}(b:∀a,H a=none->F.V a)(h:BG F H g a):BI F g a:=by
 cases g with
 |fr=>exact nw.aN b h
 |od=>exact h
 |al=>exact h
 |nu=>exact h.elim (nw.aN b) Bin.aN
theorem StOk.kQ {K:W.Frag}(b:StOk K F H o p)(r:Rep K H (BI F x.1) v x.2):StOk K (F.drop i) H (o.set i (some v)) (p.set i (some (lM x))) where
 ext:=b.ext
 aN:=b.aN
 own:=λa j e=>by
  have h:F.O a=some j:=by
   have:(if F.O a=some i then none else F.O a)=some j:=e;split at this
   ·cases this
   ·exact this
  exact b.own a j h
 len:=by rw[c9,c9];exact b.len
 sl:=λj g d e=>by
  by_cases f:i=j
  ·subst f;rw[dk]at e;simp only[if_true]at e;split at e
   ·rename_i k;have c:lM x=(g,d):=by simpa using e
    refine⟨v,?_,?_⟩
    ·rw[dk];simp[b.len,k]
    ·obtain⟨l,q⟩:=x;cases l with
     |fr=>cases c;exact r
     |od=>cases c;exact r
     |al=>cases c;exact r
     |nu=>cases c;exact r
   ·cases e
  ·rw[bz f]at e ⊢;obtain⟨u,m,n⟩:=b.sl j g d e;exact⟨u,m,n.drop λz=>f z.symm⟩
structure Keeps (F F':Fm)(is:List Nat)(σ bN:L2.St):Prop where
 h0:F'.H0=F.H0
 v:F'.V=F.V
 z:F'.z=F.z
 o:∀a,F.O a=none->F'.O a=none
 len:bN.length=σ.length
 rest:∀j,j∉is->bN[j]?=σ[j]?
theorem Keeps.refl:Keeps F F is σ σ:=⟨rfl,rfl,rfl,λ_ h=>h,rfl,λ_ _=>rfl⟩
theorem Keeps.set {v:Option V}(h:i∈is):Keeps F (F.drop i) is σ (σ.set i v):=⟨rfl,rfl,rfl,λ_ h=>Fm.bQ h,c9,λj a=>bz λz=>a (by rw[<-z];exact h)⟩
theorem Keeps.trans (a:Keeps F f is σ d)(b:Keeps f g is d c):Keeps F g is σ c:=⟨b.h0.trans a.h0,b.v.trans a.v,b.z.trans a.z,λx h=>b.o x (a.o x h),b.len.trans a.len,λj e=>(b.rest j e).trans (a.rest j e)⟩
def tDG (K:W.Frag)(t:Tg):TG:=λv σ H Q=>∃ρ F x dZ,StOk K F H σ ρ/\Rep K H (BI F x.1) v x.2/\fB t x ρ=.ok dZ/\∀bN F',StOk K F' H bN dZ->Keeps F F' (tgIx t) σ bN->Q bN H
theorem _root_.L2.PG.imp (h:PG X e t)(i:∀v a H Q,c v a H Q->t v a H Q):PG X e c:=λb s a H v u Q I r q=>h b s a H v u Q I r (i v a H Q q)
theorem _root_.L2.PGs.imp {e:List Expr}(h:PGs X e t)(i:∀v a H Q,c v a H Q->t v a H Q):PGs X e c:=λb s a H v u Q I r q=>h b s a H v u Q I r (i v a H Q q)
theorem Mz (hN:X.N.Nodup)(f:X.N[i]?=some x)(a:Loc X.env.scope x)(hf:X.fn x=true\/X.env.scope.names.lookup x=some .local):PG X (.Name x g) (tDG X.K (.nm i)):=PG.imp (DO hN f a hf) λv h H Q b=>by obtain⟨j,F,x,c,d,r,e,q⟩:=b;cases e;exact q _ _ (d.kQ r) (Keeps.set (by simp[tgIx]))
def mT (K:W.Frag)(all is:List Nat):qZ:=λvs σ H Q=>∃ρ F g ds dZ,(∀i∈is,i∈all)/\StOk K F H σ ρ/\Reps K H (BI F g) vs ds/\qE ρ is ds g=some dZ/\∀bN F',StOk K F' H bN dZ->Keeps F F' all σ bN->Q bN H
theorem MA:PGs X [] (mT X.K all []):=
 PGs.imp JQ λj i H Q b=>by
  obtain⟨k,F,g,a,c,_,f,r,e,q⟩:=b;cases a with
  |nil=>cases e;have h:=r;exact⟨h,q i F f Keeps.refl⟩
  |cons d a=>cases e
theorem MB (hN:X.N.Nodup)(B:X.N[i]?=some x)(s:Loc X.env.scope x)(hf:X.fn x=true\/X.env.scope.names.lookup x=some .local)(h:PGs X es (mT X.K all is)):PGs X (.Name x p::es) (mT X.K all (i::is)):=
 PGs.imp (zfr (DO hN B s hf) h (by rfl)) λD E H Q u=>by
  obtain⟨C,F,g,f,l,c,w,r,e,q⟩:=u;cases f with
  |nil=>cases e
  |cons d f=>
   obtain⟨v,t,rfl,o,y⟩:=r;refine⟨v,t,rfl,C.set i (some (lM (gJ d g,d))),F.drop i,g,f,l,λj z=>c j (ai _ z),?_,?_,e,λm A n k=>q m A n ((Keeps.set (c i aj)).trans k)⟩
   ·refine w.kQ ?_;unfold gJ;by_cases B:imm d=true
    ·rw[qe B];exact Rep.bR d B o
    ·rw[qf B];exact o
   ·exact y.weak λa b=>by cases g<;>exact b
theorem MC (w:X.calm=true)(h:PGs X M (mT X.K is is))(hn:(dw M X.env).length=n)(o:(dw M X.env).findIdx? (·.1)=none)(y:is.length=n):PG X (.Tuple M k O) (tDG X.K (.tp is)):=
 λJ s N H v u Q I z B=>by
  obtain⟨G,F,x,c,A,r,e,q⟩:=B;obtain⟨g,d⟩:=x
  have l:∀(is:List Nat) (b:List D) (G f:Rho),qE G is b g=some f->is.length=b.length:=by
   intro is
   induction is with
   |nil=>intro b G f h;cases b with
    |nil=>rfl
    |cons _ _=>cases h
   |cons i is C=>intro b G f h;cases b with
    |nil=>cases h
    |cons d b=>rw[ay,ay,C b _ _ h]
  have p:∀b:List D,Res.fJ (qE G is b g)=.ok c->qE G is b g=some c:=λb e=>by
   cases m:qE G is b g with
   |none=>rw[m]at e;cases e
   |some f=>rw[m]at e;rw[Res.ok.inj e]
  cases d<;>try (cases e;done)
  case tuple b=>have m:=p b e;obtain⟨a,L,rfl,j,t⟩:=r;exact zol w h hn o J s N H _ u Q I z ⟨a,L,rfl,j,by rw[t.length,<-l _ _ _ _ m];exact y,G,F,g,b,c,λ_ h=>h,A,t,m,q⟩
  case list b=>
   have m:=p b e;obtain⟨a,L,rfl,j,t⟩:=r
   have E:SqL X.K H a L:=by
    rcases j with⟨j,_⟩|⟨j|j,_⟩
    ·exact .inl (.inl j)
    ·exact .inl (.inr j)
    ·exact .inr j
   exact Ms w h hn o J s N H _ u Q I z ⟨a,L,rfl,E,by rw[t.length,<-l _ _ _ _ m];exact y,G,F,g,b,c,λ_ h=>h,A,t,m,q⟩
theorem StOk.blk {K:W.Frag}(f:StOk K F H A y)(m:Nat)(js:List Nat)(l:Addr)(t:List V)(c:H l=none):
  StOk K {F with V:=λa=>F.V a/\a≠l,O:=λ_=>none} (upd H l (.lst t)) (gA m js A) (bd m none++js.map λj=>fP (y.getD j none)) where
 ext:=λa o e=>by have:=f.ext a o e;rw[aH (fZ this c)];exact this
 aN:=λa e=>by
  by_cases h:a=l
  ·subst h;rw[bG]at e;cases e
  ·rw[aH h]at e;exact⟨f.aN a e,h⟩
 own:=λa i e=>by cases e
 len:=by unfold gA;simp
 sl:=λi g d e=>by
  have n:∀(a:Ad),bS F a/\¬nw H a->bS {F with V:=λa=>F.V a/\a≠l,O:=λ_=>none} a:=λa h=>by
   cases a with
   |none=>exact h.1
   |some a=>exact⟨h.1,λz=>h.2 (z▸c)⟩
  have p:∀(a:Ad),fQ F a/\¬nw H a->fQ {F with V:=λa=>F.V a/\a≠l,O:=λ_=>none} a:=λa h=>by
   cases a with
   |none=>exact h.1
   |some a=>exact⟨h.1.1,h.1.2,λz=>h.2 (z▸c)⟩
  rw[jx]at e;split at e
  ·rw[ci]at e;split at e<;>cases e
  ·rename_i B;rw[cu]at B e;rw[bu]at e;cases q:js[i-m]? with
   |none=>rw[q]at e;cases e
   |some j=>
    rw[q]at e;have b:fP (y.getD j none)=some (g,d):=qg e;cases r:y[j]? with
    |none=>rw[ao,r]at b;cases b
    |some o=>
     rw[ao,r]at b;cases o with
     |none=>cases b
     |some u=>
      obtain⟨s,w⟩:=u;obtain⟨v,x,k⟩:=f.sl j s w r;refine⟨v,?_,?_⟩
      ·unfold gA;rw[ij (by grind),cu,bu,q];show some (A.getD j none)=_;rw[ao,x];rfl
      ·cases s with
       |fr=>cases b;exact Rep.same (Same.upd c) n (Rep.there _ (k.rep f.jA))
       |od=>cases b;exact Rep.same (Same.upd c) p (Rep.there _ k)
       |al=>cases b;exact Rep.same (Same.upd c) n (Rep.there _ k)
       |nu=>cases b;exact Rep.same (Same.upd c) n (Rep.there _ (k.rep f.jA))
theorem AR:∀(l m:List D) (r:List GD),kK f (l++m)=.ok r->∃a b,kK f l=.ok a/\kK f m=.ok b/\r=a++b
 | [],m,r,h=>⟨[],r,rfl,h,rfl⟩
 |x::l,m,r,h=>by
  obtain⟨o,c,h⟩:=Res.aA h;obtain⟨d,e,h⟩:=Res.aA h;obtain⟨a,b,g,i,j⟩:=AR l m d e;subst j;cases h;refine⟨oc o a,b,?_,i,?_⟩
  ·show(f x>>=λo=>kK f l>>=λr=>Res.ok (oc o r))=_;rw[c,Res.aB,g,Res.aB]
  ·cases o<;>rfl
theorem eC.snoc {K:W.Frag}:∀{d:List V} {a:List GD} {v:V} {x:GD},eC K F H f d a->Rep K f (BG F H x.1) v x.2->eC K F H f (d++[v]) (a++[x])
 |d,[],v,x,r,h=>by have e:d=[]:=r;subst e;exact⟨v,[],rfl,h,rfl⟩
 |d,y::c,v,x,r,h=>by obtain⟨u,t,e,b,q⟩:=r;subst e;exact⟨u,t++[v],rfl,b,q.snoc h⟩
theorem eC.keep {K:W.Frag}(hk:∀a o (g:G),i a=some o->(BG F H g (some a)\/Fix o)->c a=some o):∀{h:List V} {xs:List GD},eC K F H i h xs->eC K F H c h xs
 |h,[],r=>r
 |h,y::f,r=>by obtain⟨u,t,e,d,q⟩:=r;exact⟨u,t,e,Rep.keep (λa o e b=>hk a o y.1 e b) (λ_ z=>z) _ d,q.keep hk⟩
theorem eC.len {K:W.Frag}:∀{d:List V} {a:List GD},eC K F H f d a->d.length=a.length
 |d,[],r=>by have e:d=[]:=r;subst e;rfl
 |d,y::b,r=>by obtain⟨u,t,e,c,q⟩:=r;subst e;rw[ay,ay,q.len]
theorem E3:∀(l:List D) (r:List GD),kK f l=.ok r->r.length<=l.length
 | [],r,h=>by cases h;simp_all
 |x::l,r,h=>by
  obtain⟨o,c,h⟩:=Res.aA h;obtain⟨a,b,h⟩:=Res.aA h;have:=E3 l a b;cases h;cases o with
  |none=>exact bp this (by simp)
  |some y=>simp only[oc,ay];omega
def zfk (nt:Nat)(js:List Nat)(t:Tg)(fw:Rho->Res (G×List D))(fc:Rho->Res Bool)(fe:Rho->Res GD):Rho->Res GD:=λρ=>fw ρ>>=λw=>kK (λx=>fB t (gJ x w.1,x) (bd nt none++js.map λj=>fP (ρ.getD j none))>>=λρ1=>fc ρ1>>=λk=>if k then fe ρ1>>=λy=>.ok (some y)else .ok none) w.2>>=λys=>.ok (qD ys,.list (ys.map (·.2)))
def MD (g:TG)(tc:TT)(te:TE)(em:L2.St->L2.St)(σ:L2.St)(Q:VK):It->Hp->Prop:=λJ H1=>∀l,H1 l=none->∃P:Nat->Nat->List V->Hp->Prop,(∃m,P 0 m [] (upd H1 l (.lst [])))/\∀i m acc H2,P i m acc H2->(J.stop i H2/\Q (.ref l) H2)\/(J.go i H2/\acc.length<av/\∃N:List V->Hp->Prop,(∀mG H',N mG H'->∃m',m'<m/\P (i+1) m' mG H')/\∀x H3,J.jZ i H2 x H3->g x (em σ) H3 λkG H4=>mF (em σ) kG/\tc kG H4 λb H5=>if b=true then te kG H5 λy H6=>H6 l=some (.lst acc)/\N (acc++[y]) (upd H6 l (.lst (acc++[y])))else N acc H5)
abbrev CI (K:W.Frag)(F:Fm)(f:D->Res (Option GD))(ds:List D)(H1:Hp)(l:Nat)(i:Nat)(acc:List V)(H2:Hp):Prop:=H2 l=some (.lst acc)/\(∀a o,H1 a=some o->H2 a=some o)/\∃ys,kK f (ds.take i)=.ok ys/\eC K F (upd H1 l (.lst [])) H2 acc ys
theorem zb9 {fc:Rho->Res Bool}(ht0:∀i∈tgIx t,i<R)(so:StOk X.K F H σ ρ)(e:zfk R js t fw fc fe ρ=.ok z)(q:∀v H',Same H H'->Rep X.K H' (BG F H z.1) v z.2->Q v H'):
  ∃w,fw ρ=.ok w/\∀J B H',Same H H'->(∀a,B a->BG F H w.1 a/\¬nw H' a)->Walk X.K J B H' w.2->MD (tDG X.K t) (dQ X.K fc) (tD X.K fe) (gA R js) σ Q J H':=by
 obtain⟨w,U,e⟩:=Res.aA e;obtain⟨W,Y,e⟩:=Res.aA e;cases e;refine⟨w,U,λJ B H1 s1 hB wk l E=>?_⟩;generalize hr:(bd R none++js.map λj=>fP (ρ.getD j none))=Z at Y;generalize hf:(λx=>fB t (gJ x w.1,x) Z>>=λn=>fc n>>=λk=>if k then fe n>>=λy=>Res.ok (some y)else .ok none)=f at Y;have xI:=so.same s1;have AS:∀i,∃S,kK f (w.2.take i)=.ok S:=λi=>by rw[<-List.take_append_drop i w.2]at Y;obtain⟨r1,r2,T,_,_⟩:=AR _ _ _ Y;exact⟨r1,T⟩
 let I:Fm:={F with V:=λa=>F.V a/\a≠l,O:=λ_=>none}
 refine zti (CI X.K I f w.2 H1 l) wk.len ?_ ?_ ?_ ?_ ?_
 ·exact⟨bG,λa o e=>by rw[aH (fZ e E)];exact e,[],rfl,rfl⟩
 ·rintro i p L ⟨_,_,S,M,rs⟩
  rw[rs.len];have:=E3 _ _ M;rw[c8]at this;omega
 ·rintro p L ⟨T,C,S,M,rs⟩
  rw[List.take_length]at M;rw[Y]at M;cases M;have kp:Kp B H1 L:=λa o e _=>C a o e;refine⟨wk.stop L kp,q _ _ (λa o e=>C a o (s1 a o e)) ?_⟩;have E4:=s1.none E;refine⟨l,p,rfl,.inl ⟨T,?_⟩,rs.mS λx hx a hb=>?_⟩
  ·show BG F H (qD W) (some l);unfold qD;split
   ·exact E4
   ·exact so.aN l E4
  ·unfold qD;by_cases ea:(W.all λx=>x.1==.fr)=true
   ·rw[qe ea];have MF:x.1=.fr:=by simpa using bj.mp ea x hx
    rw[MF]at hb;cases a with
    |none=>exact hb
    |some a=>
     have E5:upd H1 l (.lst []) a=none:=hb
     have:H1 a=none:=by
      by_cases c:a=l
      ·subst c;exact E
      ·rw[aH c]at E5;exact E5
     exact s1.none this
   ·rw[qf ea];have:bS I a:=BG.aN (λa e=>((xI.blk R js l [] E).aN a e)) hb;cases a with
    |none=>exact this
    |some a=>exact this.1
 ·rintro i p L hi ⟨_,C,_⟩
  exact wk.go L (λa o e _=>C a o e) i hi
 ·rintro i p L x H3 hi ⟨T,C,S,M,rs⟩ y
  obtain⟨s3,d,hd,rx⟩:=wk.jZ L (λa o e _=>C a o e) i x H3 hi y;obtain⟨TY,u⟩:=AS (i+1);have N:w.2.take (i+1)=w.2.take i++[d]:=by rw[List.take_add_one,hd];rfl
  rw[N]at u;obtain⟨r1,r2,g1,g2,g3⟩:=AR _ _ _ u;rw[M]at g1;cases g1;obtain⟨o,A,g2⟩:=Res.aA g2;obtain⟨r3,g5,g2⟩:=Res.aA g2;cases g5;rw[<-hf]at A;obtain⟨n,k1,A⟩:=Res.aA A;obtain⟨k,k2,A⟩:=Res.aA A
  have sb:StOk X.K I H3 (gA R js σ) Z:=by
   rw[<-hr];refine(xI.blk R js l p E).same λa o e=>s3 a o ?_;by_cases c:a=l
   ·subst c;rw[bG]at e;rw[T];exact e
   ·rw[aH c]at e;exact C a o e
  have AU:Rep X.K H3 (BI I (gJ d w.1)) x d:=by
   unfold gJ;by_cases hi:imm d=true
   ·rw[qe hi];exact Rep.bR d hi rx
   ·rw[qf hi];refine rx.weak λa b=>?_;obtain⟨r,b2⟩:=hB a b;have D:=BI.of so.aN r;cases a with
    |none=>cases hw:w.1<;>rw[hw]at D<;>exact D
    |some a=>
     have c:a≠l:=λz=>b2 (by rw[z];exact E);cases hw:w.1<;>rw[hw]at D
     ·exact⟨D,c⟩
     ·exact⟨D.1,D.2,c⟩
     ·exact⟨D,c⟩
     ·exact⟨D,c⟩
  refine⟨_,I,(gJ d w.1,d),n,sb,AU,k1,λkG P xJ h=>⟨⟨h.len.symm,λj v hj=>?_⟩,n,P,k,xJ,k2,λH5 s5=>?_⟩⟩
  ·by_cases E6:j∈tgIx t
   ·have :=ht0 j E6;unfold gA at hj;rw[ec (cu▸this),ci,qe this]at hj;cases hj
   ·rw[h.rest j E6];exact hj
  ·have h5:∀a o,H1 a=some o->H5 a=some o:=λa o e=>s5 a o (s3 a o (C a o e));have s:=s5 _ _ (s3 _ _ T);have E7:=rs.keep λa o g e _=>s5 a o (s3 a o e);cases k with
   |false=>cases A;cases g2;refine aX ⟨s,h5,S,?_,E7⟩;rw[N,u,g3];simp[oc]
   |true=>
    obtain⟨yv,k3,A⟩:=Res.aA A;cases A;cases g2;refine bA ⟨n,P,yv,xJ.same s5,k3,λv H6 s6 rv=>⟨s6 _ _ s,bG,λa o e=>?_,S++[yv],?_,?_⟩⟩
    ·rw[aH (fZ e E)];exact s6 a o (h5 a o e)
    ·rw[N,u,g3];rfl
    ·have MG:=s6 _ _ s
     have hk:∀a o (g:G),H6 a=some o->(BG I (upd H1 l (.lst [])) g (some a)\/Fix o)->upd H6 l (.lst (p++[v])) a=some o:=λa o g e b=>by
      have c:a≠l:=by
       intro z;subst z;rcases b with b|b
       ·cases g with
        |fr=>have m:upd H1 a (.lst []) a=none:=b;rw[bG]at m;cases m
        |od=>exact b.2.2 rfl
        |al=>exact b.2 rfl
        |nu=>
         rcases b with b|b
         ·have m:upd H1 a (.lst []) a=none:=b;rw[bG]at m;cases m
         ·exact b.2.2.2 rfl
       ·rw[MG]at e;cases e;exact b
      rw[aH c];exact e
     have MH:=E7.keep λa o g e _=>s6 a o e
     have va:Rep X.K H6 (BG I (upd H1 l (.lst [])) yv.1) v yv.2:=by
      refine rv.weak λa b=>?_;cases hg:yv.1 with
      |fr=>
       rw[hg]at b;cases a with
       |none=>exact b
       |some a=>
        have m:H5 a=none:=b;show upd H1 l (.lst []) a=none;have c:a≠l:=λz=>by rw[z,s]at m;cases m
        rw[aH c];cases U:H1 a with
        |none=>rfl
        |some o=>rw[h5 a o U]at m;cases m
      |nu=>
       rw[hg]at b;cases a with
       |none=>exact b
       |some a=>
        rcases b with b|b
        ·have m:H5 a=none:=b;refine .inl ?_;show upd H1 l (.lst []) a=none;have c:a≠l:=λz=>by rw[z,s]at m;cases m
         rw[aH c];cases U:H1 a with
         |none=>rfl
         |some o=>rw[h5 a o U]at m;cases m
        ·refine .inr ⟨rfl,?_,?_⟩
         ·have:=b.2.1;rw[h.h0]at this;exact this
         ·have:=b.2.2;rw[h.v]at this;exact this
      |od=>
       rw[hg]at b;cases a with
       |none=>have r:P.z:=b;rw[h.z]at r;exact r
       |some a=>have r:P.H0 a≠none/\P.V a:=b;rw[h.h0,h.v]at r;exact r
      |al=>
       rw[hg]at b;cases a with
       |none=>have r:P.z:=b;rw[h.z]at r;exact r
       |some a=>have r:P.V a:=b;rw[h.v]at r;exact r
     exact(MH.snoc va).keep hk
theorem MI {fc:Rho->Res Bool}(a:∀i∈tgIx t,i<f):∀d H Q,tD X.K (zfk f js t fw fc fe) d H Q->xm (tDW X.K fw) (tDG X.K t) (dQ X.K fc) (tD X.K fe) (gA f js) d H Q:=by intro d H Q h;obtain⟨g,F,z,b,e,q⟩:=h;obtain⟨w,c,h⟩:=zb9 a b e q;exact⟨g,F,w,b,c,h⟩
theorem zil {fc:Rho->Res Bool}(j:X.calm=true)(k:BlkScope X scope d c js)(e:∀i∈tgIx t,i<c)(q:PI X h o (tDW X.K fw))
  (l:∀C b s H,PG (blk X scope d C b s H) h (tDG X.K t)) (m:∀C b s H,qz (blk X scope d C b s H) f (dQ X.K fc)) (n:∀C b s H,PE (blk X scope d C b s H) g (tD X.K fe)) (hs:∀x,ek o X.env x=pure x):
  PE X (.ListComp g [⟨h,o,f,0⟩] scope pos) (tD X.K (zfk c js t fw fc fe))/\∀p H Q,tD X.K (zfk c js t fw fc fe) p H Q->xm (tDW X.K fw) (tDG X.K t) (dQ X.K fc) (tD X.K fe) (gA c js) p H Q:=by
 have a:=MI (X:=X) (js:=js) (fw:=fw) (fc:=fc) (fe:=fe) e;exact⟨PE.imp (zfn j k q l m n hs) a,a⟩
end
def BC (H:Hp)(A:Ad->Prop):G->Ad->Prop
 |.fr=>nw H
 |.od=>λa=>nw H a\/A a
 |.al=>λa=>nw H a\/A a
 |.nu=>nw H
def spD (K:W.Frag)(n:Nat)(m:Fn):Sp:=λvs H Q _=>∃A ds x,vs.length=n/\Reps K H A vs ds/\m ds=.ok x/\∀v H',Same H H'->Rep K H' (BC H A x.1) v x.2->Q v H'
section
variable {X:Cx}{e:Expr}
theorem zs5 (j:Cal X.prog X.w X.K X.mg X.base k x ps (spD X.K n m))(l:Room o X.A)(hk:k<=o)(s:PA X (e::es) (tDA X.K fs))(d:((e::es).all fun e=> !isStar e)=true)(c:Gl X x)(f:Ue x)
  (t:∀E b,fs E=.ok b->b.length=n):PE X (.Call (.Name x p) (e::es) [] I) (tD X.K λE=>fs E>>=λb=>m (b.map (·.2))>>=λr=>.ok (gJ r.2 (iP r.1),r.2)):=
 PE.imp (zg0 j l s d hk c f) λL H Q u=>by
  obtain⟨E,F,z,g,e,q⟩:=u;obtain⟨b,i,e⟩:=Res.aA e;obtain⟨r,y,e⟩:=Res.aA e;cases e;refine⟨E,F,b,g,i,λJ G s1 rs=>?_⟩;show spD X.K n m (J++[]) G Q E0;rw[bx];refine⟨_,_,r,by rw[rs.len];exact t E b i,rs.iF g.aN,y,λv B C D=>q v B (s1.trans C) (qG D λa h=>?_)⟩;have al:(nw G a\/bS F a)->bS F a:=λh=>h.elim (λh=>(nw.back s1 h).aN g.aN) λh=>h;cases c:r.1 with
  |fr=>rw[c]at h;exact nw.back s1 h
  |od=>rw[c]at h;exact al h
  |al=>rw[c]at h;exact al h
  |nu=>rw[c]at h;exact nw.back s1 h
def rMt (K:W.Frag)(m:String):V->List V->Hp->VK->Prop:=λx xs H Q=>∃B B' dx ds d,Rep K H B x dx/\Reps K H B' xs ds/\mtD m dx ds=.ok d/\∀w H',Same H H'->Rep K H' (λa=>nw H a\/B a\/B' a) w d->Q w H'
theorem lK (h:z0o o=true):gv o n env w=w:=by
 unfold gv;split
 ·rename_i id p a;cases h
 ·rfl
theorem E8:∀{a:List Expr},(a.all λe=> !isStar e)=true->(gy b (cn a env)).all (λx=> !x.1)=true
 | [],_=>rfl
 |e::a,h=>by have h:=ba.mp (cj▸h);rw[eA (by simpa using h.1)];show(true&&(gy b (cn a env)).all (λx=>!x.1))=true;rw[E8 h.2];rfl
theorem z3i (h:(c.all fun e=> !isStar e)=true)(a:c.length<20):((gy b (cn c env)).all (fun x=> !x.1)&&(o4 b (ku [] env)).all (fun x=>x.1.isSome)
  &&decide (c.length+([]:List lr).length+(if([]:List lr).isEmpty then 0 else 1)<30))=true:=by
 rw[E8 h];show(true&&true&&decide (c.length+0+0<30))=true;rw[qk (by omega)];rfl
theorem d_mt {id:String}(t:p9 T)(slot:PySem.Slot T n id)(i:qd (.builtin id)=pure (.type "method_descriptor"))(hm:MtR X id (rMt X.K m))(u:∀H B x S y d,Rep X.K H B x S->mtD m S y=.ok d->tyV X.K T x H)
  (A:PE X o (tD X.K U)) (C:PA X (e::R) (tDA X.K fs)) (j:z0o o=true) (f:((e::R).all λe=>!isStar e)=true) (D:(e::R).length<20) (c:(N.endLine==O.line)=true):
  PE X (.Call (.Attribute o n N) (e::R) [] O) (tD X.K λP=>U P>>=λx=>fs P>>=λk=>mtD m x.2 (k.map (·.2))>>=λd=>.ok (gJ d .al,d)):=by
 have b:=f;rw[cj,au]at b;refine PE.imp (zb1 t slot i hm A C (lK j) (z3i f D) c (eA (by simpa using b.1)) (lL b.2)) λW H Q E=>?_;obtain⟨P,F,z,g,e,q⟩:=E;obtain⟨x,G,e⟩:=Res.aA e;obtain⟨k,I,e⟩:=Res.aA e;obtain⟨d,r,e⟩:=Res.aA e;cases e;refine⟨P,F,x,g,G,λv V s1 s=>⟨u V _ v x.2 _ d s r,P,F,k,g.same s1,I,λY M l rs=>?_⟩⟩;refine⟨_,_,x.2,_,d,s.same l λ_ z=>z,rs.iF (g.same s1).aN,r,λw J L p=>q w J ((s1.trans l).trans L) (qG p λa h=>?_)⟩;rcases h with h|h|h
 ·exact(nw.back (s1.trans l) h).aN g.aN
 ·exact h.aN g.aN
 ·exact h
theorem E9 {K:W.Frag}:∀{a:List D} {b:List Str} {o:List V} {p:List Value},fC a=some b->Reps K H B o a->Vals o p->StrsAre p b/\∀s∈b,PyData.strOk s=true
 | [],b,o,p,e,r,q=>by cases e;have c:=r;subst c;cases q;exact⟨.nil,λ_ h=>nomatch h⟩
 |d::a,b,o,p,e,r,q=>by
  cases d<;>try (cases e;done)
  rename_i z;change(fC a).map (z:: ·)=_ at e;cases c:fC a with
  |none=>rw[c]at e;cases e
  |some g=>
   rw[c]at e;cases e;obtain⟨v,t,rfl,f,i⟩:=r;have ev:=f.1;subst ev;cases q with
   |cons j k=>
    obtain⟨l,rfl⟩:=j;obtain⟨m,n⟩:=E9 c i k;refine⟨.cons z l m,λs hs=>?_⟩;rcases(aq.mp hs)with rfl|hs
    ·exact f.2
    ·exact n s hs
theorem MJ (z:Str)(b:List Str):Txt.join z b=z0t z b:=by
 have go:∀(r:List Str) (a:Array Nat),(r.foldl (λa p=>a++z.cps++p.cps) a).toList=a.toList++(r.map λp=>z.cps.toList++p.cps.toList).flatten:=by
  intro r
  induction r with
  |nil=>intro a;simp
  |cons p r c=>intro a;rw[List.foldl_cons,c];simp
 cases b with
 |nil=>rfl
 |cons x r=>
  have:=go r x.cps;show(⟨r.foldl (λa p=>a++z.cps++p.cps) x.cps⟩:Str)=⟨(x.cps.toList++(r.map λp=>z.cps.toList++p.cps.toList).flatten).toArray⟩
  congr 1
  rw[<-this,fm]
theorem MK (d:PyData.strOk z=true)(h:∀s∈b,PyData.strOk s=true):PyData.strOk (z0t z b)=true:=
 strOk_iff.mpr λc e=>by
  have a:c∈dO z.cps.toList b:=by simpa[z0t]using e
  cases b with
  |nil=>simp[dO]at a
  |cons x r=>
   simp only[dO,bh,lm,cr]at a;rcases a with a|⟨l,⟨p,f,rfl⟩,a⟩
   ·exact strOk_iff.mp (h x aj) c a
   ·rcases bh.mp a with a|a
    ·exact strOk_iff.mp d c a
    ·exact strOk_iff.mp (h p (ai _ f)) c a
theorem ML:MtR X "str.join" (rMt X.K "join"):=by
 intro E s F H x r v G Q I f rs h;obtain⟨B,J,L,w,d,c,g,e,q⟩:=h;simp only[mtD,show("join":String)≠"get" by decide,if_true,if_false]at e;split at e
 ·rename_i z y;split at e
  case h_2=>cases e
  rename_i A b;split at e
  case isFalse=>cases e
  rename_i i;cases e;obtain⟨C,rfl,j⟩:=tE g;obtain⟨a,M,rfl,l,m⟩:=nQ j;obtain⟨u,rfl,n⟩:=vals1 rs;cases n;have ex:=c.1;subst ex;obtain⟨t,rfl⟩:=f;obtain⟨o,p,pl,_⟩:=I.list l;obtain⟨sa,ok⟩:=E9 b m p;refine join_list pl.isList (by simpa using sa) (bp i (by unfold LIM;decide)) λD k=>?_;rw[MJ];exact⟨.str _,H,I.tok _,⟨_,rfl⟩,q _ H (Same.refl H) ⟨rfl,MK c.2 ok⟩⟩
 ·cases e
theorem MM (r:Rep X.K H B x b)(e:mtD "join" b a=.ok d):tyV X.K "str" x H:=by
 simp only[mtD,show("join":String)≠"get" by decide,if_true,if_false]at e;split at e
 ·have ex:x=.str _:=r.1;subst ex;exact rfl
 ·cases e
end
theorem MN (h:kI y=some c):y=⟨#[c]⟩:=by
 obtain⟨⟨l⟩⟩:=y
 match l,h with
 | [d],h=>cases h;rfl
theorem E' (c:Nat):∀p r,c∉p->aU c (p++c::r)=p::aU c r
 | [],r,_=>by show aU c (c::r)=_;rw[aU,qe rfl]
 |a::p,r,h=>by rw[aq,not_or]at h;show aU c (a::(p++c::r))=_;rw[aU,qf (λe=>h.1 e.symm),E' c p r h.2]
theorem Fb (c:Nat):∀p,c∉p->aU c p=[p]
 | [],_=>rfl
 |a::p,h=>by rw[aq,not_or]at h;rw[aU,qf (λe=>h.1 e.symm),Fb c p h.2]
theorem Fc (c:Nat):∀ps,ps≠ []->(∀p∈ps,c∉p.cps.toList)->aU c (Str.join ⟨#[c]⟩ ps).cps.toList=ps.map λp=>p.cps.toList
 | [],h,_=>absurd rfl h
 | [p],_,h=>Fb c _ (h p (.head _))
 |p::q::r,_,h=>by
  have e:(Str.join ⟨#[c]⟩ (p::q::r)).cps.toList=p.cps.toList++c::(Str.join ⟨#[c]⟩ (q::r)).cps.toList:=by show((p.cps++#[c])++(Str.join ⟨#[c]⟩ (q::r)).cps).toList=_;simp
  rw[e,E' c _ _ (h p (.head _)),Fc c (q::r) (λz=>nomatch z) λz a=>h z (.tail _ a)];rfl
theorem Fd (x:Str)(c:Nat):(Txt.split x ⟨#[c]⟩).map (λp=>p.cps.toList)=aU c x.cps.toList:=by have h:=Fc c (Txt.split x ⟨#[c]⟩) (λz=>by have:=split_pos x ⟨#[c]⟩;rw[z]at this;exact absurd this dc) (StrLaws.split_free x c);rw[StrLaws.join_split]at h;exact h.symm
theorem MO (x:Str):toS x.cps.toList=x:=by obtain⟨a⟩:=x;show(⟨a.toList.toArray⟩:Str)=_;rw[fm]
theorem MP (x:Str)(c:Nat):(aU c x.cps.toList).map (λl=>PyData.str (toS l))=(Txt.split x ⟨#[c]⟩).map .str:=by rw[<-Fd,dv];exact mz λp _=>by show PyData.str (toS p.cps.toList)=_;rw[MO]
theorem MQ {l:List Nat}(h:∀c∈m,c∈l)(ok:PyData.strOk ⟨l.toArray⟩=true):PyData.strOk (toS m)=true:=
 strOk_iff.mpr fun c hc=>strOk_iff.mp ok c (by have a:c∈m:=by simpa[toS]using hc
                                               simpa using h c a)
theorem MR (ok:PyData.strOk x=true):PyData.strOk ⟨x.cps.toList.toArray⟩=true:=by rw[fm];exact ok
theorem xK (c:Nat):∀l p,p∈aU c l->∀d∈p,d∈l
 | [],p,h,d,hd=>by rw[ah.mp h]at hd;exact hd
 |a::l,p,h,d,hd=>by
  rw[aU]at h;split at h
  ·rcases aq.mp h with rfl|h
   ·cases hd
   ·exact .tail _ (xK c l p h d hd)
  ·cases e:aU c l with
   |nil=>rw[e]at h;rw[ah.mp h]at hd;rw[ah.mp hd];exact .head _
   |cons q t=>
    rw[e]at h;rcases aq.mp h with rfl|h
    ·rcases aq.mp hd with rfl|hd
     ·exact .head _
     ·exact .tail _ (xK c l q (e▸ .head _) d hd)
    ·exact .tail _ (xK c l p (e▸ .tail _ h) d hd)
def MS (K:W.Frag):V->List V->Hp->VK->Prop:=λx xs H Q=>∃z c,x=.str z/\xs=[.str ⟨#[c]⟩]/\PyData.strOk z=true/\z.length<=LIM/\∀w H',Same H H'->Rep K H' (nw H) w (.list ((aU c z.cps.toList).map λl=>.str (toS l)))->Q w H'
theorem Fe:∀l,Vals ((l.map (·.1)).map V.str) (strValues l)
 | []=>.nil
 |p::l=>.cons ⟨_,rfl⟩ (Fe l)
theorem Fg {K:W.Frag}:∀(l:List Str),(∀p∈l,PyData.strOk p=true)->Reps K H B (l.map V.str) (l.map PyData.str)
 | [],_=>rfl
 |p::l,h=>⟨_,_,rfl,⟨rfl,h p (.head _)⟩,Fg l λq a=>h q (.tail _ a)⟩
theorem MT:MtR X "str.split" (MS X.K):=by
 intro D s E H x A v J Q I w rs h;obtain⟨z,c,rfl,rfl,ok,B,q⟩:=h;obtain⟨t,rfl⟩:=w;obtain⟨u,rfl,g,rfl⟩:=vals1 rs;have C:LIM=1000000:=rfl;have hs:=cb
 have hok:∀p∈Txt.split z ⟨#[c]⟩,PyData.strOk p=true:=λp d=>by
  have i:p.cps.toList∈aU c z.cps.toList:=by rw[<-Fd];exact cr.mpr ⟨p,d,rfl⟩
  have:=MQ (xK c _ _ i) (MR ok);exact this
 have hN:=split_le z ⟨#[c]⟩;have d:=I.hok.fresh (ag _)
 have a:∀(l:List (Str×Tok)) (m:Nat),l.map (·.1)=Txt.split z ⟨#[c]⟩->EP X D E Q (.ref s.heap.objs.size) {s with toks:=m,heap:=s.heap.push {cls:=.type "list",data:=.seq (strValues l).toArray}}:=λl m y=>by
  have n:=Fe l;rw[y]at n;refine⟨.ref _,_,I.laid (o:=.lst ((Txt.split z ⟨#[c]⟩).map V.str)) (λb ob q=>af _ q) (ag _) ⟨?_,_,0,n,az _ rfl⟩,rfl,q _ _ (Same.upd d) ?_⟩
  ·rw[ak];omega
  ·rw[MP];exact tq d (Fg _ hok) (λ_ z=>z) d
 have r:((⟨#[c]⟩:Str).length==0)=false:=rfl;have j:=og s z t;by_cases e:(decide (z.length<(⟨#[c]⟩:Str).length)||decide (m5 z<m5 ⟨#[c]⟩))=true
 ·refine jp F.slot_str_split j F.entry_str_split (F.args_str_split_2 _ _) (meets_str_split_cannot_occur z _ t g e) ?_;exact a [(z,t)] s.toks (by show[z]=_;unfold Txt.split;rw[qe e])
 have f:=eq_false_of_ne_true e;by_cases hf:(d0 z ⟨#[c]⟩ 0 z.length (z.length+1)).isEmpty=true
 ·refine jp F.slot_str_split j F.entry_str_split (F.args_str_split_2 _ _) (meets_str_split_not_found z _ t g f r hf) ?_;exact a [(z,t)] s.toks (by show[z]=_;unfold Txt.split;rw[qf e,qe hf])
 have k:=eq_false_of_ne_true hf;have G:Txt.split z ⟨#[c]⟩=Builtin.Str.partsBetween z (d0 z ⟨#[c]⟩ 0 z.length (z.length+1)) (⟨#[c]⟩:Str).length:=by unfold Txt.split;rw[qf e,qf hf]
 refine jp F.slot_str_split j F.entry_str_split (F.args_str_split_2 _ _) (meets_str_split_sep z _ t g f r k (by omega) (by grind)) ?_;have:=a (numbered s.toks (Txt.split z ⟨#[c]⟩)) (s.toks+(Txt.split z ⟨#[c]⟩).length) (numbered_texts _ _);rw[<-strsFrom_eq,G]at this;exact this
theorem MU (h:gX a b=.ok d):∃x c,a=.str x/\b=.str ⟨#[c]⟩/\x.length<=LIM/\d=.list ((aU c x.cps.toList).map λl=>.str (toS l)):=by
 cases a<;>cases b<;>try (cases h;done)
 rename_i x y;change(match kI y with|some c=>if decide (x.length<=LIM)=true then Res.ok (PyData.list ((aU c x.cps.toList).map λl=>.str (toS l)))else .no|none=>.no)=_ at h;cases e:kI y with
 |none=>rw[e]at h;cases h
 |some c=>
  rw[e]at h
  dsimp only at h
  split at h
  ·rename_i f;cases h;exact⟨x,c,rfl,by rw[MN e],qj f,rfl⟩
  ·cases h
theorem zux (n:PE X o (tD X.K R))(p:PE X e (tD X.K fb))(g:z0o o=true)(b:isStar e=false)(f:(N.endLine==O.line)=true):
  PE X (.Call (.Attribute o "split" N) [e] [] O) (tD X.K λP=>R P>>=λx=>fb P>>=λy=>gX x.2 y.2>>=λd=>.ok (.fr,d)):=by
 have h:([e].all λe=>!isStar e)=true:=by simp[b]
 refine PE.imp (zb1 PySem.F.plainAttrs_str PySem.F.slot_str_split PySem.F.type_str_split MT n (wZ p j' (eA b)) (lK g) (z3i h (by show 1<20;omega)) f (eA b) rfl) λS H Q r=>?_;obtain⟨P,F,z,j,e,q⟩:=r;obtain⟨x,s,e⟩:=Res.aA e;obtain⟨y,t,e⟩:=Res.aA e;obtain⟨d,u,e⟩:=Res.aA e;cases e;obtain⟨A,T⟩:=x;obtain⟨B,L⟩:=y;obtain⟨k,c,rfl,rfl,C,rfl⟩:=MU u;refine⟨P,F,(A,.str k),j,s,λv U s1 l=>?_⟩;have ev:=l.1;subst ev;refine⟨rfl,P,F,(B,.str ⟨#[c]⟩),j.same s1,t,λw M m i=>?_⟩;have D:=i.1;subst D;exact⟨k,c,rfl,rfl,l.2,C,λw E G I=>q w E ((s1.trans m).trans G) (I.weak λa J=>nw.back (s1.trans m) J)⟩
theorem MV:CallR X (.type "int") (λa H Q=>∃x,a=[.str x]/\mK x.cps.toList=true/\x.length<=600/\Q (.int (gW x.cps.toList:Int)) H):=by
 intro e s f H a g Q I r h;obtain⟨x,rfl,hf,d,q⟩:=h;obtain⟨u,rfl,t,rfl⟩:=vals1 r;unfold mK at hf;rw[ba]at hf;have hd:=λc b=>by have:=bj.mp hf.2 c b;rw[ba,decide_eq_true_iff,decide_eq_true_iff]at this;exact this
 have hn:=intText_digits hd (λz=>by rw[z]at hf;cases hf.1) (by omega);exact W.KIN.call_text hn (by omega) ⟨.int _,H,I.tok _,⟨_,rfl⟩,q⟩
def cA (F:Fm)(H:Hp)(F':Fm)(H':Hp):Prop:=∀a o,H a=some o->F.O a=none->H' a=some o/\F'.O a=none
theorem cA.refl:cA F H F H:=λ_ _ e o=>⟨e,o⟩
theorem cA.trans (a:cA F H f i)(b:cA f i c d):cA F H c d:=λx o e n=>by obtain⟨g,h⟩:=a x o e n;exact b x o g h
theorem cA.same (s:Same H b):cA F H F b:=λa o e n=>⟨s a o e,n⟩
def Run (F F':Fm):Prop:=Same F.H0 F'.H0/\F'.V=F.V/\F'.z=F.z
theorem Run.refl:Run F F:=⟨λ_ _ e=>e,rfl,rfl⟩
theorem Run.trans (a:Run F d)(b:Run d c):Run F c:=⟨λx o e=>b.1 x o (a.1 x o e),b.2.1.trans a.2.1,b.2.2.trans a.2.2⟩
theorem Run.of (h:a.H0=F.H0)(v:a.V=F.V)(z:a.z=F.z):Run F a:=⟨λ_ _ e=>by rw[h];exact e,v,z⟩
def BR (F:Fm):G->Ad->Prop
 |.fr=>λa=>match a with|some a=>F.H0 a=none|none=>False
 |.od=>bS F
 |.al=>bS F
 |.nu=>λa=>match a with|some a=>F.H0 a=none|none=>False
def tF (K:W.Frag)(F:Fm)(H:Hp)(D:Ends):Out->Prop
 |.nx dZ=>∀bN H' F',StOk K F' H' bN dZ->Run F F'->cA F H F' H'->D.nx bN H'
 |.bk dZ=>∀bN H' F',StOk K F' H' bN dZ->Run F F'->cA F H F' H'->D.bk bN H'
 |.ct dZ=>∀bN H' F',StOk K F' H' bN dZ->Run F F'->cA F H F' H'->D.ct bN H'
 |.rt g d=>∀v H',(∀a o,F.H0 a=some o->H' a=some o)->Rep K H' (BR F g) v d->D.rt v H'
def tDS (K:W.Frag)(f:Rho->Res Out):TS:=λD σ H=>∃ρ F out,StOk K F H σ ρ/\f ρ=.ok out/\tF K F H D out
theorem none_of (s:Same H b)(h:b a=none):H a=none:=by
 cases e:H a with
 |none=>rfl
 |some o=>rw[s a o e]at h;cases h
theorem BR.run (r:Run F c)(h:BR c g a):BR F g a:=by obtain⟨d,e,f⟩:=r;cases g<;>cases a<;>first|exact h|(exact none_of d h)|(have b:c.V _:=h;rw[e]at b;exact b)|(have b:c.z:=h;rw[f]at b;exact b)
theorem tF.back {K:W.Frag}{D:Ends}(r:Run F q)(f:cA F H q t)(h:tF K F H D l):tF K q t D l:=by
 cases l with
 |nx m=>exact λc i j n p f2=>h c i j n (r.trans p) (f.trans f2)
 |bk m=>exact λc i j n p f2=>h c i j n (r.trans p) (f.trans f2)
 |ct m=>exact λc i j n p f2=>h c i j n (r.trans p) (f.trans f2)
 |rt g d=>exact λv i k s=>h v i (λa o e=>k a o (r.1 a o e)) (s.weak λ_ b=>b.run r)
section
variable {X:Cx}{e:Expr}{st:Stmt}{rest:List Stmt}{fs gs:Rho->Res Out}
theorem MW:PSs X [] (tDS X.K λc=>.ok (.nx c)):=PSs.imp DL λD d H ⟨c,F,a,b,e,q⟩=>by cases e;exact q d H F b Run.refl cA.refl
theorem MX (j:PS X st (tDS X.K fs))(k:PSs X rest (tDS X.K gs)):PSs X (st::rest) (tDS X.K λo=>oR (fs o) gs):=
 PSs.imp (DM j k) λD p H ⟨o,F,c,h,e,q⟩=>by
  have e:oR (fs o) gs=.ok c:=e;cases b:fs o with
  |no=>rw[b]at e;cases e
  |exc x=>rw[b]at e;cases e
  |ok l=>
   rw[b]at e;cases l with
   |nx a=>exact⟨o,F,.nx a,h,b,λm s n i r f=>⟨a,n,c,i,e,q.back r f⟩⟩
   |bk a=>cases e;exact⟨o,F,.bk a,h,b,q⟩
   |ct a=>cases e;exact⟨o,F,.ct a,h,b,q⟩
   |rt g d=>cases e;exact⟨o,F,.rt g d,h,b,q⟩
theorem MY:PS X (.Continue d) (tDS X.K λc=>.ok (.ct c)):=PS.imp JN λD f H ⟨c,F,a,b,e,q⟩=>by cases e;exact q f H F b Run.refl cA.refl
theorem AV (d:PT X c (dQ X.K f))(g:PSs X A (tDS X.K fs))(h:PSs X i (tDS X.K gs)):PS X (.If c A i n) (tDS X.K λm=>f m>>=λk=>if k then fs m else gs m):=
 PS.imp (DN d g h) λD o H j=>by
  obtain⟨m,F,a,b,e,q⟩:=j;obtain⟨k,l,e⟩:=Res.aA e;refine⟨m,F,k,b,l,λp s1=>?_⟩;cases k with
  |true=>exact bA ⟨m,F,a,b.same s1,e,q.back Run.refl (cA.same s1)⟩
  |false=>exact aX ⟨m,F,a,b.same s1,e,q.back Run.refl (cA.same s1)⟩
theorem MZ {K:W.Frag}(c:∀a o,F.H0 a=some o->H a=some o)(e:∀a,H a=none->F.V a)(r:Rep K f (BG F H g) v d):Rep K f (BR F (iP g)) v d:=by
 refine r.weak λa b=>?_;cases g with
 |fr=>
  cases a with
  |none=>exact b
  |some a=>exact Same.none c b
 |od=>exact fQ.aN b
 |al=>exact b
 |nu=>
  cases a with
  |none=>exact b.elim id id
  |some a=>exact b.elim (λb=>Same.none c b) λb=>b.2.1
theorem M0 (c:PE X e (tD X.K i)):PS X (.Return (some e) j) (tDS X.K λh=>i h>>=λx=>.ok (.rt (iP x.1) x.2)):=PS.imp (zC c) λD l H ⟨h,F,d,b,e,q⟩=>by obtain⟨x,f,e⟩:=Res.aA e;cases e;exact⟨h,F,x,b,f,λv k s1 g=>q v k (λa o e=>s1 a o (b.ext a o e)) (MZ b.ext b.aN g)⟩
theorem Slot.ret {K:W.Frag}(c:∀a i,F.O a=some i->F.H0 a=none/\F.V a)(h:Slot K F H i g v d):Rep K H (BR F (if imm d then .fr else iP g)) v d:=by
 by_cases l:imm d=true
 ·rw[qe l];exact Rep.bR d l (h.rep λa i e=>(c a i e).2)
 ·rw[qf l];cases g with
  |fr=>
   obtain⟨p,e,o,h⟩:=h
   have j:∀a,Bin F a->BR F .fr a:=λa b=>by
    cases a with
    |none=>exact b
    |some a=>exact b.2.1
   rcases h with⟨m,k,rfl,f,r⟩|⟨m,k,rfl,f,r⟩
   ·exact⟨p,m,e,.inl ⟨f,(c _ _ o).1⟩,r.weak j⟩
   ·exact⟨p,m,e,f,(c _ _ o).1,cQ.same (λ_ _ e=>e) j r⟩
  |od=>exact Rep.weak (λ_ b=>b.aN) h
  |al=>exact h
  |nu=>
   refine Rep.weak (λa b=>?_) h;cases a with
   |none=>exact b
   |some a=>exact b.2.1
theorem z8z {i:Nat}(hN:X.N[i]?=some x)(j:Vis X.env.scope x)(hd:Ue x)(c:(x==("__classdict__":Str))=false):
  PS X (.Return (some (.Name x p)) r) (tDS X.K λρ=>match ρ[i]? with|some (some (g,d))=>.ok (.rt (if imm d then .fr else iP g) d)|_=>.no):=
 PS.imp (zC (oF hN j hd c)) λD s H k=>by
  obtain⟨ρ,F,f,b,e,q⟩:=k;have e:(match ρ[i]? with|some (some (g,d))=>Res.ok (Out.rt (if imm d then .fr else iP g) d)|_=>.no)=.ok f:=e;cases h:ρ[i]? with
  |none=>rw[h]at e;cases e
  |some o=>
   rw[h]at e;cases o with
   |none=>cases e
   |some l=>obtain⟨g,d⟩:=l;cases e;obtain⟨v,m,n⟩:=b.sl i g d h;exact⟨v,m,q v H b.ext (n.ret λa i e=>⟨(b.own a i e).1,(b.own a i e).2.1⟩)⟩
theorem cQ.bR {K:W.Frag}:∀{a:List (Key×V)} (c:iZ),oO c=true->cQ K H B a c->cQ K H B' a c
 |a,[],_,r=>r
 |a,(kd,d)::c,i,r=>by unfold oO at i;rw[cj,au]at i;obtain⟨k,v,t,e,b,ok,h,q⟩:=r;exact⟨k,v,t,e,b,ok,Rep.bR d i.1 h,cQ.bR c i.2 q⟩
theorem StOk.gF {K:W.Frag}(b:StOk K F H σ ρ){a:Ad}(h:nw H a):Bin F a:=by
 cases a with
 |none=>exact h
 |some a=>
  refine⟨?_,Same.none b.ext h,b.aN a h⟩;cases c:F.O a with
  |none=>rfl
  |some j=>obtain⟨_,_,z⟩:=b.own a j c;rcases z with⟨d,z⟩|⟨d,z⟩<;>rw[h]at z<;>cases z
theorem StOk.AW {K:W.Frag}(a:StOk K F H k l)(r:Rep K H (Bin F) v d):StOk K (F.drop i) H (k.set i (some v)) (l.set i (some (.nu,d))):=by
 have z:=a.kQ (i:=i) (x:=(.al,d)) (Rep.weak (λ_ b=>Bin.aN b) r);refine⟨z.ext,z.aN,z.own,by rw[c9,c9];exact a.len,λj g f e=>?_⟩;by_cases c:i=j
 ·subst c;rw[dk]at e;simp only[if_true]at e;split at e
  ·rename_i h;cases e;exact⟨v,by rw[dk];simp[a.len,h],Rep.weak (λ_ b=>b.drop) r⟩
  ·cases e
 ·refine z.sl j g f ?_;rw[bz c]at e ⊢;exact e
def Fm.take (F:Fm)(i:Nat)(p:Addr):Fm:={F with O:=λa=>if a=p then some i else if F.O a=some i then none else F.O a}
theorem cA.drop (s:Same H b):cA F H (F.drop i) b:=λa o e n=>⟨s a o e,Fm.bQ n⟩
theorem StOk.setA {K:W.Frag}(k:StOk K F H σ ρ)(s1:Same H H1)(r:Rep K H1 (BG F H x.1) v x.2):
  ∃f,StOk K f H1 (σ.set i (some v)) (ρ.set i (some (z1u x)))/\Run F f/\cA F H f H1:=by
 have s:=k.same s1;obtain⟨g,d⟩:=x
 have l:z1u (g,d)=lM (if imm d then .al else EE g,d)->∃f,StOk K f H1 (σ.set i (some v)) (ρ.set i (some (z1u (g,d))))/\Run F f/\cA F H f H1:=λe=>by
  rw[e];refine⟨F.drop i,s.kQ ?_,Run.of rfl rfl rfl,cA.drop s1⟩;by_cases hi:imm d=true
  ·rw[qe hi];exact Rep.bR d hi r
  ·rw[qf hi];cases g with
   |fr=>exact r.weak λ_ b=>nw.aN k.aN b
   |od=>exact r
   |al=>exact r
   |nu=>exact r.weak λ_ b=>b.elim (nw.aN k.aN) Bin.aN
 have w:z1u (g,d)=(.nu,d)->(∀a,BG F H g a->Bin F a)->∃f,StOk K f H1 (σ.set i (some v)) (ρ.set i (some (z1u (g,d))))/\Run F f/\cA F H f H1:=λe D=>by rw[e];exact⟨F.drop i,s.AW (Rep.weak D r),Run.of rfl rfl rfl,cA.drop s1⟩
 have own:∀(p:Addr),F.O p=none->H p=none->F.H0 p=none->F.V p->v=.ref p->z1u (g,d)=(.fr,d)->(∀f:Fm,(∀a,Bin F a\/nw H a->a≠some p->Bin f a)->f.O p=some i->Slot K f H1 i .fr v d)->(((∃E,H1 p=some (.lst E))\/∃y,H1 p=some (.dK y)))->
   ∃f,StOk K f H1 (σ.set i (some v)) (ρ.set i (some (z1u (g,d))))/\Run F f/\cA F H f H1:=λp R c S T ev es U G=>by
  have A:∀a,a≠p->(F.take i p).O a=(F.drop i).O a:=λa ha=>by show(if a=p then some i else _)=_;rw[qf ha];rfl
  have X:∀a,H a=none->F.O a=none:=λa e=>by
   cases B:F.O a with
   |none=>rfl
   |some j=>obtain⟨_,_,h⟩:=k.own a j B;rcases h with⟨E,h⟩|⟨E,h⟩<;>rw[e]at h<;>cases h
  have I:∀a,H a=none->F.H0 a=none:=λa e=>Same.none k.ext e
  have t:∀a,Bin F a\/nw H a->a≠some p->Bin (F.take i p) a:=λa b Y=>by
   cases a with
   |none=>exact b.elim id id
   |some a=>have q:a≠p:=λz=>Y (by rw[z]);have D:=b.elim id λb=>⟨X a b,I a b,k.aN a b⟩;exact⟨by rw[A a q];exact Fm.bQ D.1,D.2⟩
  have J:(F.take i p).O p=some i:=by show(if p=p then some i else _)=_;rw[qe rfl]
  refine⟨F.take i p,⟨s.ext,s.aN,λa j e=>?_,by rw[c9,c9];exact k.len,λj Z d' e=>?_⟩,Run.of rfl rfl rfl,λa o e n=>⟨s1 a o e,?_⟩⟩
  ·by_cases q:a=p
   ·subst q;exact⟨S,T,G⟩
   ·rw[A a q]at e
    have e':F.O a=some j:=by
     have:(if F.O a=some i then none else F.O a)=some j:=e;split at this
     ·cases this
     ·exact this
    exact s.own a j e'
  ·by_cases hj:i=j
   ·subst hj;rw[dk]at e;simp only[if_true]at e;split at e
    ·rename_i hl;have B:z1u (g,d)=(Z,d'):=by simpa using e
     rw[es]at B;cases B;exact⟨v,by rw[dk];simp[k.len,hl],U _ t J⟩
    ·cases e
   ·rw[bz hj]at e ⊢;obtain⟨u,h1,Q⟩:=k.sl j Z d' e;refine⟨u,h1,?_⟩;cases Z with
    |fr=>
     obtain⟨L,B,o1,h3⟩:=Q;have M3:L≠p:=λz=>by rw[z,R]at o1;cases o1
     refine⟨L,B,?_,?_⟩
     ·rw[A L M3];show(if F.O L=some i then none else F.O L)=some j;rw[o1,qf (λz=>hj (qg z).symm)]
     ·have M:∀(a:Ad),Bin F a/\¬nw H a->Bin (F.take i p) a:=λa b=>t a (.inl b.1) λz=>b.2 (z▸c);rcases h3 with⟨vs,C,e3,e2,r3⟩|⟨vs,C,e3,e2,r3⟩
      ·exact .inl ⟨vs,C,e3,s1 _ _ e2,Reps.same s1 M (Reps.there _ r3)⟩
      ·exact .inr ⟨vs,C,e3,s1 _ _ e2,cQ.same s1 M (cQ.there _ r3)⟩
    |od=>exact Rep.same s1 (λ_ b=>b) Q
    |al=>exact Rep.same s1 (λ_ b=>b) Q
    |nu=>exact Rep.same s1 (λa b=>t a (.inl b.1) λz=>b.2 (z▸c)) (Rep.there _ Q)
  ·have q:a≠p:=λz=>by rw[z,c]at e;cases e
   rw[A a q];exact Fm.bQ n
 have N:∀p,H p=none->F.O p=none:=λp c=>by
  cases B:F.O p with
  |none=>rfl
  |some j=>obtain⟨_,_,P⟩:=k.own p j B;rcases P with⟨E,P⟩|⟨E,P⟩<;>rw[c]at P<;>cases P
 by_cases hi:imm d=true
 ·exact l (by show(if imm d then _ else _)=_;rw[qe hi];rw[qe hi];rfl)
 ·cases g with
  |od=>exact l (by delta z1u;simp only[qf hi];rfl)
  |al=>exact l (by delta z1u;simp only[qf hi];cases d<;>rfl)
  |nu=>exact w (by delta z1u;simp only[qf hi]) λa b=>b.elim k.gF id
  |fr=>
   cases d with
   |none=>exact absurd rfl hi
   |bool b=>exact absurd rfl hi
   |int b=>exact absurd rfl hi
   |str b=>exact absurd rfl hi
   |tuple C=>exact w (by delta z1u;simp only[qf hi]) λa b=>k.gF b
   |list C=>
    by_cases m:imms C=true
    ·obtain⟨p,vs,ev,h,rs⟩:=r;rcases h with⟨h,b⟩|⟨_,b⟩
     ·have c:H p=none:=b;exact own p (N p c) c (Same.none k.ext c) (k.aN p c) ev (by delta z1u;simp only[qf hi,qe m]) (λf D ho=>⟨p,ev,ho,.inl ⟨vs,C,rfl,h,Reps.bR C m rs⟩⟩) (.inl ⟨vs,h⟩)
     ·exact b.elim
    ·exact w (by delta z1u;simp only[qf hi,qf m]) λa b=>k.gF b
   |dict es=>
    by_cases m:oO es=true
    ·obtain⟨p,y,ev,h,b,rs⟩:=r;have c:=b;exact own p (N p c) c (Same.none k.ext c) (k.aN p c) ev (by delta z1u;simp only[qf hi,qe m]) (λf D ho=>⟨p,ev,ho,.inr ⟨y,es,rfl,h,cQ.bR es m rs⟩⟩) (.inr ⟨y,h⟩)
    ·exact w (by delta z1u;simp only[qf hi,qf m]) λa b=>k.gF b
theorem Fh {K:W.Frag}{n:TE}(h:∀k H Q,tD K o k H Q->n k H Q)(D:Ends)(k:L2.St)(H:Hp)(q:tDS K (λl=>o l>>=λx=>.ok (.nx (l.set i (some (z1u x))))) D k H):n k H λv m=>D.nx (k.set i (some v)) m:=by obtain⟨l,F,c,b,e,q⟩:=q;obtain⟨x,d,e⟩:=Res.aA e;cases e;refine h k H _ ⟨l,F,x,b,d,λv m s1 g=>?_⟩;obtain⟨j,a,r,f⟩:=b.setA s1 g;exact q _ m j a r f
theorem zs7 (hN:X.N.Nodup)(d:X.N[i]?=some x)(a:Loc X.env.scope x)(hf:X.fn x=true\/X.env.scope.names.lookup x=some .local)(hs:iu e (some (.Name x px)) pos.line X.env=pure false)(b:PE X e (tD X.K f)):
  PS X (.Assign [.Name x px] e pos) (tDS X.K λc=>f c>>=λx=>.ok (.nx (c.set i (some (z1u x))))):=
 PS.imp (zjm hN d a b hs hf) λD g H q=>Fh (λ_ _ _ h=>h) D g H q
theorem zr4 (i:PG X w (tDG X.K (.tp is)))(j:PE X e (tD X.K B))(hs:nj [w] e A.line X.env=pure false)(k:nk [w] e X.env=pure none)(l:(dw [w] X.env).map (·.2)=[nz w X.env]):
  PS X (.Assign [w] e A) (tDS X.K λy=>B y>>=λx=>fB (.tp is) x y>>=λd=>.ok (.nx d)):=
 PS.imp (znp j i hs k l) λD E H m=>by obtain⟨y,F,p,f,e,q⟩:=m;obtain⟨x,r,e⟩:=Res.aA e;obtain⟨d,s,e⟩:=Res.aA e;cases e;refine⟨y,F,x,f,r,λv C s1 t=>⟨y,F,x,d,f.same s1,t.weak λ_ b=>BI.of f.aN b,s,λg u h c=>?_⟩⟩;exact q g C u h (Run.of c.h0 c.v c.z) λa o e n=>⟨s1 a o e,c.o a n⟩
theorem M4 {K:W.Frag}(c:StOk K F H j k)(h:okIn y=true)(r:Rep K f (BG F H y.1) u y.2):Rep K f (Bin F) u y.2:=by
 obtain⟨g,d⟩:=y;rcases d8.mp h with i|e
 ·exact Rep.bR d i r
 rcases d8.mp e with h|h
 ·cases eq_of_beq h;exact Rep.weak (λa b=>c.gF b) r
 ·cases eq_of_beq h;exact Rep.weak (λa b=>b.elim c.gF id) r
theorem StOk.mutate {K:W.Frag}(m:StOk K F H σ ρ)(B:F.O p=some i)(u:σ[i]?=some (some (.ref p)))(C:(∃q,t=.lst q)\/∃D,t=.dK D)
  (hs:Slot K F (upd H p t) i .fr (.ref p) P):StOk K F (upd H p t) σ ((ρ.set i (some (.fr,P))).map z0g)/\cA F H F (upd H p t):=by
 obtain⟨h0,X,w⟩:=m.own p i B;have s:∀a,F.O a=none->a≠p:=λa e z=>by rw[z,B]at e;cases e
 have k:∀a o,H a=some o->Fix o->a≠p:=λa o e f z=>by subst z;rcases w with⟨q,h⟩|⟨q,h⟩<;>rw[e]at h<;>cases h<;>exact f
 have E:cA F H F (upd H p t):=λa o e n=>⟨by rw[aH (s a n)];exact e,n⟩;refine⟨⟨λa o e=>?_,λa e=>?_,λa j e=>?_,by rw[ak,c9];exact m.len,λj g d e=>?_⟩,E⟩
 ·have c:a≠p:=λz=>by rw[z,h0]at e;cases e
  rw[aH c];exact m.ext a o e
 ·by_cases c:a=p
  ·subst c;exact X
  ·rw[aH c]at e;exact m.aN a e
 ·obtain⟨Y,Z,x3⟩:=m.own a j e;refine⟨Y,Z,?_⟩;by_cases c:a=p
  ·subst c;rw[bG];rcases C with⟨q,rfl⟩|⟨q,rfl⟩
   ·exact .inl ⟨q,rfl⟩
   ·exact .inr ⟨q,rfl⟩
  ·rw[aH c];exact x3
 ·rw[bu]at e;by_cases Q:i=j
  ·subst Q;have hl:i<ρ.length:=by rw[<-m.len];exact(bg.mp u).1
   rw[dk]at e;simp only[if_true,hl]at e;have e1:z0g (some (.fr,P))=some (g,d):=by simpa using e
   cases e1;exact⟨_,u,hs⟩
  ·rw[bz Q]at e;cases I:ρ[j]? with
   |none=>rw[I]at e;cases e
   |some sl=>
    rw[I]at e;have l:z0g sl=some (g,d):=by simpa using e
    cases sl with
    |none=>cases l
    |some gd=>
     obtain⟨R,J⟩:=gd;obtain⟨v,h1,A⟩:=m.sl j R J I;refine⟨v,h1,?_⟩;cases R with
     |fr=>
      cases l;obtain⟨S,e4,T,h3⟩:=A;have x:S≠p:=λz=>by rw[z,B]at T;simp_all
      have hk:∀a o,H a=some o->(Bin F (some a)\/Fix o)->upd H p t a=some o:=λa o e b=>by have:a≠p:=b.elim (λb=>s a b.1) λf=>k a o e f;rw[aH this];exact e
      refine⟨S,e4,T,?_⟩;rcases h3 with⟨vs,y,L,M,r⟩|⟨vs,y,L,M,r⟩
      ·exact .inl ⟨vs,y,L,by rw[aH x];exact M,Reps.keep hk (λ_ z=>z) y r⟩
      ·exact .inr ⟨vs,y,L,by rw[aH x];exact M,cQ.keep hk (λ_ z=>z) y r⟩
     |od=>cases l;exact Rep.keep (λa o e b=>by have:a≠p:=b.elim (λb z=>by have U:F.H0 a≠none/\F.V a:=b;rw[z]at U;exact U.1 h0) λf=>k a o e f;rw[aH this];exact e) (λ_ z=>z) _ A
     |nu=>cases l;exact Rep.keep (λa o e b=>by have:a≠p:=b.elim (λb=>s a b.1) λf=>k a o e f;rw[aH this];exact e) (λ_ z=>z) _ A
     |al=>
      change(if imm J then some (G.al,J)else none)=_ at l;split at l
      ·rename_i N;cases l;exact Rep.bW (λa o e f=>by rw[aH (k a o e f)];exact e) _ N A
      ·cases l
theorem AX {K:W.Frag}(c:StOk K F H k l)(e:l[i]?=some (some (.fr,d))):∃p,k[i]?=some (some (.ref p))/\F.O p=some i/\((∃g b,d=.list b/\H p=some (.lst g)/\Reps K H (Bin F) g b)\/(∃a j,d=.dict j/\H p=some (.dK a)/\cQ K H (Bin F) a j)):=by obtain⟨v,f,p,rfl,o,h⟩:=c.sl i .fr d e;exact⟨p,f,o,h⟩
def AY (m:String)(i:Nat)(fs:Rho->Res (List GD)):Rho->Res Out:=λρ=>fs ρ>>=λys=>match ρ[i]? with
 |some (some (.fr,.list xs))=>mL m xs ys>>=λAl=>.ok (.nx ((ρ.set i (some (.fr,.list Al))).map z0g))
 |_=>.no
theorem zfc {fs:Rho->Res (List GD)}(hN:X.N[i]?=some x)(I:Vis X.env.scope x)(hd:Ue x)(l:(x==("__classdict__":Str))=false)(J:PA X (e::es) (tDA X.K fs))(g:((e::es).all fun e=>!isStar e)=true)(L:(e::es).length<20)(d:(M.endLine==P.line)=true):
  PS X (.Expr (.Call (.Attribute (.Name x p) "append" M) (e::es) [] P) pos) (tDS X.K (AY "append" i fs)):=by
 have c:=g;rw[cj,au]at c;refine PS.imp (oK (zb1 PySem.F.plainAttrs_list PySem.F.slot_list_append PySem.F.type_list_append xh (oF hN I hd l) J rfl (z3i g L) d (eA (by simpa using c.1)) (lL c.2)) rfl) λD σ H Q=>?_;obtain⟨ρ,F,R,j,e,q⟩:=Q;obtain⟨S,T,e⟩:=Res.aA e;split at e
 ·rename_i w U;obtain⟨V,f,e⟩:=Res.aA e;cases e;obtain⟨k,A,m,h⟩:=AX j U;rcases h with⟨vs,ds,n,B,r⟩|⟨_,_,n,_⟩
  ·cases n;refine⟨_,A,.inl ⟨rfl,vs,SqL.of B⟩,ρ,F,S,j,T,λus H1 s1 rs=>?_⟩;simp only[mL,if_true]at f;split at f
   ·rename_i y;split at f
    case isFalse=>cases f
    rename_i C;cases f;rw[ba,decide_eq_true_iff]at C;obtain⟨u,rfl,W⟩:=rs.one;have s:=j.same s1;have E:=s1 _ _ B;refine⟨k,vs,u,rfl,rfl,E,kP (by rw[r.length];omega),?_⟩
    have Y:Reps X.K (upd H1 k (.lst (vs++[u]))) (Bin F) (vs++[u]) (w++[y.2]):=by
     have Z:Reps X.K H1 (Bin F) (vs++[u]) (w++[y.2]):=Reps.append (r.same s1 λ_ z=>z) ⟨u,[],rfl,M4 j C.1 W,rfl⟩;refine Reps.keep (λa o e b=>?_) (λ_ z=>z) _ Z
     have t:a≠k:=by
      intro z;subst z;rcases b with b|b
      ·have G:F.O a=none:=b.1;rw[m]at G;cases G
      ·rw[E]at e;cases e;exact b
     rw[aH t];exact e
    obtain⟨v,f2⟩:=s.mutate m A (.inl ⟨_,rfl⟩) ⟨k,rfl,m,.inl ⟨_,_,rfl,bG,Y⟩⟩;exact q σ _ F v Run.refl ((cA.same s1).trans f2)
   ·cases f
  ·cases n
 ·cases e
end
section
variable {X:Cx}
def vb (j i:Nat):Rho->Res Out:=λρ=>match ρ[i]? with
 |some (some (.fr,.list xs))=>(match lN xs with
  |some d=>.ok (.nx (((ρ.set i (some (.fr,.list xs.dropLast))).map z0g).set j (some (.al,d))))
  |none=>.no)
 |_=>.no
def AZ (i:Nat)(fa:Rho->Res GD)(fr:Rho->Res (List GD)):Rho->Res Out:=λρ=>fa ρ>>=λx=>match ρ[i]? with
 |some (some (.fr,.list xs))=>(match lN xs with
  |some d=>fr ((ρ.set i (some (.fr,.list xs.dropLast))).map z0g)>>=λzs=>if imm x.2&&imms (zs.map (·.2))&&decide (xs.length<=LIM)then .ok (.nx ((((ρ.set i (some (.fr,.list xs.dropLast))).map z0g).set i (some (.fr,.list (xs.dropLast++[.tuple (x.2::d::zs.map (·.2))])))).map z0g))else .no
  |none=>.no)
 |_=>.no
theorem Fi (h:lN a=some d):a[a.length-1]?=some d/\imm d=true:=by
 unfold lN at h;split at h
 ·rename_i y e;split at h
  ·rename_i b;cases h;rw[List.getLast?_eq_getElem?]at e;exact⟨e,b⟩
  ·cases h
 ·cases h
theorem Reps.front {K:W.Frag}(r:Reps K H B b a):Reps K H B b.dropLast a.dropLast:=by rw[l8,l8,r.length];exact r.take _
theorem zbx (j:StOk X.K F H p q)(d:F.O c=some i)(k:p[i]?=some (some (.ref c)))(l:H c=some (.lst r))(m:Reps X.K H (Bin F) ws g):
  StOk X.K F (upd H c (.lst ws)) p ((q.set i (some (.fr,.list g))).map z0g)/\cA F H F (upd H c (.lst ws)):=by
 have n:Reps X.K (upd H c (.lst ws)) (Bin F) ws g:=by
  refine Reps.keep (λa o e b=>?_) (λ_ z=>z) _ m
  have f:a≠c:=by
   intro z;subst z;rcases b with b|b
   ·have h:F.O a=none:=b.1;rw[d]at h;cases h
   ·rw[l]at e;cases e;exact b
  rw[aH f];exact e
 exact j.mutate d k (.inl ⟨_,rfl⟩) ⟨c,rfl,d,.inl ⟨_,_,rfl,bG,n⟩⟩
theorem s_pop (hN:X.N.Nodup)(B:X.N[j]?=some y)(C:Loc X.env.scope y)(hf:X.fn y=true\/X.env.scope.names.lookup y=some .local)(R:X.N[i]?=some x)(E:Vis X.env.scope x)(hd:Ue x)(k:(x==("__classdict__":Str))=false)(b:(ap.endLine==cp.line)=true):
  PS X (.Assign [.Name y px] (.Call (.Attribute (.Name x p) "pop" ap) [] [] cp) pos) (tDS X.K (vb j i)):=by
 refine PS.imp (uP hN B C (zdj PySem.F.plainAttrs_list PySem.F.slot_list_pop PySem.F.type_list_pop Et (oF R E hd k) rfl b) rfl hf) λD S H G=>?_;obtain⟨T,F,I,w,e,q⟩:=G;unfold vb at e;split at e
 ·rename_i O J;split at e
  ·rename_i d l;cases e;obtain⟨l,m⟩:=Fi l;obtain⟨n,A,L,h⟩:=AX w J;rcases h with⟨Q,P,s,g,r⟩|⟨_,_,s,_⟩
   ·cases s;obtain⟨v,c,t⟩:=r.get l;rw[<-r.length]at c;obtain⟨u,f2⟩:=zbx w L A g r.front
    have M:∀a o,H a=some o->Fix o->upd H n (.lst Q.dropLast) a=some o:=λa o e f=>by
     have:a≠n:=λz=>by subst z;rw[g]at e;cases e;exact f
     rw[aH this];exact e
    exact⟨_,A,.inl ⟨rfl,Q,SqL.of g⟩,n,Q,v,rfl,rfl,g,c,q _ _ _ (u.kQ (i:=j) (x:=(.al,d)) (Rep.bW M d m t)) (Run.of rfl rfl rfl) (f2.trans (cA.drop (Same.refl _)))⟩
   ·cases s
  ·cases e
 ·cases e
theorem zty (hi:X.N[i]?=some x)(V:Vis X.env.scope x)(hd:Ue x)(n:(x==("__classdict__":Str))=false)(hs:isStar W=false)(s:PE X W (tD X.K fa))(hr:PA X er (tDA X.K fr))(hl:∀ρ Y,fr ρ=.ok Y->Y.length<=900)(l:(ap.endLine==cp.line)=true)(j:(I.endLine==J.line)=true):
  PS X (.Expr (.Call (.Attribute (.Name x p) "append" ap) [.Tuple (W::.Call (.Attribute (.Name x p2) "pop" I) [] [] J::er) kt tp] [] cp) pos) (tDS X.K (AZ i fa fr)):=by
 refine PS.imp (oK (zb1 PySem.F.plainAttrs_list PySem.F.slot_list_append PySem.F.type_list_append xh (oF hi V hd n) (dN (zM (dN s (dN (zdj PySem.F.plainAttrs_list PySem.F.slot_list_pop PySem.F.type_list_pop Et (oF hi V hd n) rfl j) hr rfl) hs)) j' rfl) rfl (z3i rfl (by show 1<20;omega)) l (eA rfl) rfl) rfl) λD σ H zz=>?_;obtain⟨ρ,F,out,L,e,q⟩:=zz;obtain⟨y,e1,e⟩:=Res.aA e;split at e
 ·rename_i xs M;split at e
  ·rename_i d c;obtain⟨Z,e2,e⟩:=Res.aA e;split at e
   ·rename_i P;cases e;rw[ba,ba]at P;obtain⟨c,Q⟩:=Fi c;obtain⟨t,G,R,h⟩:=AX L M;rcases h with⟨vs,ds,S,e4,r⟩|⟨_,_,S,_⟩
    ·cases S;obtain⟨v,w,T⟩:=r.get c;rw[<-r.length]at w;refine⟨_,G,.inl ⟨rfl,vs,SqL.of e4⟩,ρ,F,y,L,e1,λu H1 s1 ru=>?_⟩;have A:=s1 _ _ e4;obtain⟨m,f2⟩:=zbx (L.same s1) R G A (r.front.same s1 λ_ z=>z);refine⟨_,G,.inl ⟨rfl,vs,SqL.of A⟩,t,vs,v,rfl,rfl,A,w,_,F,Z,m,e2,λus B C rs=>?_⟩;have TZ:us.length<=900:=rs.len▸hl _ _ e2;refine⟨by rw[cb,ay,ay];omega,λpt g=>?_⟩;have e6:=C _ _ bG;have e7:upd B pt (.tup (u::v::us)) t=some (.lst vs.dropLast):=aH (fZ e6 g)▸e6
     have k:∀a o,H1 a=some o->Fix o->upd B pt (.tup (u::v::us)) a=some o:=λa o e f=>by
      have s:a≠t:=λz=>by subst z;rw[A]at e;cases e;exact f
      have E:=C _ _ (by rw[aH s];exact e);rw[aH (fZ E g)];exact E
     have rf:Reps X.K (upd B pt (.tup (u::v::us))) (Bin F) vs.dropLast xs.dropLast:=Reps.keep (λa o e b=>by
      have s:a≠t:=by
       intro z;subst z;rcases b with b|b
       ·have b1:F.O a=none:=b.1;rw[R]at b1;cases b1
       ·rw[A]at e;cases e;exact b
      have E:=C _ _ (by rw[aH s];exact e);rw[aH (fZ E g)];exact E) (λ_ z=>z) _ (r.front.same s1 λ_ z=>z)
     have rt:Rep X.K (upd B pt (.tup (u::v::us))) (Bin F) (.ref pt) (.tuple (y.2::d::Z.map (·.2))):=⟨pt,u::v::us,rfl,dB.of bG,Reps.cons (Rep.bW k y.2 P.1.1 ru) (Reps.cons (Rep.bW k d Q (T.same s1 λ_ z=>z)) (Reps.bW (λa o e f=>by rw[aH (fZ e g)];exact e) _ P.1.2 (rs.iF m.aN)))⟩;have EA:=r.length;refine⟨t,vs.dropLast,.ref pt,rfl,rfl,e7,kP (by grind),?_⟩;obtain⟨U,f4⟩:=zbx (m.same (C.trans (Same.upd (o:=.tup (u::v::us)) g))) R G e7 (Reps.append rf (Reps.cons rt (show Reps X.K (upd B pt (.tup (u::v::us))) (Bin F) [] []from rfl)));exact q σ _ F U Run.refl ((((cA.same s1).trans f2).trans (cA.same (C.trans (Same.upd g)))).trans f4)
    ·cases S
   ·cases e
  ·cases e
 ·cases e
end
def vc (td ty tv:TE):TS:=λD σ H=>tv σ H λv H1=>td σ H1 λx H2=>ty σ H2 λy H3=>(∃a H4,x=.ref a/\DPut H3 a y v H4/\D.nx σ H4)\/Eo x y v H3 λH4=>D.nx σ H4
theorem M5 (hu:X.A.units+1<cLine)(m:PE X o n)(O:PE X i ty)(p:PE X value tv)(hs:iu value (some (.Subscript o i b)) N.line X.env=pure false):PS X (.Assign [.Subscript o i b] value N) (vc n ty tv):=by
 intro L s M H D I h;refine wpAny_Assign_Subscript (aM (p L s M H _ I h) λr s1 ⟨v,P,q,f,t⟩=>aM (m L s1 M P _ q t) λu w ⟨x,z,B,j,C⟩=>aM (O L w M z _ B C) λE F ⟨y,G,k,l,c⟩=>?_) hs;rcases c with⟨a,d,ex,g,c⟩|c
 ·subst ex;obtain rfl:u=Value.ref a:=j;exact zco hu k g l f λJ e=>⟨M,d,e,c⟩
 ·exact aM (set_list L F M G x y v u E r _ k j l f c) λ_ J ⟨d,e,K⟩=>⟨M,d,e,K⟩
def tDF (K:W.Frag)(f:Rho->Res (G×List D×Rho)):TI:=λσ H R=>∃ρ F w,StOk K F H σ ρ/\f ρ=.ok w/\∀J B H' F',Same H H'->Run F F'->cA F H F' H'->StOk K F' H' σ w.2.2->(∀a,B (some a)->F'.O a=none)->(∀a,B a->BI F' w.1 a)->Walk K J B H' w.2.1->R J H'
theorem A3 {K:W.Frag}(f:StOk K F H k l){a:Addr}(i:g≠.al)(h:BG F H g (some a)):F.O a=none:=by
 cases d:F.O a with
 |none=>rfl
 |some j=>
  obtain⟨h0,_,b⟩:=f.own a j d;cases g with
  |fr=>have c:=h;rcases b with⟨e,b⟩|⟨e,b⟩<;>rw[c]at b<;>cases b
  |od=>exact absurd h0 h.1
  |al=>exact absurd rfl i
  |nu=>
   rcases h with h|h
   ·have c:H a=none:=h;rcases b with⟨e,b⟩|⟨e,b⟩<;>rw[c]at b<;>cases b
   ·have c:F.O a=none:=h.1;rw[c]at d;cases d
theorem Fj (i:PI X j e (tDW X.K k)):PI X j e (tDF X.K λo=>k o>>=λw=>if w.1==.al then .no else .ok (w.1,w.2,o)):=
 PI.imp i λr H R l=>by
  obtain⟨o,F,w,d,e,q⟩:=l;obtain⟨g,m,e⟩:=Res.aA e;refine⟨o,F,g,d,m,λJ B p s1 h n=>?_⟩;split at e
  ·cases e
  ·rename_i f;cases e;have c:g.1≠.al:=λz=>f (by rw[z];rfl);exact q J B p F s1 Run.refl (cA.same s1) (d.same s1) (λa b=>A3 d c (h _ b).1) (λa b=>BI.of d.aN (h a b).1) n
theorem StOk.giveUp {K:W.Frag}(a:StOk K F H h k)(e:k[i]?=some (some (.fr,d))):StOk K (F.drop i) H h (k.set i (some (.al,d))):=by
 obtain⟨v,b,f⟩:=a.sl i .fr d e;have:=a.kQ (i:=i) (x:=(.al,d)) (f.rep a.jA)
 have l:h.set i (some v)=h:=by
  apply ky;intro j;by_cases c:i=j
  ·subst c;rw[dk];have g:=(bg.mp b).1;simp only[if_true,g];exact b.symm
  ·rw[bz c]
 rw[l]at this;exact this
theorem M6 (hN:X.N[i]?=some x)(t:Vis X.env.scope x)(hd:Ue x)(f:(x==("__classdict__":Str))=false):PI X T (.Name x pos) (tDF X.K (xp i)):=by
 intro W s σ H R I h;obtain⟨ρ,F,w,g,e,q⟩:=h;unfold xp at e;split at e
 ·rename_i d l;obtain⟨U,z,e⟩:=Res.aA e;cases e;obtain⟨v,A,C⟩:=g.sl i .fr d l;refine aM (oF hN t hd f W s σ H (λu Y=>u=v/\Y=H) I ⟨v,A,rfl,rfl⟩) λu s1 D=>?_;obtain⟨y,Y,E,G,c,L⟩:=D;subst c L;have j:=g.giveUp l
  let B:Ad->Prop:=λa=>match a with|some a=>(F.drop i).O a=none/\F.V a|none=>False
  have M:Rep X.K Y B y d:=by
   obtain⟨p,c,m,P⟩:=C
   have n:∀a,Bin F a->B a:=λa b=>by
    cases a with
    |none=>exact b
    |some a=>exact⟨Fm.bQ b.1,b.2.2⟩
   have o:B (some p):=⟨by show(if F.O p=some i then none else F.O p)=none;rw[qe m],g.jA p i m⟩;rcases P with⟨Z,Q,rfl,k,r⟩|⟨Z,Q,rfl,k,r⟩
   ·exact⟨p,Z,c,.inl ⟨k,o⟩,r.weak n⟩
   ·exact⟨p,Z,c,k,o,cQ.same (λ_ _ e=>e) n r⟩
  refine z5j E G M z λJ S=>q J B Y (F.drop i) (Same.refl _) (Run.of rfl rfl rfl) (cA.drop (Same.refl _)) j (λa b=>b.1) (λa b=>?_) S;cases a with
  |none=>exact b.elim
  |some a=>exact b.2
 ·cases e
def Fm.mU (F:Fm)(H:Hp):Fm:={F with O:=λa=>match H a with|some (.dK _)=>F.O a|_=>none}
theorem Fm.iG {F:Fm}{a:Addr}(h:F.O a=none):(F.mU H).O a=none:=by
 unfold Fm.mU
 dsimp only
 split<;>first|exact h|rfl
theorem StOk.mU {K:W.Frag}(f:StOk K F H σ B):StOk K (F.mU H) H σ (B.map Aj) where
 ext:=f.ext
 aN:=f.aN
 own:=λa i e=>by
  have c:F.O a=some i:=by
   unfold Fm.mU at e
   dsimp only at e
   split at e
   ·exact e
   ·cases e
  exact f.own a i c
 len:=by rw[ak];exact f.len
 sl:=λi g d e=>by
  rw[bu]at e;cases j:B[i]? with
  |none=>rw[j]at e;cases e
  |some o=>
   rw[j]at e;have c:Aj o=some (g,d):=by simpa using e
   cases o with
   |none=>cases c
   |some s=>
    obtain⟨n,t⟩:=s;obtain⟨v,u,h⟩:=f.sl i n t j;refine⟨v,u,?_⟩
    have q:∀a,Bin F a->Bin (F.mU H) a:=λa b=>by
     cases a with
     |none=>exact b
     |some a=>exact⟨Fm.iG b.1,b.2.1,b.2.2⟩
    cases n with
    |od=>cases c;exact h
    |al=>cases c;exact h
    |nu=>cases c;exact Rep.weak q h
    |fr=>
     obtain⟨p,ev,w,x⟩:=id h;rcases x with⟨D,y,rfl,k,r⟩|⟨l,C,rfl,k,r⟩
     ·have m:some (G.al,PyData.list y)=some (g,d):=c;cases m;have A:=Slot.rep f.jA h;exact A
     ·have m:some (G.fr,PyData.dict C)=some (g,d):=c;cases m;refine⟨p,ev,?_,.inr ⟨l,C,rfl,k,cQ.same (λ_ _ z=>z) q r⟩⟩;unfold Fm.mU
      dsimp only
      rw[k];exact w
theorem A4 (t:PE X e (tD X.K Q)):PI X L e (tDF X.K λP=>Q P>>=λx=>kL x P):=by
 intro N s S H R I h;obtain⟨P,F,w,i,c,q⟩:=h;obtain⟨x,u,c⟩:=Res.aA c;obtain⟨g,d⟩:=x;unfold kL at c
 dsimp only at c
 split at c
 ·rename_i j;split at c
  ·rename_i T;cases c;refine aM (t N s S H (λv M=>Same H M/\Rep X.K M (BG F H g) v (.list j)) I ⟨P,F,_,i,u,λv M s1 k=>⟨s1,k⟩⟩) λv s1 A=>?_;obtain⟨y,M,C,D,f,k⟩:=A;have l:=(i.same f).mU
   let B:Ad->Prop:=λa=>match a with|some a=>(F.mU M).O a=none/\F.V a|none=>F.z
   have m:Rep X.K M B y (.list j):=by
    obtain⟨p,U,E,h,r⟩:=k;refine⟨p,U,E,?_,Reps.bR j T r⟩;rcases h with⟨h,b⟩|⟨h,b⟩
    ·refine .inl ⟨h,?_,(BG.aN i.aN b:bS F (some p))⟩;unfold Fm.mU
     dsimp only
     rw[h]
    ·exact .inr ⟨h,(BG.aN i.aN b:bS F none)⟩
   refine z5j C D m rfl λJ G=>q J B M (F.mU M) f (Run.of rfl rfl rfl) (λa o e n=>⟨f a o e,Fm.iG n⟩) l (λa b=>b.1) (λa b=>?_) G;cases a with
   |none=>exact b
   |some a=>exact b.2
  ·cases c
 ·cases c
theorem PI.Fl {k:Rho->Bool}(hf:PI X a e (tDF X.K f))(c:PI X a e (tDF X.K g)):PI X a e (tDF X.K λi=>if k i then f i else g i):=by
 intro d s j H R I h;obtain⟨i,F,w,b,e,q⟩:=h
 dsimp only at e
 cases hk:k i with
 |true=>exact hf d s j H R I ⟨i,F,w,b,by rw[qe hk]at e;exact e,q⟩
 |false=>exact c d s j H R I ⟨i,F,w,b,by rw[qf (hk▸ca)]at e;exact e,q⟩
theorem zvw (hp:ej (model X.prog X.w) X.A X.env X.xe)(hc:X.calm=true)(hi:PI X tg L (tDF X.K fw))(hg:PG X tg (tDG X.K t))(hb:PSs X R (tDS X.K fs))(hs:∀x,ek L X.env x=pure x):
  PS X (.For tg L R [] pos) (tDS X.K λρ=>fw ρ>>=λw=>cG (λx N=>fB t (gJ x w.1,x) N>>=λc=>fs c) w.2.1 w.2.2):=
 PS.imp (zcu hp hc hi hg hb hs) λD σ H zz=>by
  obtain⟨ρ,F,out,so,e,q⟩:=zz;obtain⟨w,e1,e⟩:=Res.aA e;refine⟨ρ,F,w,so,e1,λJ B H1 l s1 r1 f1 S M7 M8 wk=>?_⟩;have q1:=q.back r1 f1;generalize hf:(λx N=>fB t (gJ x w.1,x) N>>=λc=>fs c)=f at e
  have kp:∀{r:Fm} {s:Hp},cA l H1 r s->Kp B H1 s:=λ{r s} fr a o e b=>by
   have hO:l.O a=none:=by
    rcases b with b|b
    ·exact M7 a b
    ·cases h:l.O a with
     |none=>rfl
     |some j=>obtain⟨_,_,T⟩:=S.own a j h;rcases T with⟨xs,T⟩|⟨xs,T⟩<;>rw[e]at T<;>cases T<;>exact b.elim
   exact(fr a o e hO).1
  let W:Nat->Nat->L2.St->Hp->Prop:=λi m P s=>m=w.2.1.length-i/\i<=w.2.1.length/\∃c r,StOk X.K r s P c/\Run l r/\cA l H1 r s/\cG f (w.2.1.drop i) c=.ok out
  refine⟨W,⟨_,rfl,c7 _,w.2.2,l,S,Run.refl,cA.refl,e⟩,?_⟩
  rintro i m P s ⟨rfl,A5,c,r,U,Q,f2,h⟩
  by_cases k:i<w.2.1.length
  ·refine .inr ⟨wk.go s (kp f2) i k,W (i+1) (w.2.1.length-(i+1)),λC H' p=>⟨_,by omega,p⟩,λx H3 y=>?_⟩;obtain⟨s3,d,hd,rx⟩:=wk.jZ s (kp f2) i x H3 k y
   have A6:w.2.1.drop i=d::w.2.1.drop (i+1):=by
    have dc:=i3 k;rw[dc];have:w.2.1[i]=d:=by rw[bo k]at hd;exact qg hd
    rw[this]
   rw[A6]at h;simp only[cG]at h;have xM:=U.same s3
   have AU:Rep X.K H3 (BI r (gJ d w.1)) x d:=by
    have M9:∀g a,BI l g a->BI r g a:=λg a b=>by cases g<;>cases a<;>first|exact b|(have M:l.V _:=b;rw[<-Q.2.1]at M;exact M)|(have M:l.z:=b;rw[<-Q.2.2]at M;exact M)|(have M:l.H0 _≠none/\l.V _:=b;exact⟨λz=>M.1 (none_of Q.1 z),by rw[Q.2.1];exact M.2⟩)
    unfold gJ;by_cases hi:imm d=true
    ·rw[qe hi];exact Rep.bR d hi rx
    ·rw[qf hi];exact rx.weak λa b=>M9 _ _ (M8 a b)
   cases e3:f d c with
   |no=>rw[e3]at h;cases h
   |exc z=>rw[e3]at h;cases h
   |ok o1=>
    have M':(fB t (gJ d w.1,d) c>>=λE=>fs E)=.ok o1:=by rw[<-e3,<-hf]
    obtain⟨E,e4,e5⟩:=Res.aA M';rw[e3]at h;refine⟨c,r,(gJ d w.1,d),E,xM,AU,e4,λkG F4 xJ G=>⟨E,F4,o1,xJ,e5,?_⟩⟩;have r4:=Q.trans (Run.of G.h0 G.v G.z);have f4:=f2.trans λa o e n=>⟨s3 a o e,G.o a n⟩;cases o1 with
    |nx I=>exact λC H' Y u Z f'=>⟨rfl,k,I,Y,u,r4.trans Z,f4.trans f',h⟩
    |ct I=>exact λC H' Y u Z f'=>⟨rfl,k,I,Y,u,r4.trans Z,f4.trans f',h⟩
    |bk I=>cases h;exact λC H' Y u Z f'=>q1 C H' Y u (r4.trans Z) (f4.trans f')
    |rt g d=>cases h;exact(q1.back r4 f4:tF X.K F4 H3 D (.rt g d))
  ·have A7:i=w.2.1.length:=by omega
   subst A7;rw[ln]at h;cases h;exact .inl ⟨wk.stop s (kp f2),q1 P s r U Q f2⟩
theorem Na (J:ej (model X.prog X.w) X.A X.env X.xe)(L:PT X c (dQ X.K E))(M:PSs X r (tDS X.K fs)):PS X (.While c r [] Q) (tDS X.K (sZ E fs n)):=
 PS.imp (DQ J L M) λD S H ⟨R,F,y,N,e,q⟩=>by
  let W:Nat->L2.St->Hp->Prop:=λm l B=>∃a j,StOk X.K j B l a/\Run F j/\cA F H j B/\sZ E fs m a=.ok y
  refine⟨W,⟨n,R,F,N,Run.refl,cA.refl,e⟩,?_⟩
  rintro m l B ⟨a,j,o,s,f2,b⟩
  cases m with
  |zero=>cases b
  |succ m=>
   obtain⟨k,O,b⟩:=Res.aA b;refine⟨a,j,k,o,O,λG C=>?_⟩;have f3:=f2.trans (cA.same C);cases k with
   |false=>cases b;exact aX (q l G j (o.same C) s f3)
   |true=>
    refine bA ⟨W m,λh P p=>⟨m,jo m,p⟩,?_⟩;cases x:fs a with
    |no=>rw[x]at b;cases b
    |exc z=>rw[x]at b;cases b
    |ok I=>
     rw[x]at b;refine⟨a,j,I,o.same C,x,?_⟩;cases I with
     |nx i=>exact λh P t f u v=>⟨i,t,f,s.trans u,f3.trans v,b⟩
     |ct i=>exact λh P t f u v=>⟨i,t,f,s.trans u,f3.trans v,b⟩
     |bk i=>cases b;exact λh P t f u v=>q h P t f (s.trans u) (f3.trans v)
     |rt g d=>cases b;exact(q.back s f3:tF X.K j G D (.rt g d))
def rAgg (K:W.Frag)(f:String):List V->Hp->VK->Prop:=λxs H Q=>∃B x dx l ys d,xs=[x]/\Rep K H B x dx/\z69 dx=.ok (l,ys)/\aggD f l ys=.ok d/\∀w H',Same H H'->Rep K H' (λa=>nw H a\/(imms ys=false/\B a)) w d->Q w H'
theorem A8 {K:W.Frag}(r:Rep K H B x d)(e:z69 d=.ok (l,b)):∃a c,x=.ref a/\(if l then SqL K H a c else dB K H a c)/\Reps K H B c b:=by
 cases d<;>try (cases e;done)
 ·cases e;obtain⟨a,c,rfl,h,q⟩:=nQ r;exact⟨a,c,rfl,h,q⟩
 ·cases e;obtain⟨a,c,rfl,h,q⟩:=r;exact⟨a,c,rfl,h,q⟩
theorem Reps.vd {K:W.Frag}(r:Reps K H B c b):Reps K H (λa=>nw H a\/(imms b=false/\B a)) c b:=by
 cases d:imms b with
 |true=>exact Reps.bR b d r
 |false=>exact r.weak λ_ z=>.inr ⟨rfl,z⟩
section
variable {X:Cx}{e:Expr}{fa:Rho->Res GD}
theorem zj1 (c:StOk X.K F H u t)(e:((fa t>>=fun x=>z69 x.2>>=fun p=>Res.ok (x.1,p))>>=fun w=>aggD f w.2.1 w.2.2>>=fun d=>Res.ok ((gJ d (if imms w.2.2 then .fr else agG w.1),d):GD))=.ok z)(q:∀v s,Same H s->Rep X.K s (BG F H z.1) v z.2->Q v s):
  oI (rAgg X.K f) (mD (tD X.K fa) eO) u H Q:=by
 obtain⟨w,b,e⟩:=Res.aA e;obtain⟨x,j,b⟩:=Res.aA b;obtain⟨p,k,b⟩:=Res.aA b;cases b;obtain⟨d,l,e⟩:=Res.aA e;cases e;refine⟨t,F,x,c,j,λv A s1 m=>⟨_,v,x.2,p.1,p.2,d,rfl,m,k,l,λn o r g=>q n o (s1.trans r) (qG g λa h=>?_)⟩⟩;cases y:imms p.2 with
 |true=>
  rcases h with h|⟨h,_⟩
  ·exact nw.back s1 h
  ·rw[y]at h;cases h
 |false=>
  have al:bS F a:=by
   rcases h with h|⟨_,h⟩
   ·exact(nw.back s1 h).aN c.aN
   ·exact h.aN c.aN
  cases i:x.1 with
  |fr=>
   rcases h with h|⟨_,h⟩
   ·exact nw.back s1 h
   ·rw[i]at h;exact h
  |od=>exact al
  |al=>exact al
  |nu=>
   rcases h with h|⟨_,h⟩
   ·exact .inl (nw.back s1 h)
   ·rw[i]at h;exact h
theorem Nb:CallR X (.type "tuple") (rAgg X.K "tuple"):=by
 refine CallR.imp K3 λf H Q h=>?_;obtain⟨B,x,j,l,g,d,rfl,r,e,c,q⟩:=h;obtain⟨a,i,rfl,h,rs⟩:=A8 r e;cases c;refine⟨a,i,rfl,?_⟩;cases l with
 |true=>exact .inl ⟨h,λp b=>q _ _ (Same.upd b) (xw b rs.vd λ_ z=>z)⟩
 |false=>exact .inr ⟨h,q _ H (Same.refl H) ⟨a,i,rfl,h,rs.vd⟩⟩
theorem Fo {K:W.Frag}:∀{a:List D} {bs:List Bool} {h:List V},allB a=some bs->Reps K H B h a->h=bs.map V.bl
 | [],bs,h,e,r=>by cases e;exact r
 |d::a,bs,h,e,r=>by
  cases d<;>try (cases e;done)
  simp only[allB]at e;cases b:allB a with
  |none=>rw[b]at e;cases e
  |some c=>rw[b]at e;cases e;obtain⟨v,t,rfl,f,g⟩:=r;have ev:=f;rw[ev,Fo b g];rfl
theorem Nc (f:X.calm=true):CallR X (.builtin "all") (rAgg X.K "all"):=by
 refine CallR.imp (Lp f) λi H Q h=>?_;obtain⟨B,x,j,l,g,d,rfl,r,e,b,q⟩:=h;obtain⟨a,k,rfl,h,rs⟩:=A8 r e;simp only[aggD,show("all":String)≠"list" by decide,show("all":String)≠"tuple" by decide,show("all":String)≠"sorted" by decide,show("all":String)≠"sum" by decide,if_true,if_false]at b;cases l with
 |false=>cases b
 |true=>
  cases c:allB g with
  |none=>rw[c]at b;cases b
  |some bs=>rw[c]at b;cases b;have ev:=Fo c rs;subst ev;exact⟨a,bs,rfl,h,q _ H (Same.refl H) rfl⟩
theorem Fp {K:W.Frag}:∀{b:List D} {j:List V} {n:Int},kH b=some n->Reps K H B j b->∃ns:List Int,j=ns.map V.int/\n∈ns/\∀a∈ns,a<=n
 | [],_,_,e,_=>by cases e
 | [y],j,n,e,r=>by
  cases y with
  |int i=>cases e;obtain⟨v,t,rfl,rfl,rfl⟩:=r;exact⟨[n],rfl,ah.mpr rfl,λa h=>by rw[ah.mp h];exact Int.le_refl _⟩
  |_=>cases e
 |y::z::b,j,n,e,r=>by
  cases y with
  |int i=>
   have e:(kH (z::b)).map (max i)=some n:=e;cases c:kH (z::b)with
   |none=>rw[c]at e;cases e
   |some k=>
    rw[c]at e;cases e;obtain⟨v,t,rfl,rfl,d⟩:=r;obtain⟨ns,rfl,g,f⟩:=Fp c d;refine⟨i::ns,rfl,?_,λa h=>?_⟩
    ·by_cases hk:i<=k
     ·rw[show max i k=k by omega];simp_all
     ·rw[show max i k=i by omega];simp_all
    ·rcases aq.mp h with rfl|h
     ·omega
     ·have:=f a h;omega
  |_=>cases e
theorem Nd (g:X.calm=true):CallR X (.builtin "max") (λb H Q=>∃(p:Addr) (ns:List Int) (n:Int),b=[.ref p]/\SqL X.K H p (ns.map V.int)/\n∈ns/\(∀a∈ns,a<=n)/\Q (.int n) H):=by
 rintro A s C H b D Q I r ⟨p,ns,n,rfl,h,hn,hm,q⟩
 obtain⟨u,rfl,rfl⟩:=vals1 r;obtain⟨c,k,pl,w⟩:=I.list h;have B:mw c.toArray.toList ns:=intsAre_of k;have f:=pl.isList;obtain⟨b,ex⟩:=B.allInts.items;have hs:=B.numsOf;rw[ex]at f hs;rw[nums_intItems]at hs
 have d:0<b.size:=by
  have:ns.length=b.size:=by rw[<-hs,ak,cv]
  rw[<-this];exact List.length_pos_of_mem hn
 refine max_intList (I.ok.hd g) f d λv x y l hk=>?_;obtain⟨t,rfl⟩:=intItems_at l;obtain⟨z,m⟩:=argBest_gt (numAt b) (b.size-1)
 have e:numAt b (argBest (λi j=>decide (numAt b i>numAt b j)) (b.size-1))=n:=by
  refine Int.le_antisymm (hm _ ?_) ?_
  ·rw[<-hs,numAt_eq];exact getD_mem (by grind)
  ·rw[<-hs]at hn;obtain⟨j,o,e⟩:=mem_getD hn;rw[ak,cv]at o;rw[<-e,<-numAt_eq];exact m j (by omega)
 exact⟨.int n,H,I.kept hk,⟨t,by rw[<-e]⟩,q⟩
theorem Nf (f:X.calm=true):CallR X (.builtin "max") (rAgg X.K "max"):=by
 refine CallR.imp (Nd f) λk H Q h=>?_;obtain⟨B,x,m,l,g,d,rfl,r,e,b,q⟩:=h;obtain⟨a,o,rfl,h,rs⟩:=A8 r e;simp only[aggD,show("max":String)≠"list" by decide,show("max":String)≠"tuple" by decide,show("max":String)≠"sorted" by decide,show("max":String)≠"sum" by decide,show("max":String)≠"all" by decide,show("max":String)≠"any" by decide,show("max":String)≠"dict" by decide,if_true,if_false]at b;cases l with
 |false=>cases b
 |true=>
  cases c:kH g with
  |none=>rw[c]at b;cases b
  |some n=>rw[c]at b;cases b;obtain⟨ns,rfl,i,j⟩:=Fp c rs;exact⟨a,ns,n,rfl,h,i,j,q _ H (Same.refl H) rfl⟩
theorem zqq (b:CallR X (.type f) (rAgg X.K f))(hm:X.mg x=none)(c:cq x=some (.type f))(hs:isStar y=false)(g:PE X y (tD X.K fa))(h:Gl X x)(hn:x≠"__name__")(a:Ue x):
  PE X (.Call (.Name x p) [y] [] k) (tD X.K λj=>(fa j>>=λx=>z69 x.2>>=λp=>Res.ok (x.1,p))>>=λw=>aggD f w.2.1 w.2.2>>=λd=>.ok (gJ d (if imms w.2.2 then .fr else agG w.1),d)):=
 PE.imp (z6 b hm c (dN g j' hs) (by simp[hs]) h hn a) λl H Q ⟨j,F,z,i,e,q⟩=>zj1 i e q
theorem zj9 (b:CallR X (.builtin f) (rAgg X.K f))(hm:X.mg x=none)(c:cq x=some (.builtin f))(hs:isStar y=false)(g:PE X y (tD X.K fa))(h:Gl X x)(hn:x≠"__name__")(a:Ue x):
  PE X (.Call (.Name x p) [y] [] k) (tD X.K λj=>(fa j>>=λx=>z69 x.2>>=λp=>Res.ok (x.1,p))>>=λw=>aggD f w.2.1 w.2.2>>=λd=>.ok (gJ d (if imms w.2.2 then .fr else agG w.1),d)):=
 PE.imp (xo b hm c (dN g j' hs) (by simp[hs]) h hn a) λl H Q ⟨j,F,z,i,e,q⟩=>zj1 i e q
end
namespace F
end F
open PySem.W
section
variable (key:Nat->Nat)
def xN (p:Array Nat)(i:Nat):Nat:=key (p.getD i 0)
variable {key}
def lR (key:Nat->Nat)(p:Array Nat)(m:Nat):Prop:=∀i,1<=i->i<m->xN key p (i-1)<=xN key p i
theorem lR.le (h:lR key p m):∀(d i:Nat),i+d<m->xN key p i<=xN key p (i+d)
 |0,i,_=>ag _
 |d+1,i,hm=>by have a:=lR.le h d i (by omega);have b:=h (i+d+1) (by omega) (by omega);exact bp a b
end
theorem znw (k:CallR X (.type T) (z6v X.K m))(hm:X.mg x=none)(l:cq x=some (.type T))(n:PA X (e::A) (tDA X.K fs))(c:((e::A).all fun e=>!isStar e)=true)(o:Gl X x)(hn:x≠"__name__")(f:Ue x):
  PE X (.Call (.Name x p) (e::A) [] B) (tD X.K λy=>fs y>>=λg=>m (g.map (·.2))>>=λd=>.ok (gJ d .al,d)):=by
 refine PE.imp (z6 k hm l n c o hn f) λC H Q r=>?_;obtain⟨y,F,z,i,b,q⟩:=r;obtain⟨g,s,b⟩:=Res.aA b;obtain⟨d,t,b⟩:=Res.aA b;cases b;exact⟨y,F,g,i,s,λD E s1 rs=>⟨_,_,d,rs.iF i.aN,t,λw u v j=>q w u (s1.trans v) (qG j λa h=>h.elim (λz=>(nw.back s1 z).aN i.aN) λz=>z)⟩⟩
theorem Ng:CallR X (.type "int") (z6v X.K (biD "int")):=by
 refine CallR.imp (CallR.or Kb MV) λe H Q h=>?_;obtain⟨B,f,d,r,a,q⟩:=h;simp only[biD,show("int":String)≠"len" by decide,show("int":String)≠"max" by decide,if_true,if_false]at a;split at a
 ·rename_i i;cases a;obtain⟨v,rfl,b⟩:=tE r;obtain rfl:v=.int i:=b;exact .inl (.inl ⟨i,rfl,q _ H (Same.refl H) rfl⟩)
 ·rename_i k;cases a;obtain⟨v,rfl,b⟩:=tE r;obtain rfl:v=.bl k:=b;exact .inl (.inr ⟨k,rfl,q _ H (Same.refl H) rfl⟩)
 ·rename_i x;unfold oQ at a;split at a
  ·rename_i c;cases a;rw[ba]at c;obtain⟨v,rfl,b⟩:=tE r;obtain rfl:v=.str x:=b.1;exact .inr ⟨x,rfl,c.1,qj c.2,q _ H (Same.refl H) rfl⟩
  ·cases a
 ·cases a
theorem Nh (i:Int):PyData.strOk (toString i:String)=true:=by
 have a:∀c:Char,c.toNat<1114112:=λc=>by
  rcases c.valid with h|h
  ·have b:c.val.toNat<55296:=h;show c.val.toNat<_;omega
  ·exact h.2
 unfold PyData.strOk;rw[Str.ofString_eq_toList];simp only[lx,List.all_toArray,bj];intro c _;exact qk (a c)
theorem Ni:CallR X (.type "str") (z6v X.K (biD "str")):=by
 refine CallR.imp Kc λc H Q h=>?_;obtain⟨B,e,d,r,a,q⟩:=h;simp only[biD,show("str":String)≠"len" by decide,show("str":String)≠"max" by decide,show("str":String)≠"int" by decide,if_true,if_false]at a;split at a
 ·rename_i i;split at a
  ·rename_i f;cases a;obtain⟨v,rfl,b⟩:=tE r;obtain rfl:v=.int i:=b;exact⟨i,rfl,f,q _ H (Same.refl H) ⟨rfl,Nh i⟩⟩
  ·cases a
 ·cases a
abbrev ZRec (TI TO:Addr)(f0:Value)(f1:Bool):Obj:={cls:=.type "zip",dict:=none,data:=.fields #[f0,.bool f1,.bool false,.ref TI,.ref TO],slots:=#[]}
def ZF (f0:Value):Prop:=f0=Value.none\/∃T:Nat,f0=i4 T
section
variable {z TI TO:Addr}
theorem Nj (h:Q (s.heap.get? a) s):wpAny (model prog w) A (loadIfAlive a) Q E s:=λ_ _ _=>h
theorem Fq (hf:ZF f0)(a:s.heap.get? z=some (ZRec TI TO f0 f1))(d:∀b c e,c.get? z=some (ZRec TI TO f0 e)->b7 z s.heap c->Q b {s with heap:=c}):wpAny (model prog w) A (i6 (.ref z)) Q E s:=by
 delta i6
 apply aa;refine df a rfl rfl ?_;rcases hf with rfl|⟨T,rfl⟩
 ·exact am (d true s.heap f1 a (Heap.SameBut.refl ..))
 ·show wpAny _ _ (loadIfAlive ((T:Int).toNat)>>=_) _ _ _;apply aa;refine Nj ?_;cases s.heap.get? ((T:Int).toNat)with
  |none=>exact am (d true s.heap f1 a (Heap.SameBut.refl ..))
  |some o=>
   apply aa;refine df a rfl rfl ?_;cases f1 with
   |true=>exact am (d false s.heap true a (Heap.SameBut.refl ..))
   |false=>apply aa;exact dz a (by simp) λc f g=>am (d false c true f g)
structure ZApart (z TI TO i1 i2:Addr)(p1 p2:List Addr):Prop where
 TIz:TI≠z
 TOz:TO≠z
 i1z:i1≠z
 i2z:i2≠z
 TITO:TI≠TO
 TIi1:TI≠i1
 TIi2:TI≠i2
 TOi1:TO≠i1
 TOi2:TO≠i2
 i12:i1≠i2
 ve:z∉p1
 Fs:TO∉p1
 Fv:i2∉p1
 vf:z∉p2
 A9:TO∉p2
 xO:i1∉p2
abbrev PairAt (h:Heap)(T:Addr)(a b:Value):Prop:=h.get? T=some {cls:=.type "tuple",data:=.seq #[a,b]}
def Zk (z TO i1 i2:Addr)(h h':Heap):Prop:=∀c o,c≠z->c≠TO->c≠i1->c≠i2->h.get? c=some o->h'.get? c=some o
theorem A' (d:PairAt s.heap T a b)(h:∀c,c.get? T=some {cls:=.type "tuple",data:=.seq ((#[a,b]:Array Value).setIfInBounds k x)}->b7 T s.heap c->Q () {s with heap:=c}):wpAny (model prog w) A (updateSeq T (·.setIfInBounds k x)) Q E s:=by exact wpAny_updateSeq d rfl (h _ (by rw[eh _ d rfl];simp[Obj.mapSeq]) (m6 ..))
theorem zgf {Q:Value->aw->Prop}(D:ZApart z TI TO J K1 p1 p2)(l:Draws prog w A J p1 n1 P1 S1)(m:Draws prog w A K1 p2 n2 P2 S2)(hf:ZF f0)(T:s.heap.get? z=some (ZRec TI TO f0 f1))(U:PairAt s.heap TI (.ref J) (.ref K1))(V:PairAt s.heap TO a b)(h1:S1 i s.heap)(h2:S2 i s.heap)(l1:i<n1)(l2:i<n2)
  (hQ:∀x y r W L h a' b',P1 i x->P2 i y->ZF L->r.get? z=some (ZRec TI TO L h)->PairAt r TO a' b'->S1 (i+1) r->S2 (i+1) r->PairAt r s.heap.objs.size x y->Zk z TO J K1 s.heap r->Q (.ref s.heap.objs.size) {s with heap:=r,toks:=W}):
  wpAny (model prog w) A (Builtin.«zip.__next__» {pos:=[.ref z],kw:=[]}) (λX s'=>∃v,X=.done (.ret v)/\Q v s') E s:=by
 show wpAny (model prog w) A (field (.ref z) 2>>=_) _ E s;apply aa;refine df T rfl rfl ?_;apply aa;refine df T rfl rfl ?_;apply aa;refine ez U rfl ?_;apply aa;refine Fq hf T λbf M h f k=>?_;have k0:=λc o n e=>k.extBut c o n e;have e1:=l.frame _ _ _ h1 λb j o e=>k0 b o (λq=>D.ve (q▸j)) e;have e2:=m.frame _ _ _ h2 λb j o e=>k0 b o (λq=>D.vf (q▸j)) e;have t0:=k0 _ _ D.TOz V;have N:=k.1;cases bf with
 |true=>
  apply aa;refine j9 ?_;apply aa;refine df f rfl rfl ?_;apply aa;refine dz f (by simp) λha Y O=>?_;replace Y:ha.get? z=some (ZRec TI TO .ellipsis h):=Y;have Z:=l.frame _ _ _ e1 λb j o e=>O.extBut b o (λq=>D.ve (q▸j)) e;have Ba:=m.frame _ _ _ e2 λb j o e=>O.extBut b o (λq=>D.vf (q▸j)) e;have ta:=O.extBut _ _ D.TOz t0;apply aa;apply aa;apply aa;apply ju;apply aa;refine l.item i _ _ _ l1 Z λx j W t u g=>am ?_;replace g:b7 J ha j:=g;have tb:=g.extBut _ _ D.TOi1 ta;have zb:=g.extBut _ _ D.i1z.symm Y;have B:=m.frame _ _ _ Ba λb d o e=>g.extBut b o (λq=>D.xO (q▸d)) e;apply aa;refine ez tb rfl ?_;apply aa;refine A' tb λn tc kc=>?_;replace tc:PairAt n TO x b:=tc;replace kc:b7 TO j n:=kc;apply aa;refine p3 (am ?_);have zc:=kc.extBut _ _ D.TOz.symm zb;have Nk:=l.frame _ _ _ u λb d o e=>kc.extBut b o (λq=>D.Fs (q▸d)) e;have Bb:=m.frame _ _ _ B λb d o e=>kc.extBut b o (λq=>D.A9 (q▸d)) e;apply aa;apply aa;apply ju;apply aa;refine m.item i _ _ _ l2 Bb λy hd C F G kd=>am ?_;replace kd:b7 K1 n hd:=kd;have S:=kd.extBut _ _ D.TOi2 tc;have zd:=kd.extBut _ _ D.i2z.symm zc;have H:=l.frame _ _ _ Nk λb d o e=>kd.extBut b o (λq=>D.Fv (q▸d)) e;apply aa;refine ez S rfl ?_;apply aa;refine A' S λp te I=>?_;replace te:PairAt p TO x y:=te;replace I:b7 TO hd p:=I;apply aa;refine p3 (am (am ?_));apply aa;refine ez te rfl ?_;apply aa;refine wpAny_newTuple ?_;have sz:p.objs.size=s.heap.objs.size:=by rw[I.1,kd.1,kc.1,g.1,O.1,N]
  have ze:=I.extBut _ _ D.TOz.symm zd;have P:=bb ze;have Nl:=l.frame _ _ _ H λb d o e=>I.extBut b o (λq=>D.Fs (q▸d)) e;have Nm:=m.frame _ _ _ G λb d o e=>I.extBut b o (λq=>D.A9 (q▸d)) e;apply aa
  delta Builtin.SmallTypes.ownedTupleHandOut
  have zf:(p.push {cls:=.type "tuple",data:=.seq #[x,y]}).get? z=some (ZRec TI TO .ellipsis h):=af _ ze;apply aa;refine dz zf (by simp) λhg zg kg=>?_;replace zg:hg.get? z=some (ZRec TI TO (i4 p.objs.size) h):=zg;refine dz zg (by simp) λhh zh kh=>?_;replace zh:hh.get? z=some (ZRec TI TO (i4 p.objs.size) false):=zh;have up:∀c o,c≠z->p.get? c=some o->hh.get? c=some o:=λc o n e=>kh.extBut _ _ n (kg.extBut _ _ n (af _ e));have new:=kh.extBut _ _ (lq P) (kg.extBut _ _ (lq P) (az _ rfl));refine am ⟨.ref p.objs.size,rfl,?_⟩;rw[sz]at new ⊢;refine hQ x y hh C _ _ x y t F (.inr ⟨_,rfl⟩) zh (up _ _ D.TOz te) (l.frame _ _ _ Nl λb d o e=>up b o (λq=>D.ve (q▸d)) e) (m.frame _ _ _ Nm λb d o e=>up b o (λq=>D.vf (q▸d)) e) new λc o R c2 c3 c4 e=>?_;exact up c o R (I.extBut _ _ c2 (kd.extBut _ _ c4 (kc.extBut _ _ c2 (g.extBut _ _ c3 (O.extBut _ _ R (k0 c o R e))))))
 |false=>
  apply aa;apply aa;apply aa;apply ei;apply aa;refine l.item i _ _ _ l1 e1 λx j W t u g=>am (am ?_);replace g:b7 J M j:=g;have B:=m.frame _ _ _ e2 λb d o e=>g.extBut b o (λq=>D.xO (q▸d)) e;apply aa;apply aa;apply ei;apply aa;refine m.item i _ _ _ l2 B λy hd C F G kd=>am (am (am ?_));replace kd:b7 K1 j hd:=kd;have H:=l.frame _ _ _ u λb d o e=>kd.extBut b o (λq=>D.Fv (q▸d)) e;have sz:hd.objs.size=s.heap.objs.size:=by rw[kd.1,g.1,N]
  apply aa;refine wpAny_newTuple (am ⟨_,rfl,?_⟩) (by show 2<=av;decide);have up:∀c o,hd.get? c=some o->(hd.push {cls:=.type "tuple",data:=.seq #[x,y]}).get? c=some o:=λc o e=>af _ e;have zd:=kd.extBut _ _ D.i2z.symm (g.extBut _ _ D.i1z.symm f);have S:=kd.extBut _ _ D.TOi2 (g.extBut _ _ D.TOi1 t0);have new:PairAt (hd.push {cls:=.type "tuple",data:=.seq #[x,y]}) hd.objs.size x y:=az _ rfl;rw[sz]at new ⊢;refine hQ x y _ C f0 h a b t F hf (up _ _ zd) (up _ _ S) (l.frame _ _ _ H λb d o e=>up b o e) (m.frame _ _ _ G λb d o e=>up b o e) new λc o R c2 c3 c4 e=>?_;exact up c o (kd.extBut _ _ c4 (g.extBut _ _ c3 (k0 c o R e)))
theorem zl4 (D:ZApart z TI TO X R p1 p2)(F:Draws prog w A X p1 n P1 Z)(p:Draws prog w A R p2 Y P2 S2)(hf:ZF f0)(S:s.heap.get? z=some (ZRec TI TO f0 f1))(T:PairAt s.heap TI (.ref X) (.ref R))(U:PairAt s.heap TO a b)(h1:Z i s.heap)(h2:S2 i s.heap)(hl:i=min n Y)
  (M:∀V G e,Zk z TO X R s.heap V->(∃o,V.get? e=some o/\o.cls=.type "StopIteration")->E (.ref e) {s with heap:=V,toks:=G}):
  wpAny (model prog w) A (Builtin.«zip.__next__» {pos:=[.ref z],kw:=[]}) Q E s:=by
 show wpAny (model prog w) A (field (.ref z) 2>>=_) _ E s;apply aa;refine df S rfl rfl ?_;apply aa;refine df S rfl rfl ?_;apply aa;refine ez T rfl ?_;apply aa;refine Fq hf S λbf m Bc g r=>?_;have W:=λc o N e=>r.extBut c o N e;have e1:=F.frame _ _ _ h1 λb f o e=>W b o (λq=>D.ve (q▸f)) e;have e2:=p.frame _ _ _ h2 λb f o e=>W b o (λq=>D.vf (q▸f)) e;have t0:=W _ _ D.TOz U;cases bf with
 |true=>
  apply aa;refine j9 ?_;apply aa;refine df g rfl rfl ?_;apply aa;refine dz g (by simp) λha O H=>?_;replace O:ha.get? z=some (ZRec TI TO .ellipsis Bc):=O;have I:=F.frame _ _ _ e1 λb f o e=>H.extBut b o (λq=>D.ve (q▸f)) e;have Ba:=p.frame _ _ _ e2 λb f o e=>H.extBut b o (λq=>D.vf (q▸f)) e;have ta:=H.extBut _ _ D.TOz t0;apply aa;apply aa;apply aa;apply ju;apply aa;by_cases hi:i<n
  ·refine F.item i _ _ _ hi I λx f G Nn Nq h=>am ?_;replace h:b7 X ha f:=h;have tb:=h.extBut _ _ D.TOi1 ta;have zb:=h.extBut _ _ D.i1z.symm O;have t:=p.frame _ _ _ Ba λb j o e=>h.extBut b o (λq=>D.xO (q▸j)) e;apply aa;refine ez tb rfl ?_;apply aa;refine A' tb λN tc kc=>?_;replace kc:b7 TO f N:=kc;apply aa;refine p3 (am ?_);have zc:=kc.extBut _ _ D.TOz.symm zb;have Bb:S2 Y N:=by rw[show Y=i by omega];exact p.frame _ _ _ t λb j o e=>kc.extBut b o (λq=>D.A9 (q▸j)) e
   apply aa;apply aa;apply ju;apply aa;refine p.done _ _ _ Bb λhd e kd u=>?_;obtain⟨oe,d,k⟩:=u;have J:=kd _ _ D.i2z.symm zc;have v:e≠z:=λq=>by subst q;rw[J]at d;cases d;simp at k
   refine dz J (by simp) λy _ K=>M y G e (λc o l P B L q=>?_) ⟨oe,K.extBut _ _ v d,k⟩;exact K.extBut _ _ l (kd _ _ L (kc.extBut _ _ P (h.extBut _ _ B (H.extBut _ _ l (W c o l q)))))
  ·have C:Z n ha:=show n=i by omega▸I
   refine F.done _ _ _ C λhd e kd u=>?_;obtain⟨oe,d,k⟩:=u;have J:=kd _ _ D.i1z.symm O;have v:e≠z:=λq=>by subst q;rw[J]at d;cases d;simp at k
   refine dz J (by simp) λy _ K=>M y s.toks e (λc o l P B L q=>?_) ⟨oe,K.extBut _ _ v d,k⟩;exact K.extBut _ _ l (kd _ _ B (H.extBut _ _ l (W c o l q)))
 |false=>
  apply aa;apply aa;apply aa;apply ei;apply aa;by_cases hi:i<n
  ·refine F.item i _ _ _ hi e1 λx f G Nn Nq h=>am (am ?_);replace h:b7 X m f:=h;have t:S2 Y f:=by rw[show Y=i by omega];exact p.frame _ _ _ e2 λb j o e=>h.extBut b o (λq=>D.xO (q▸j)) e
   apply aa;apply aa;apply ei;apply aa;exact p.done _ _ _ t λhd e kd u=>M hd G e (λc o l P B L q=>kd _ _ L (h.extBut _ _ B (W c o l q))) u
  ·have C:Z n m:=show n=i by omega▸e1
   exact F.done _ _ _ C λhd e kd u=>M hd s.toks e (λc o l P B L q=>kd _ _ B (W c o l q)) u
end
theorem zae (a:s.heap.IsTupleIter b t i)(o:s.heap.IsTuple t items)(p:items[i]?=some x)
  (q:∀f,f.IsTupleIter b t (i+1)->b7 b s.heap f->Q x {s with heap:=f}):wpAny (model prog w) A (ko (.ref b)) Q E s:=by
 have ty:=a.typeIs;obtain⟨⟨l,g,h,c⟩,d,r,hd⟩:=a;obtain⟨⟨m,j,k,e⟩,y,tc,n,u⟩:=o;cases r;cases hd;cases tc;cases u;apply aa;refine en ty F.slot_tuple_iterator_next (fy F.slot_tuple_iterator_next ty F.entry_tuple_iterator_next ?_ (F.args_tuple_iterator_next_1 _));show wpAny _ _ (field (.ref b) 0>>=_) _ _ _;apply aa;refine df d rfl rfl ?_;apply aa;refine df d rfl rfl ?_;apply aa;refine ez y rfl ?_;have v:=jk i
 dsimp only
 rw[v,p];apply aa;refine jl d rfl (by simp) ?_;refine am ⟨x,rfl,am (q _ ⟨_,eh _ d rfl,rfl,?_⟩ (m6 _ _ _))⟩;rfl
theorem z5m {a t:Addr}{i:Nat}{items:Array Value}{Q:Value->aw->Prop}(hh:A.handled=none)(c:s.heap.IsTupleIter a t i)(r:s.heap.IsTuple t items)(u:items[i]?=none)
  (v:∀g e,Heap.ExtBut a s.heap g->(∃o,g.get? e=some o/\o.cls=.type "StopIteration")->E (.ref e) {s with heap:=g}):wpAny (model prog w) A (ko (.ref a)) Q E s:=by
 have ty:=c.typeIs;obtain⟨⟨p,h,j,d⟩,k,y,hd⟩:=c;obtain⟨⟨q,l,m,f⟩,C,tc,n,z⟩:=r;cases y;cases hd;cases tc;cases z;apply aa;refine en ty F.slot_tuple_iterator_next (fy F.slot_tuple_iterator_next ty F.entry_tuple_iterator_next ?_ (F.args_tuple_iterator_next_1 _));show wpAny _ _ (field (.ref a) 0>>=_) _ _ _;apply aa;refine df k rfl (x:=.ref t) rfl ?_;show wpAny _ _ (field (.ref a) 1>>=_) _ _ _;apply aa;refine df k rfl (x:=.int i 0) rfl ?_;apply aa;refine ez C rfl ?_
 dsimp only
 rw[jk i,u];apply aa;refine j9 ?_;apply aa;refine jl k rfl (by simp) ?_
 delta Builtin.SmallTypes.stopIteration
 repeat (any_goals (first|assumption|wp_step))
 refine m7 (show A.in1.handled=none from hh) (v _ _ (λb o B e=>?_) ⟨_,az _ rfl,rfl⟩);refine af _ (af _ ?_);rw[j3 _ _ _ _ B];exact e
theorem Nr (hh:A.handled=none)(b t:Addr)(d:t≠b)(items:Array Value):Draws prog w A b [b,t] items.size (λi v=>items[i]?=some v) (λi h=>h.IsTupleIter b t i/\h.IsTuple t items) where
 live:=λi h st=>let⟨⟨o,e,_⟩,_⟩:=st;⟨o,e⟩
 frame:=λi h g st k=>by obtain⟨⟨o,e,r⟩,c,a,f⟩:=st;exact⟨⟨o,k b (by simp) o e,r⟩,c,k t (by simp) c a,f⟩
 item:=λi s1 p q u st l=>by refine zae st.1 st.2 (kq u) λg m j=>?_;obtain⟨c,a,f⟩:=st.2;exact l _ g s1.toks (kq u) ⟨m,c,j.extBut t c d a,f⟩ j
 done:=λs Q E st n=>z5m hh st.1 st.2 (Array.getElem?_eq_none (ag _)) n
def IsB (h:Heap)(l:Bool)(a:Addr)(xs:Array Value):Prop:=match l with
 |true=>h.IsList a xs
 |false=>h.IsTuple a xs
def jE (h:Heap)(l:Bool)(it a:Addr)(i:Nat):Prop:=match l with
 |true=>h.IsListIter it a i
 |false=>h.IsTupleIter it a i
def hU (K:W.Frag)(H:Hp)(l:Bool)(a:Addr)(vs:List V):Prop:=match l with
 |true=>SqL K H a vs
 |false=>dB K H a vs
def nR (K:W.Frag)(H:Hp)(B:Ad->Prop)(l:Bool)(a:Addr)(vs:List V):Prop:=match l with
 |true=>(H a=some (.lst vs)/\B (some a))\/(FL K H a vs/\B none)
 |false=>dB K H a vs
abbrev cX (l:Bool)(a:Addr):Obj:={cls:=.type (if l then "list_iterator"else "tuple_iterator"),data:=.fields #[.ref a,.int 0 0]}
theorem nR.keep {K:W.Frag}(h:nR K H B l a d)(k:Kp B H c):hU K c l a d:=by
 cases l with
 |true=>
  rcases h with⟨h,b⟩|⟨⟨o,h⟩|h,_⟩
  ·exact .inl (.inl (k a _ h (.inl b)))
  ·exact .inl (.inr ⟨o,k a _ h (.inr True.intro)⟩)
  ·exact .inr h
 |false=>exact dB.keep k h
theorem nR.of {K:W.Frag}(r:Rep K H B v d)(e:seqR d=.ok xs):∃l a c,v=.ref a/\nR K H B l a c/\Reps K H B c xs/\xs.length<=LIM:=by
 cases d<;>try (exact(gE e).elim)
 case list ds=>
  have e:(if decide (ds.length<=LIM)=true then Res.ok ds else Res.no)=Res.ok xs:=e;split at e
  ·rename_i b;cases e;obtain⟨a,c,rfl,h,rs⟩:=r;exact⟨true,a,c,rfl,h,rs,qj b⟩
  ·cases e
 case tuple ds=>
  have e:(if decide (ds.length<=LIM)=true then Res.ok ds else Res.no)=Res.ok xs:=e;split at e
  ·rename_i b;cases e;obtain⟨a,c,rfl,h,rs⟩:=r;exact⟨false,a,c,rfl,h,rs,qj b⟩
  ·cases e
theorem hU.items (I:Inv X d f H s)(h:hU X.K H l a e):∃b:List Value,Vals e b/\IsB s.heap l a b.toArray/\e.length=b.length:=by
 cases l with
 |true=>obtain⟨b,c,p,_⟩:=I.list h;exact⟨b,c,p.isList,c.length⟩
 |false=>obtain⟨b,c,p,_⟩:=I.tuple h;exact⟨b,c,p,c.length⟩
theorem tG (hh:A.handled=none)(l:Bool)(b a:Addr)(c:a≠b)(items:Array Value):Draws prog w A b [b,a] items.size (λi v=>items[i]?=some v) (λi h=>jE h l b a i/\IsB h l a items):=by
 cases l with
 |true=>exact Draws.list hh b a c items
 |false=>exact Nr hh b a c items
theorem jE.live (x:jE h l b a i):∃o,h.get? b=some o/\∀v,o.data≠.cell v:=by cases l<;>(obtain⟨o,c,_,hd⟩:=x;exact⟨o,c,λv z=>by rw[hd]at z;cases z⟩)
theorem jE.keep (x:jE h l b a i)(k:∀o,h.get? b=some o->c.get? b=some o):jE c l b a i:=by cases l<;>(obtain⟨o,d,r⟩:=x;exact⟨o,k o d,r⟩)
theorem jE.new (x:h.get? b=some (cX l a)):jE h l b a 0:=by cases l<;>exact⟨_,x,rfl,rfl⟩
theorem IsB.lt (x:IsB h l a c):a<h.objs.size:=by cases l<;>(obtain⟨o,b,_⟩:=x;exact bb b)
theorem IsB.push (x:IsB h l a b)(o:Obj):IsB (h.push o) l a b:=by cases l<;>(obtain⟨q,c,r⟩:=x;exact⟨q,af _ c,r⟩)
theorem xP (h:IsB s.heap l a c)(b:Q (.ref s.heap.objs.size) {s with heap:=s.heap.push (cX l a)}):wpAny (model prog w) A (pw (.ref a)) Q E s:=by
 cases l with
 |true=>exact jg h b
 |false=>exact oj h b
theorem _root_.L2.Inv.turnedTL {h:List Addr}(I:Inv X r t H s)(f:∀b∈h,FpOk X r H b)(keep:∀b q,b∉h->s.heap.get? b=some q->i.get? b=some q)(j:s.heap.objs.size<=p)
  (new:z1y X.prog X.w (upd H p (.tup xs)) i p (.tup xs)):Inv X r t (upd H p (.tup xs)) {s with heap:=i,toks:=t'}:=by
 have hn:=I.hok.fresh j;have d:∀b u,H b=some u->b∉h:=λb u k z=>by rw[(f b z).1]at k;cases k
 have loc:=λz=>(f _ z).2.1 rfl;refine I.step (λb g=>?_) (λb q _ _ a e _=>keep b q a e) (λb q _ _ a e _=>⟨q.slots,keep b q a e⟩) (λb q _ e n=>by rw[aH (b9 (bv (bb e) j))];exact n) (λb q a e=>⟨q,keep b q a e⟩) (λb xs q=>by rw[aH (fZ q hn)];exact q) (λb u xs q=>by rw[aH (fZ q hn)];exact q) (λb ps q=>⟨#[],by rw[aH (fZ q hn),q];simp⟩) (λm hm=>?_) (λb u e=>?_) I.bare
 ·obtain⟨f0,f1,f2,f3,l,o⟩:=f b g;exact⟨f3,f1,l,o⟩
 ·exact hm.at λq e=>keep _ q loc e
 ·by_cases g:b=p
  ·subst g;rw[bG]at e;cases e;exact new
  ·rw[aH g]at e;refine(I.hok b u e).stay (λc v a q=>keep c v ?_ q) (λc q=>by rw[aH (fZ q hn)];exact q) λc xs q=>by rw[aH (fZ q hn)];exact q
   rcases a with rfl|a
   ·exact d _ _ e
   ·exact d _ _ a
theorem _root_.L2.Inv.jR {g:List Addr}(I:Inv X p r H s)(f:∀b∈g,FpOk X p H b)(keep:∀b q,b∉g->s.heap.get? b=some q->j.get? b=some q):Inv X p r H {s with heap:=j,toks:=t'}:=by
 have d:∀b u,H b=some u->b∉g:=λb u h z=>by rw[(f b z).1]at h;cases h
 have loc:=λz=>(f _ z).2.1 rfl;refine I.step (λb k=>?_) (λb q _ _ a e _=>keep b q a e) (λb q _ _ a e _=>⟨q.slots,keep b q a e⟩) (λb q _ e n=>n) (λb q a e=>⟨q,keep b q a e⟩) (λb i q=>q) (λb u i q=>q) (λb ps q=>⟨#[],by rw[q];simp⟩) (λm hm=>?_) (λb u e=>?_) I.bare
 ·obtain⟨f0,f1,f2,f3,l,o⟩:=f b k;exact⟨f3,f1,l,o⟩
 ·exact hm.at λq e=>keep _ q loc e
 ·refine(I.hok b u e).stay (λc v a q=>keep c v ?_ q) (λc q=>q) λc i q=>q;rcases a with rfl|a
  ·exact d _ _ e
  ·exact d _ _ a
theorem Bd (d:Vals g a)(h:i<g.length)(e:a.toArray[i]?=some x):∃v,g[i]?=some v/\RelV v x:=by
 refine⟨g[i],bo h,?_⟩;obtain⟨u,c,f⟩:=d.get (bo h);have b:a[i]?=some x:=by simpa using e
 rw[b]at c;cases c;exact f
def Be (K:W.Frag)(l:Bool)(t:Addr)(vs:List V):It:=⟨λi H=>hU K H l t vs/\i<vs.length,λi H x H'=>∃p v,vs[i]?=some v/\H p=none/\x=.ref p/\H'=upd H p (.tup [.int i,v]),λi H=>hU K H l t vs/\i=vs.length⟩
theorem zcf {K:W.Frag}(Y:t≠d)(Z:t≠e)(C:e≠d):
  Turn P w K (.Tuple n x1 pos) (Be K l t vs) [e,d] e (λi h=>(∃old,IsEnum h e d i old)/\jE h l d t i) where
 mem:=by simp
 obj:=λi h st b c=>by
  obtain⟨⟨old,g⟩,a⟩:=st;rcases(aq.mp c)with rfl|c
  ·exact⟨_,g,λv z=>by cases z⟩
  ·obtain rfl:b=d:=by simpa using c
   exact a.live
 keep:=λi h J st k=>by obtain⟨⟨old,g⟩,a⟩:=st;exact⟨⟨old,k e (by simp) _ g⟩,a.keep λo=>k d (by simp) o⟩
 item:=by
  intro X L M N O i pins s σ H E I hf st Q;subst L M N;obtain⟨R,hi⟩:=Q;obtain⟨⟨old,g⟩,a⟩:=st;obtain⟨f,rv,p,hl⟩:=hU.items I R;have S:X.A.in1.handled=none:=I.ok.hd O;have D:=tG (prog:=X.prog) (w:=X.w) S l d t Y f.toArray;have W:=WalksT.enumerateD D e C (by simp[C,Ne.symm Z]) (by simp);obtain⟨oi,T,_⟩:=a.live;refine wpAny_pyNext_enum_itemD D g ⟨a,p⟩ (by grind) C (by simp[C,Ne.symm Z]) λx J F hx r U u hsz kp=>⟨_,rfl,?_⟩;have G:s.heap.objs.size≠e/\s.heap.objs.size≠d:=⟨λz=>cx _ (z▸bb g),λz=>cx _ (z▸bb T)⟩;refine W.go n x1 pos i s.heap.objs.size {s with heap:=J,toks:=F+1} _ _ ⟨⟨x,r⟩,U,G.1,G.2⟩ λNt j y=>?_;have B:s.heap.objs.size∉ [e,d]:=by simp[G.1,G.2]
  have m:=y s.heap.objs.size _ B u;have V:=I.hok.fresh (ag _);obtain⟨v,hv,rx⟩:=Bd rv hi hx;have I1:=I.turnedTL (t':=F+1) (xs:=[.int i,v]) hf (λb q c z=>y b q c (kp b q (λz=>c (by simp[z])) (λz=>c (by simp[z])) z)) (ag _) ⟨by rw[cb];simp,[.int i F,x],.cons ⟨F,rfl⟩ (.cons rx .nil),0,m⟩;refine⟨.ref s.heap.objs.size,_,I1,rfl,⟨_,v,hv,V,rfl,rfl⟩,⟨j.1,j.2.1⟩,λb c=>?_⟩;rw[aH λz:b=s.heap.objs.size=>B (z▸c)];exact(hf b c).1
 done:=by intro X L M N O i pins s σ H E I hf st Q;subst L M N;obtain⟨R,hi⟩:=Q;obtain⟨⟨old,g⟩,a⟩:=st;obtain⟨f,rv,p,hl⟩:=hU.items I R;have S:X.A.in1.handled=none:=I.ok.hd O;have D:=tG (prog:=X.prog) (w:=X.w) S l d t Y f.toArray;have St:jE s.heap l d t f.toArray.size/\IsB s.heap l t f.toArray:=⟨by rw[bn,<-hl,<-hi];exact a,p⟩;exact wpAny_pyNext_enum_endD D g St λJ eb=>⟨rfl,I.jR hf λb o c z=>eb b o (λq=>c (by simp[q])) z⟩
 self:=λ_ _ _ _ _ st h=>by obtain⟨⟨old,g⟩,_⟩:=st;exact pb g h
theorem Fw:∀a (k i:Nat),(z17 k a)[i]?=(a[i]?).map λx=>.tuple [.int ((k+i:Nat):Int),x]
 | [],k,i=>by simp[z17]
 |x::a,k,0=>by simp[z17]
 |x::a,k,i+1=>by
  rw[z17,f9,f9,Fw a (k+1) i];have:k+1+i=k+(i+1):=by omega
  rw[this]
theorem xQ:∀a k,(z17 k a).length=a.length
 | [],_=>rfl
 |x::a,k=>by rw[z17,ay,ay,xQ a]
theorem Nu {K:W.Frag}(b:nR K H B l t u)(rs:Reps K H B u c)(m:c.length<=av):Walk K (Be K l t u) B H (z17 0 c):=by
 have n:=rs.length;constructor
 ·rw[xQ];exact m
 ·intro g kp i h;rw[xQ]at h;exact⟨b.keep kp,by omega⟩
 ·intro g kp;exact⟨b.keep kp,by rw[xQ];exact n.symm⟩
 ·intro g kp i x s h y;obtain⟨p,v,o,j,rfl,rfl⟩:=y;obtain⟨d,hd,r⟩:=Reps.kN rs o;refine⟨Same.upd j,.tuple [.int i,d],by rw[Fw,hd];simp,p,[.int i,v],rfl,dB.of bG,?_⟩;refine Reps.cons rfl (Reps.cons ?_ rfl);exact Rep.keep (λa q e f=>by have k:=kp a q e f;rw[aH (fZ k j)];exact k) (λ_ z=>z) d r
theorem za9 (l:Bool)(t:Addr)(items:Array Value):Meets (Builtin.«enumerate.__new__» {pos:=[.type "enumerate",.ref t]}) fun _ R s=>
  IsB s.heap l t items/\R (.ok (.ret (.ref (s.heap.push (cX l t)).objs.size))) {s with heap:=(s.heap.push (cX l t)).push {cls:=.type "enumerate",data:=.fields #[.none,.bool false,.ref s.heap.objs.size,i4 0,.none,.none]}}:=by
 rintro prog w A R s ⟨a,c⟩
 have sub:=sub_enumerate
 delta Builtin.«enumerate.__new__»
 repeat (any_goals (first|assumption|(apply xP a)|wp_step))
 refine wpAny_stack λst _ _ _=>?_;refine gk (Q:=λ_ s'=>s'=s) (am rfl) (λb s' hs=>?_) λ_ _ x=>x;subst hs;cases b
 all_goals repeat (any_goals (first|assumption|(apply xP a)|wp_step))
 all_goals exact c
theorem zhh (a:IsB s.heap l t items)
  (b:Q (.ref (s.heap.push (cX l t)).objs.size) {s with heap:=(s.heap.push (cX l t)).push {cls:=.type "enumerate",data:=.fields #[.none,.bool false,.ref s.heap.objs.size,i4 0,.none,.none]}}):wpAny (model prog w) A (call (.type "enumerate") [.ref t]) Q E s:=by
 refine callType_new F.called_enumerate dc (F.typeCall_enumerate_1 _) (F.newCall_enumerate_1 _) (λobj=>?_) F.entry_enumerate_new (za9 l t items) ⟨a,⟨_,az _ rfl,rfl⟩,b⟩;exact F.args_object_init_2 _ _
theorem z70 (h:Inv X M O N s1)(u:RelV y v)(x:Rep X.K N B y d)(e:seqR d=.ok z)(q:∀J,Walk X.K J B N (z17 0 z)->R J N):
  wpAny (model X.prog X.w) X.A (call (.type "enumerate") [v]) (λC D=>wpAny (model X.prog X.w) X.A (pw C) (q8 X M O (.Tuple n L tp) R) X.xe D) X.xe s1:=by
 obtain⟨l,t,E,rfl,p,i,F⟩:=nR.of x e;cases u;obtain⟨G,H,pt,_⟩:=hU.items h (p.keep (Kp.of (Same.refl N)));refine zhh pt ?_;generalize j:s1.heap.push (cX l t)=f;have g:f.objs.size=s1.heap.objs.size+1:=j▸ly _ _;have k:Inv X M O N {s1 with heap:=f}:=h.kept λb o e=>j▸af _ e;generalize a:f.push {cls:=.type "enumerate",data:=.fields #[.none,.bool false,.ref s1.heap.objs.size,i4 0,.none,.none]}=c;have I:Inv X M O N {s1 with heap:=c}:=k.kept λb o e=>a▸af _ e;have r:c.get? f.objs.size=some {cls:=.type "enumerate",data:=.fields #[.none,.bool false,.ref s1.heap.objs.size,i4 0,.none,.none]}:=a▸az _ rfl;have g2:c.get? s1.heap.objs.size=some (cX l t):=by rw[<-a];refine af _ ?_;rw[<-j];exact az _ rfl
 have s:=pt.lt;refine pb r ?_;refine⟨f.objs.size,[f.objs.size,s1.heap.objs.size],_,Be X.K l t E,N,rfl,I,zcf (b9 s) (b9 (j6 s (g▸jo _))) (g▸Nat.succ_ne_self _),⟨⟨.none,r⟩,jE.new g2⟩,λb m=>?_,q _ (Nu p i (kP F))⟩;rcases(aq.mp m)with rfl|m
 ·exact k.iB (ag _) (k.hok.fresh (ag _))
 ·obtain rfl:b=s1.heap.objs.size:=by simpa using m
  exact h.iB (ag _) (h.hok.fresh (ag _))
def Fx (K:W.Frag)(l1:Bool)(a1:Addr)(vs:List V)(l2:Bool)(a2:Addr)(ws:List V):It:=⟨λi H=>hU K H l1 a1 vs/\hU K H l2 a2 ws/\i<min vs.length ws.length,λi H x H'=>∃p v w,vs[i]?=some v/\ws[i]?=some w/\H p=none/\x=.ref p/\H'=upd H p (.tup [v,w]),λi H=>hU K H l1 a1 vs/\hU K H l2 a2 ws/\i=min vs.length ws.length⟩
def Fy (z TI TO i1 i2:Addr)(l1:Bool)(a1:Addr)(l2:Bool)(a2:Addr)(i:Nat)(h:Heap):Prop:=(∃f0 f1,ZF f0/\h.get? z=some (ZRec TI TO f0 f1))/\PairAt h TI (.ref i1) (.ref i2)/\(∃a b,PairAt h TO a b)/\jE h l1 i1 a1 i/\jE h l2 i2 a2 i
theorem zq6 {TI TO:Addr}(h:(isTup d||isNm d)=true)(hf:ZF f0)(c:s.heap.get? z=some (ZRec TI TO f0 f1))
  (e:∀a b,ZF b->a.get? z=some (ZRec TI TO b f1)->b7 z s.heap a->Q () {s with heap:=a}):wpAny (model prog w) A (gp d (.ref z) (.ref T)) Q E s:=by
 cases d<;>first|(cases h;done)|exact am (e s.heap f0 hf c (Heap.SameBut.refl ..))|skip
 delta gp
 apply aa;refine p7 c ?_;show wpAny _ _ (if(_&&(f0::_:List Value).toArray[0]?==some (i4 T))=true then _ else _) Q E s;by_cases g:(some f0==some (i4 T))=true
 ·rw[qe (by simpa using g)];apply aa;refine j9 ?_;exact dz c (by simp) λa f i=>e a .none (.inl rfl) f i
 ·rw[qf (by simpa using g)];exact am (e s.heap f0 hf c (Heap.SameBut.refl ..))
theorem zgr {TI TO:Addr}(D:ZApart z TI TO f g p1 p2)(q:Draws prog w A.in1 f p1 r t n)(u:Draws prog w A.in1 g p2 v B o)(hf:ZF f0)(p:s.heap.get? z=some (ZRec TI TO f0 f1))(h:PairAt s.heap TI (.ref f) (.ref g))(j:PairAt s.heap TO a b)(C:n i s.heap)(G:o i s.heap)(l1:i<r)(l2:i<v)
  (H:∀x y c k d e l m,t i x->B i y->ZF d->c.get? z=some (ZRec TI TO d e)->PairAt c TO l m->n (i+1) c->o (i+1) c->PairAt c s.heap.objs.size x y->Zk z TO f g s.heap c->Q (some (.ref s.heap.objs.size)) {s with heap:=c,toks:=k}):wpAny (model prog w) A (pv (.ref z)) Q E s:=by
 have ty:s.TypeIs (.ref z) "zip":=⟨_,p,rfl⟩
 delta pv
 apply aa;apply wpAny_attempt;refine en ty F.slot_zip_next (fy F.slot_zip_next ty F.entry_zip_next ?_ (F.args_zip_next_1 _));exact zgf D q u hf p h j C G l1 l2 λx y c k d e l m I J K L M N O P R=>am (H x y c k d e l m I J K L M N O P R)
theorem zh6 {TI TO:Addr}(D:ZApart z TI TO c d p1 p2)(l:Draws prog w A.in1 c p1 m P1 n)(p:Draws prog w A.in1 d p2 q P2 r)(hf:ZF f0)(j:s.heap.get? z=some (ZRec TI TO f0 f1))(f:PairAt s.heap TI (.ref c) (.ref d))(g:PairAt s.heap TO a b)(t:n i s.heap)(u:r i s.heap)(v:i=min m q)
  (x:∀h k,Zk z TO c d s.heap h->Q none {s with heap:=h,toks:=k}):wpAny (model prog w) A (pv (.ref z)) Q E s:=by
 have ty:s.TypeIs (.ref z) "zip":=⟨_,j,rfl⟩
 delta pv
 apply aa;apply wpAny_attempt;refine en ty F.slot_zip_next (fy F.slot_zip_next ty F.entry_zip_next ?_ (F.args_zip_next_1 _));refine zl4 D l p hf j f g t u v λh k e kp y=>?_;obtain⟨o,B,C⟩:=y;apply aa;refine wpAny_isInstance ⟨o,B,C⟩ isSubtype_stop ?_;exact am (x _ _ kp)
theorem zgc {K:W.Frag}{TI TO:Addr}(ht:(isTup tg||isNm tg)=true)(D:ZApart z TI TO n p [n,Y] [p,Z])(n1:Y≠n)(n2:Z≠p):
  Turn P w K tg (Fx K l1 Y vs l2 Z ws) [z,TI,TO,n,p] z (Fy z TI TO n p l1 Y l2 Z) where
 mem:=by simp
 obj:=λi h st b g=>by
  obtain⟨⟨f0,f1,_,j⟩,d,⟨a,c,f⟩,r,t⟩:=st;simp at g;rcases g with rfl|rfl|rfl|rfl|rfl
  ·exact⟨_,j,λv q=>by cases q⟩
  ·exact⟨_,d,λv q=>by cases q⟩
  ·exact⟨_,f,λv q=>by cases q⟩
  ·exact r.live
  ·exact t.live
 keep:=λi h h' st k=>by obtain⟨⟨f0,f1,hf,j⟩,d,⟨a,c,f⟩,r,t⟩:=st;exact⟨⟨f0,f1,hf,k z (by simp) _ j⟩,k TI (by simp) _ d,⟨a,c,k TO (by simp) _ f⟩,r.keep λo=>k n (by simp) o,t.keep λo=>k p (by simp) o⟩
 item:=by
  intro X T U V G i pins s σ H E I hf st hg;subst T U V;obtain⟨B,C,hi⟩:=hg;obtain⟨⟨f0,f1,zf,j⟩,d,⟨a,c,f⟩,r,t⟩:=st;obtain⟨l,J,b1,e1⟩:=hU.items I B;obtain⟨m,L,b2,e2⟩:=hU.items I C;have M:X.A.in1.handled=none:=I.ok.hd G;have D1:=tG (prog:=X.prog) (w:=X.w) M l1 n Y n1 l.toArray;have D2:=tG (prog:=X.prog) (w:=X.w) M l2 p Z n2 m.toArray;refine zgr D D1 D2 zf j d f ⟨r,b1⟩ ⟨t,b2⟩ (by grind) (by grind) λx y h' tk T1 Bc a' b' hx hy Nv Nw N Ny uN new kp=>⟨_,rfl,?_⟩;refine zq6 ht Nv Nw λNt O Q R sb=>?_;have lt:∀{c o},s.heap.get? c=some o->s.heap.objs.size≠c:=λe q=>cx _ (q▸bb e);obtain⟨o1,Nz,_⟩:=r.live;obtain⟨o2,NA,_⟩:=t.live;have NC:s.heap.objs.size∉ [z,TI,TO,n,p]:=by simp[lt j,lt d,lt f,lt Nz,lt NA]
  have up:=λc o G e=>sb.extBut c o G e;have S:=up _ _ (lt j) new;obtain⟨v,hv,rx⟩:=Bd J (by omega) hx;obtain⟨u,hu,ry⟩:=Bd L (by omega) hy;have ND:=I.hok.fresh (ag _);have I1:=I.turnedTL (t':=tk) hf (λb q g e=>up b q (λq=>g (by simp[q])) (kp b q (λq=>g (by simp[q])) (λq=>g (by simp[q])) (λq=>g (by simp[q])) (λq=>g (by simp[q])) e)) (ag _) ⟨by rw[cb];simp,[x,y],.cons rx (.cons ry .nil),0,S⟩;refine⟨.ref s.heap.objs.size,_,I1,rfl,⟨_,v,u,hv,hu,ND,rfl,rfl⟩,⟨⟨O,Bc,Q,R⟩,up _ _ D.TIz (kp _ _ D.TIz D.TITO D.TIi1 D.TIi2 d),⟨a',b',up _ _ D.TOz N⟩,Ny.1.keep λo=>up _ o D.i1z,uN.1.keep λo=>up _ o D.i2z⟩,λb g=>?_⟩;rw[aH λq:b=s.heap.objs.size=>NC (q▸g)];exact(hf b g).1
 done:=by intro X T U V G i pins s σ H E I hf st hg;subst T U V;obtain⟨B,C,hi⟩:=hg;obtain⟨⟨f0,f1,zf,j⟩,d,⟨a,c,f⟩,r,t⟩:=st;obtain⟨l,J,b1,e1⟩:=hU.items I B;obtain⟨m,L,b2,e2⟩:=hU.items I C;have M:X.A.in1.handled=none:=I.ok.hd G;have D1:=tG (prog:=X.prog) (w:=X.w) M l1 n Y n1 l.toArray;have D2:=tG (prog:=X.prog) (w:=X.w) M l2 p Z n2 m.toArray;refine zh6 D D1 D2 zf j d f ⟨r,b1⟩ ⟨t,b2⟩ (by grind) λh' tk kp=>⟨rfl,I.jR hf λb q g e=>?_⟩;exact kp b q (λq=>g (by simp[q])) (λq=>g (by simp[q])) (λq=>g (by simp[q])) (λq=>g (by simp[q])) e
 self:=λ_ _ _ _ _ st h=>by obtain⟨⟨f0,f1,_,j⟩,_⟩:=st;have ty:Shared.TypeIs _ (.ref z) "zip":=⟨_,j,rfl⟩;refine wpAny_pyIter_slot ty F.slot_zip_iter (fy F.slot_zip_iter ty F.entry_zip_iter ?_ (F.args_zip_iter_1 _));exact am ⟨_,rfl,"zip",_,ty,F.slot_zip_next.lookup,h⟩
theorem Fz:∀a b (i:Nat) {x y:D},a[i]?=some x->b[i]?=some y->(zipD a b)[i]?=some (.tuple [x,y])
 |x::a,y::b,0,_,_,c,d=>by cases c;cases d;rfl
 |x::a,y::b,i+1,_,_,c,d=>Fz a b i c d
 | [],_,i,_,_,c,_=>by simp at c
 |_::_,[],i,_,_,_,d=>by simp at d
theorem xR:∀a b,(zipD a b).length=min a.length b.length
 | [],_=>by simp[zipD]
 |_::_,[]=>by simp[zipD]
 |x::a,y::b=>by show(zipD a b).length+1=min (a.length+1) (b.length+1);rw[xR a b];omega
theorem NF {K:W.Frag}(l:nR K H B l1 t I)(b:nR K H B l2 w ws)(m:Reps K H B I c)(n:Reps K H B ws o)(D:c.length<=av):Walk K (Fx K l1 t I l2 w ws) B H (zipD c o):=by
 have E:=m.length;have F:=n.length;constructor
 ·rw[xR];omega
 ·intro g kp i h;rw[xR]at h;exact⟨l.keep kp,b.keep kp,by omega⟩
 ·intro g kp;exact⟨l.keep kp,b.keep kp,by rw[xR];omega⟩
 ·intro g kp i x G h y;obtain⟨p,v,u,A,hu,r,rfl,rfl⟩:=y;obtain⟨d,hd,C⟩:=Reps.kN m A;obtain⟨s,j,k⟩:=Reps.kN n hu;have kk:∀a q,H a=some q->(B (some a)\/Fix q)->upd g p (.tup [v,u]) a=some q:=λa q e f=>by have b:=kp a q e f;rw[aH (fZ b r)];exact b
  exact⟨Same.upd r,.tuple [d,s],Fz c o i hd j,p,[v,u],rfl,dB.of bG,Reps.cons (Rep.keep kk (λ_ z=>z) d C) (Reps.cons (Rep.keep kk (λ_ z=>z) s k) rfl)⟩
theorem zbh (l1 l2:Bool)(a1 a2:Addr)(xs ys:Array Value):Meets (Builtin.«zip.__new__» ⟨[.type "zip",.ref a1,.ref a2],[]⟩) fun _ R s=>IsB s.heap l1 a1 xs/\IsB s.heap l2 a2 ys/\
  ∀h1 h2 h3 h4 h5,h1=s.heap.push (cX l1 a1)->h2=h1.push (cX l2 a2)->h3=h2.push {cls:=.type "tuple",data:=.seq #[.ref s.heap.objs.size,.ref h1.objs.size]}->h4=h3.push {cls:=.type "tuple",data:=.seq #[.none,.none]}->h5=h4.push {cls:=.type "zip",data:=.fields #[.none,.bool false,.bool false,.ref h2.objs.size,.ref h3.objs.size]}->R (.ok (.ret (.ref h4.objs.size))) {s with heap:=h5}:=by
 rintro prog w A R s ⟨b1,b2,hR⟩
 have sub:=sub_zip;obtain⟨hp,gs,dp,tk,os⟩:=s;have c1:=b1;have c2:IsB (Shared.heap ⟨hp.push (cX l1 a1),gs,dp,tk,os⟩) l2 a2 ys:=b2.push _
 wp_walk using xP c1,xP c2
 exact hR _ _ _ _ _ rfl rfl rfl rfl rfl
theorem z92 (ht:(isTup U||isNm U)=true)(r:Inv X pins σ H1 s1)(r1:RelV y1 u1)(r2:RelV y2 u2)(I:Rep X.K H1 B y1 d1)(L:Rep X.K H1 B y2 d2)(e1:seqR d1=.ok xs)(e2:seqR d2=.ok ys)(q:∀J,Walk X.K J B H1 (zipD xs ys)->R J H1):
  wpAny (model X.prog X.w) X.A (call (.type "zip") [u1,u2]) (λv' s2=>wpAny (model X.prog X.w) X.A (pw v') (q8 X pins σ U R) X.xe s2) X.xe s1:=by
 obtain⟨l1,M,vs,rfl,V,w1,z1⟩:=nR.of I e1;obtain⟨l2,N,ws,rfl,W,w2,z2⟩:=nR.of L e2;cases r1;cases r2;obtain⟨s,_,Y,_⟩:=hU.items r (V.keep (Kp.of (Same.refl H1)));obtain⟨t,_,Z,_⟩:=hU.items r (W.keep (Kp.of (Same.refl H1)));refine callType_new F.called_zip dc (F.typeCall_zip_2 _ _) (F.newCall_zip_2 _ _) (λobj=>F.args_object_init_3 obj _ _) F.entry_zip_new (zbh l1 l2 M N s.toArray t.toArray) ⟨Y,Z,?_⟩;intro f g p l D k1 k2 k3 O k5;have c:f.objs.size=s1.heap.objs.size+1:=k1▸ly _ _;have m:g.objs.size=s1.heap.objs.size+2:=by rw[k2,ly,c]
 have n:p.objs.size=s1.heap.objs.size+3:=by rw[k3,ly,m]
 have u:l.objs.size=s1.heap.objs.size+4:=by rw[O,ly,n]
 have p1:∀b o,s1.heap.get? b=some o->f.get? b=some o:=λb o e=>by rw[k1];exact af _ e
 have p2:∀b o,f.get? b=some o->g.get? b=some o:=λb o e=>by rw[k2];exact af _ e
 have Q:∀b o,g.get? b=some o->p.get? b=some o:=λb o e=>by rw[k3];exact af _ e
 have E:∀b o,p.get? b=some o->l.get? b=some o:=λb o e=>by rw[O];exact af _ e
 have v:∀b o,l.get? b=some o->D.get? b=some o:=λb o e=>by rw[k5];exact af _ e
 have I5:Inv X pins σ H1 {s1 with heap:=D}:=r.kept λb o e=>v b o (E b o (Q b o (p2 b o (p1 b o e))));have g1:=v _ _ (E _ _ (Q _ _ (p2 _ _ (k1▸az _ rfl))));have g2:=v _ _ (E _ _ (Q _ _ (k2▸az _ rfl)));have g3:=v _ _ (E _ _ (k3▸az _ rfl));have g4:=v _ _ (O▸az _ rfl);have g5:D.get? l.objs.size=some (ZRec g.objs.size p.objs.size .none false):=k5▸az _ rfl;have G:=Y.lt;have H:=Z.lt;have Da:ZApart l.objs.size g.objs.size p.objs.size s1.heap.objs.size f.objs.size [s1.heap.objs.size,M] [f.objs.size,N]:=by have d:∀{i j:Nat},i≠j->s1.heap.objs.size+i≠s1.heap.objs.size+j:=λh z=>h (Nat.add_left_cancel z);have k:∀{j:Nat},0≠j->s1.heap.objs.size≠s1.heap.objs.size+j:=λh=>d h;have no:∀{x y z:Addr},x≠y->x≠z->x∉ [y,z]:=λf g h=>(aq.mp h).elim f λq=>g (ah.mp q);have na:∀{a:Addr} {j:Nat},a<s1.heap.objs.size->s1.heap.objs.size+j≠a:=λh z=>cx _ (bv h (z▸gb _ _));rw[c,m,n,u];exact⟨d dc,d dc,k dc,d dc,d dc,(k dc).symm,d dc,(k dc).symm,d dc,k dc,no (k dc).symm (na G),no (k dc).symm (na G),no (k dc).symm (na G),no (d dc) (na H),no (d dc) (na H),no (k dc) (na (j:=0) H)⟩
 have T:=zgc (P:=X.prog) (w:=X.w) (K:=X.K) (l1:=l1) (l2:=l2) (vs:=vs) (ws:=ws) ht Da (b9 G) (c▸b9 (Nat.lt_succ_of_lt H));have St:Fy l.objs.size g.objs.size p.objs.size s1.heap.objs.size f.objs.size l1 M l2 N 0 D:=⟨⟨.none,false,.inl rfl,g5⟩,g3,⟨_,_,g4⟩,jE.new g1,jE.new g2⟩;refine⟨⟨_,g5,rfl⟩,T.self _ 0 _ _ _ St ⟨l.objs.size,_,_,_,H1,rfl,I5,T,St,λb S=>?_,q _ (NF V W w1 w2 (kP z1))⟩⟩
 have C:s1.heap.objs.size<=b:=by
  rw[c,m,n,u]at S;simp at S;rcases S with rfl|rfl|rfl|rfl|rfl
  ·exact gb _ _
  ·exact gb _ _
  ·exact gb _ _
  ·exact ag _
  ·exact gb _ _
 exact r.iB C (r.hok.fresh C)
section
variable {fa fb:Rho->Res GD}
theorem FA:cq "enumerate"=some (.type "enumerate"):=by decide+kernel
theorem FC:cq "zip"=some (.type "zip"):=by decide+kernel
theorem Bf (hs:isStar a=false)(b:PE X a (tD X.K fa)):PA X [a] (tDA X.K λg=>fa g>>=λx=>.ok [x]):=by refine PA.imp (AL hs b EX) λh H Q ⟨g,F,z,c,e,q⟩=>⟨g,F,z,c,?_,q⟩;obtain⟨x,d,e⟩:=Res.aA e;show(fa g>>=λx=>Res.ok []>>=λf=>Res.ok (x::f))=_;rw[d];exact e
theorem FD (hs:isStar a=false)(c:isStar b=false)(d:PE X a (tD X.K fa))(f:PE X b (tD X.K fb)):PA X [a,b] (tDA X.K λk=>fa k>>=λx=>fb k>>=λy=>.ok [x,y]):=by refine PA.imp (AL hs d (Bf c f)) λl H Q ⟨k,F,z,g,e,q⟩=>⟨k,F,z,g,?_,q⟩;obtain⟨x,h,e⟩:=Res.aA e;obtain⟨y,i,e⟩:=Res.aA e;show(fa k>>=λx=>(fb k>>=λy=>Res.ok [y])>>=λj=>Res.ok (x::j))=_;rw[h,i];exact e
theorem tH {fs:Rho->Res GD}(h:(fs ρ>>=λx=>Res.ok [x])=.ok a):∃x,fs ρ=.ok x/\a=[x]:=by obtain⟨x,e,h⟩:=Res.aA h;cases h;exact⟨x,e,rfl⟩
theorem Bg {K:W.Frag}(b:StOk K F H m n)(i:mM x=true)(e:seqR x.2=.ok j)(f:Rep K k (BG F H x.1) v x.2):∃B,Rep K k B v x.2/\(∀a,B (some a)->F.O a=none)/\∀a,B a->BI F .al a:=by
 obtain⟨g,d⟩:=x;cases d<;>try (exact(gE e).elim)
 case list ds=>
  have c:g≠.al:=λz=>by subst z;cases i
  exact⟨_,f,λa h=>A3 b c h,λa h=>BI.of b.aN (BG.aN b.aN h)⟩
 case tuple ds=>
  rcases d8.mp i with c|l
  ·have c:g≠ .al:=λz=>by subst z;cases c
   exact⟨_,f,λa h=>A3 b c h,λa h=>BI.of b.aN (BG.aN b.aN h)⟩
  ·exact⟨λ_=>False,Rep.bR _ l f,λ_ h=>h.elim,λ_ h=>h.elim⟩
theorem tI (h:(fa ρ>>=λx=>fb ρ>>=λy=>Res.ok [x,y])=.ok a):∃x y,fa ρ=.ok x/\fb ρ=.ok y/\a=[x,y]:=by obtain⟨x,e,h⟩:=Res.aA h;obtain⟨y,b,h⟩:=Res.aA h;cases h;exact⟨x,y,e,b,rfl⟩
theorem NG (o:(isTup l||isNm l)=true)(hm:X.mg "zip"=none)(r:Gl X "zip")(hs:isStar a=false)(d:isStar b=false)(t:PE X a (tD X.K fa))(u:PE X b (tD X.K fb)):PI X l (.Call (.Name "zip" p) [a,b] [] W) (tDW X.K λU=>fa U>>=λx=>fb U>>=λy=>seqR x.2>>=λm=>seqR y.2>>=λn=>.ok (.al,zipD m n)):=by intro V s Z H R I h;obtain⟨U,F,w,f,e,q⟩:=h;obtain⟨x,v,e⟩:=Res.aA e;obtain⟨y,A,e⟩:=Res.aA e;obtain⟨m,B,e⟩:=Res.aA e;obtain⟨n,C,e⟩:=Res.aA e;cases e;refine Call_ (z2j I r hm FC (PyProof.Rows.callWith_type1 (aM (FD hs d t u W V s Z H (λY T=>Same H T/\eC X.K F H T Y [x,y]) I ⟨U,F,[x,y],f,by show(fa U>>=λx=>fb U>>=λy=>Res.ok [x,y])=_;rw[v,Res.aB,A];rfl,λY T s1 rs=>⟨s1,rs⟩⟩) λus s1 ⟨Y,T,D,E,G,rs⟩=>?_) (eA hs) (by rw[eA d];rfl)));obtain⟨O,P,rfl,g,i⟩:=rs.two;obtain⟨Q,S,rfl,j,k⟩:=vals2 E;have L:=(Rep.there _ g).weak (B':=λc=>bS F c/\¬nw T c) λc z=>⟨BG.aN f.aN z.1,z.2⟩;have M:=(Rep.there _ i).weak (B':=λc=>bS F c/\¬nw T c) λc z=>⟨BG.aN f.aN z.1,z.2⟩;exact z92 o D j k L M B C λJ N=>q J _ T G (λc z=>z) N
theorem Bh (B:(isTup m||isNm m)=true)(hm:X.mg "zip"=none)(C:Gl X "zip")(hs:isStar a=false)(d:isStar b=false)(D:PE X a (tD X.K fa))(E:PE X b (tD X.K fb)):PI X m (.Call (.Name "zip" p) [a,b] [] pos) (tDF X.K λρ=>(fa ρ>>=λx=>fb ρ>>=λy=>.ok [x,y])>>=λn=>kM n ρ):=by
 intro pins s σ H R I h;obtain⟨ρ,F,w,f,e,q⟩:=h;obtain⟨o,L,e⟩:=Res.aA e;obtain⟨x,y,M,N,rfl⟩:=tI L;have e:(if(mM x&&mM y)=true then(seqR x.2>>=λr=>seqR y.2>>=λo=>Res.ok (G.al,zipD r o,ρ))else Res.no)=Res.ok w:=e;split at e
 case isFalse=>cases e
 rename_i O;obtain⟨P,Q⟩:=ba.mp O;obtain⟨r,t,e⟩:=Res.aA e;obtain⟨n,u,e⟩:=Res.aA e;cases e;refine Call_ (z2j I C hm FC (PyProof.Rows.callWith_type1 (aM (FD hs d D E pos pins s σ H (λvs H1=>Same H H1/\eC X.K F H H1 vs [x,y]) I ⟨ρ,F,[x,y],f,by show(fa ρ>>=λx=>fb ρ>>=λy=>Res.ok [x,y])=_;rw[M,Res.aB,N];rfl,λvs H1 s1 rs=>⟨s1,rs⟩⟩) λus s1 ⟨vs,H1,S,T,g,rs⟩=>?_) (eA hs) (by rw[eA d];rfl)));obtain⟨Z,v2,rfl,i,j⟩:=rs.two;obtain⟨u1,u2,rfl,k,l⟩:=vals2 T;obtain⟨v,k1,k2,k3⟩:=Bg f P t i;obtain⟨A,m1,U,m3⟩:=Bg f Q u j;have V:=k1.weak (B':=λc=>v c\/A c) λc z=>.inl z;have W:=m1.weak (B':=λc=>v c\/A c) λc z=>.inr z;exact z92 B S k l V W t u λJ Y=>q J _ H1 F g Run.refl (cA.same g) (f.same g) (λc z=>z.elim (k2 c) (U c)) (λc z=>z.elim (k3 c) (m3 c)) Y
theorem NH (hm:X.mg "enumerate"=none)(g:Gl X "enumerate")(hs:isStar a=false)(i:PE X a (tD X.K fa)):PI X (.Tuple b y tp) (.Call (.Name "enumerate" p) [a] [] pos) (tDW X.K λC=>fa C>>=λx=>seqR x.2>>=λd=>.ok (.al,z17 0 d)):=by intro A s E H R I h;obtain⟨C,F,w,f,e,q⟩:=h;obtain⟨x,j,e⟩:=Res.aA e;obtain⟨d,k,e⟩:=Res.aA e;cases e;refine Call_ (z2j I g hm FA (PyProof.Rows.callWith_type1 (aM (Bf hs i pos A s E H (λD B=>Same H B/\eC X.K F H B D [x]) I ⟨C,F,[x],f,by show(fa C>>=λx=>Res.ok [x])=_;rw[j];rfl,λD B s1 rs=>⟨s1,rs⟩⟩) λG s1 ⟨D,B,l,m,n,rs⟩=>?_) (eA hs) rfl));obtain⟨v,rfl,o⟩:=rs.one;obtain⟨u,rfl,r⟩:=vals1 m;exact z70 l r (Rep.there _ o) k λJ t=>q J _ B n (λc z=>⟨BG.aN f.aN z.1,z.2⟩) t
theorem NI (hm:X.mg "enumerate"=none)(j:Gl X "enumerate")(hs:isStar a=false)(k:PE X a (tD X.K fa)):PI X (.Tuple d E tp) (.Call (.Name "enumerate" p) [a] [] O) (tDF X.K λL=>(fa L>>=λx=>.ok [x])>>=λf=>oT f L):=by
 intro M s Q H R I h;obtain⟨L,F,w,b,e,q⟩:=h;obtain⟨f,l,e⟩:=Res.aA e;obtain⟨x,m,rfl⟩:=tH l;have e:(if mM x=true then(seqR x.2>>=λg=>Res.ok (G.al,z17 0 g,L))else Res.no)=Res.ok w:=e;split at e
 case isFalse=>cases e
 rename_i n;obtain⟨g,i,e⟩:=Res.aA e;cases e;refine Call_ (z2j I j hm FA (PyProof.Rows.callWith_type1 (aM (Bf hs k O M s Q H (λP N=>Same H N/\eC X.K F H N P [x]) I ⟨L,F,[x],b,by show(fa L>>=λx=>Res.ok [x])=_;rw[m];rfl,λP N s1 rs=>⟨s1,rs⟩⟩) λS s1 ⟨P,N,o,r,c,rs⟩=>?_) (eA hs) rfl));obtain⟨v,rfl,t⟩:=rs.one;obtain⟨u,rfl,y⟩:=vals1 r;obtain⟨B,z,A,C⟩:=Bg b n i t;exact z70 o y z i λJ D=>q J B N F c Run.refl (cA.same c) (b.same c) A C D
end
abbrev qH:List Value:=[.type "ValueError",.type "Exception",.type "BaseException",.type "object"]
abbrev NJ (K:W.Frag)(C:Addr):Bool:=W.excIn K C qH "ValueError.__new__"
def gG (K:W.Frag)(C:Addr):Bool:=match K.lookup C with
 |some ⟨.type "type",_,.cls cd,sl⟩=>(match cd.mro,sl.toList with
  |.ref D::bm,[_,_,_,_,some (.builtin n),_]=>(D==C)&&(n=="ValueError.__new__")&& !cd.hasDel&&W.tailIn K qH bm&&W.nsOkIn K cd.ns
  |_,_=>false)
 |_=>false
def XC (C:Addr)(h:Heap)(bm:List Value):Prop:=∃N nm q bs hdct sn sub ab col dd k0 k1 k2 k3 k5 mN,h.get? C=some (ml nm q C N bs bm hdct sn sub ab col dd k0 k1 k2 k3 k5 "ValueError.__new__")/\h.Ns N mN/\pc h qH bm
theorem xS:(a&&b)=true->a=true/\b=true:=ba.mp
theorem vg {K:W.Frag}{C:Addr}(q:gG K C=true):∃r cd p s t u v w,K.lookup C=some ⟨.type "type",r,.cls cd,#[s,t,u,v,some (.builtin "ValueError.__new__"),w]⟩/\cd.mro=.ref C::p/\cd.hasDel=false/\W.tailIn K qH p=true/\W.nsOkIn K cd.ns=true:=by
 unfold gG at q;split at q
 ·rename_i r cd sl g;split at q
  ·rename_i A p a b c d n e hm hs;obtain⟨q,h⟩:=xS q;obtain⟨q,i⟩:=xS q;obtain⟨q,f⟩:=xS q;obtain⟨j,k⟩:=xS q;have l:=qm j;have m:=qm k;have o:sl=#[a,b,c,d,some (.builtin n),e]:=Array.toList_inj.mp (by rw[hs]);refine⟨r,cd,p,a,b,c,d,e,?_,?_,?_,i,h⟩
   ·rw[g,o,m]
   ·rw[hm,l]
   ·cases hd:cd.hasDel with
    |false=>rfl
    |true=>rw[hd]at f;cases f
  ·cases q
 ·cases q
theorem FE {K:W.Frag}{C:Addr}(a:K.lookup C=some ⟨.type "type",d,.cls cd,sl⟩)(hm:cd.mro=.ref C::c)(e:W.subIn K (.ref C) v=some b):(Value.ref C::c).contains v=b:=by
 have e:W.mroIn K C v=some b:=e;unfold W.mroIn W.clsIn at e;rw[a]at e
 dsimp at e
 rw[hm]at e;exact qg e
theorem XC.mk {K:W.Frag}{C:Addr}(X:K.In h)(q:gG K C=true):∃f,XC C h f/\∀v b,W.subIn K (.ref C) v=some b->(Value.ref C::f).contains v=b:=by
 obtain⟨g,cd,f,i,j,k,l,m,a,hm,hd,d,hk⟩:=vg q;refine⟨f,⟨cd.ns,cd.name,cd.qualname,cd.bases,cd.hasDict,cd.slotNames,cd.subclasses,cd.abstract,cd.collection,g,i,j,k,l,m,h.nsMap cd.ns,?_,.of_isNs (W.isNs_of_in X hk),W.tail_of_in X d⟩,λv b e=>FE a hm e⟩;have c:=X _ _ a;cases cd
 dsimp only at hm hd
 rw[hm,hd]at c;exact c
section
variable {M:Model}{A:e9}{E:Value->aw->Prop}{h:Heap}{g:Array pd}{d:Drawn}{t:Nat}{os:jv}{C B e:Addr}{bm xT:List Value}{oe:Obj}{Q:Bool->aw->Prop}
theorem FF (T:pc h qH l):l.contains (.type "BaseException")=true:=T.hasType rfl
theorem NK (i:XC C h bm)(j:XC B h xT)(k:h.get? e=some oe)(l:oe.cls=.ref C)(a:(Value.ref C::bm).contains (.ref B)=true)(m:Q true ⟨h,g,d,t,os⟩):wpAny M A (qa (.ref e) (.ref B)) Q E ⟨h,g,d,t,os⟩:=by
 obtain⟨_,_,_,_,_,_,_,_,_,_,_,_,_,_,_,_,n,_,_⟩:=i;obtain⟨_,_,_,_,_,_,_,_,_,_,_,_,_,_,_,_,c,_,tB⟩:=j;have b:(Value.ref B::xT).contains (.type "BaseException")=true:=by rw[ka,FF tB,pe]
 have f:=tc_notTuple
 repeat (first|(with_reducible refine bw k ?_;rw[l])|with_reducible refine bw c ?_|(with_reducible refine fq c ?_;rw[b])|(with_reducible refine fq n ?_;rw[a])|wp_step)
 exact m
end
section
variable {prog:cc}{w:World}{A:e9}{E:Value->aw->Prop}{K:W.Frag}{h:Heap}{g:Array pd}{d:Drawn}{t:Nat}{os:jv}{C e:Addr}{oe:Obj}
structure XA (K:W.Frag)(C:Addr):Prop where
 cl:W.findIn K (.ref C) "__class__"=some (some (.builtin "object.__class__"))
 ga:W.findIn K (.ref C) "__getattribute__"=some (some (.builtin "BaseException.__getattribute__"))
 gt:W.findIn K (.ref C) "__getattr__"=some none
 ob:W.subIn K (.ref C) (.type "object")=some true
 be:W.subIn K (.ref C) (.type "BaseException")=some true
 ty:W.typeIn K (.ref C)=some (.type "type")
 is:(W.clsIn K C).isSome=true
 ex:gG K C=true
theorem z71 (a:h.get? e=some oe)(b:oe.cls=.ref C):W.Looks M h (qd (.ref e)) (.ref C):=by intro A Q E s k q;refine aa (wpAny_loadPart (k _ _ a) ?_);rw[b];exact am q
theorem zua (X:K.In h)(a:XA K C)(b:h.get? e=some oe)(c:oe.cls=.ref C)(f:R (.ok (.ret (.ref C))) ⟨h,g,d,t,os⟩):
  jh (model prog w) A (.call (.builtin "getset_descriptor.__get__") ⟨[.builtin "object.__class__",.ref e,tp],[]⟩) R ⟨h,g,d,t,os⟩:=by
 have i:=z71 (M:=model prog w) b c;have l1:=W.looks_subIn (M:=model prog w) X a.ob;refine ip W.KF.slot_gs.plain W.KF.entry_gs ?_;refine W.KF.slot_gs.check _ _ _ _ _ _ _ _ W.KF.type_class (W.KF.args_gs _ _ _) ?_;refine aa (am ?_);unfold Builtin.Getset_descriptor.descrGetter Builtin.Getset_descriptor.descrCheckInstance Builtin.Getset_descriptor.descrNameAndClass kb;simp only[W.KF.owner_class]
 repeat lk
 refine⟨Code.quiet_builtin _ (by decide+kernel),?_⟩;refine codeAny_builtin W.KF.entry_class ?_;unfold Builtin.«object.__class__»;unfold shownTypeOf;repeat lk
 exact f
theorem zjw (X:K.In h)(a:XA K C)(b:h.get? e=some oe)(c:oe.cls=.ref C)(i:Q (.done (.ret (.ref C))) ⟨h,g,d,t,os⟩):
  wpAny (model prog w) A (Builtin.«object.__getattribute__» ⟨[.ref e,.str "__class__" j],[]⟩) Q E ⟨h,g,d,t,os⟩:=by
 have⟨f5,f6,f7⟩:=And.intro F.typeOf_object_class (And.intro F.slot_gs_get.lookup F.slot_gs_set.lookup);have f:=W.looks_findIn (M:=model prog w) X a.cl
 repeat (any_goals (first|assumption|(with_reducible refine bw b ?_;rw[c])|with_reducible refine f.at ?_|wp_step))
 refine zua X a b c ?_
 repeat' first|assumption|wp_step
theorem x_call {b:Tok}{R:Result->aw->Prop}(X:K.In h)(a:XA K C)(c:h.get? e=some oe)(f:oe.cls=.ref C)(i:R (.ok (.ret (.ref C))) ⟨h,g,d,t,os⟩):
  jh (model prog w) A (.call (.builtin "BaseException.__getattribute__") ⟨[.ref e,.str "__class__" b],[]⟩) R ⟨h,g,d,t,os⟩:=by
 refine ip F.excAttr_ValueError.ga.plain F.entry_bexc_ga ?_;have l1:=W.looks_subIn (M:=model prog w) X a.be;have l:=F.args_bexc_ga (.ref e) (.str "__class__" b);have j:p4 "BaseException.__getattribute__"=some .slot:=by decide+kernel
 have k:splitId "BaseException.__getattribute__"=some ("BaseException","__getattribute__"):=by decide+kernel
 simp only[jr,j,k];refine aa ?_;unfold kb
 repeat (first|(with_reducible refine zjw X a c f ?_;exact i)|(with_reducible refine bw c ?_;rw[f])|with_reducible refine l1.at ?_|wp_step)
theorem x_by (X:K.In h)(a:XA K C)(b:h.get? e=some oe)(c:oe.cls=.ref C)(f:Q (.ref C) ⟨h,g,d,t,os⟩):
  wpAny (model prog w) A (getAttrBy (.ref e) (.str "__class__" i) false) Q E ⟨h,g,d,t,os⟩:=by
 have f3:=F.excAttr_ValueError.ga.bind (.ref e);have l1:=W.looks_findIn (M:=model prog w) X a.ga;have l2:=W.looks_findIn (M:=model prog w) X a.gt
 repeat (any_goals (first|assumption|(with_reducible refine bw b ?_;rw[c])|with_reducible refine l1.at ?_|with_reducible refine l2.at ?_|wp_step))
 refine x_call X a b c ?_
 repeat' first|assumption|wp_step
theorem NL (X:K.In h)(a:XA K C)(b:h.get? e=some oe)(c:oe.cls=.ref C)(f:Q (some (.ref C)) ⟨h,g,d,t+1,os⟩):wpAny (model prog w) A (getAttr? (.ref e) "__class__") Q E ⟨h,g,d,t,os⟩:=by repeat (any_goals (first|assumption|with_reducible apply x_by X a b c|wp_step))
theorem NM (q:gG K C=true)(e:W.subIn K (.ref C) (.ref C)=some b):b=true:=by obtain⟨c,cd,d,f,g,h,i,j,a,hm,_⟩:=vg q;rw[<-FE a hm e,ka,beq_self_eq_true,Bool.true_or]
structure XV (K:W.Frag)(v:Value):Prop where
 ty:∀(M:Model) (h:Heap),K.In h->W.Looks M h (qd v) (.type "type")
 is:∀(M:Model) (h:Heap),K.In h->W.Looks M h (isType v) true
theorem z9u {D:Addr}(X:K.In h)(q:(W.clsIn K D).isSome=true):W.Looks M h (isType (.ref D)) true:=by
 unfold W.clsIn at q;split at q
 ·rename_i a;intro A Q E s k z;refine aa (p7 (k _ _ (X _ _ a)) ?_);exact am z
 ·cases q
theorem XV.own {D:Addr}(t:W.typeIn K (.ref D)=some (.type "type"))(q:(W.clsIn K D).isSome=true):XV K (.ref D):=⟨λM h X=>W.looks_typeIn X t,λM h X=>z9u X q⟩
theorem XV.val:XV K (.type "ValueError"):=⟨λM h X=>W.Looks.of_pure (by kernel_rfl),λM h X=>W.Looks.of_pure rfl⟩
theorem zvl (X:K.In h)(a:XA K C)(c:h.get? e=some oe)(f:oe.cls=.ref C)(i:XV K v)(hs:W.subIn K (.ref C) v=some b)(j:Q (.done (.ret (.bool b))) ⟨h,g,d,t,os⟩)(m:Q (.done (.ret (.bool b))) ⟨h,g,d,t+1,os⟩):
  wpAny (model prog w) A (Builtin.«isinstance.nested» ⟨[.ref e,v,.int n s],[]⟩) Q E ⟨h,g,d,t,os⟩:=by
 have k:=z71 (M:=model prog w) c f;have l1:=i.ty (model prog w) h X;have l2:=i.is (model prog w) h X;have l:=W.looks_subIn (M:=model prog w) X hs;have o:W.Looks (model prog w) h (kb (.ref e) v) b:=k.andThen l;have p:=z9u (M:=model prog w) X a.is;unfold Builtin.«isinstance.nested»;refine aa (k.at ?_);by_cases q:(Value.ref C==v)=true
 ·rw[qe q];have r:b=true:=by cases qm q;exact NM a.ex hs
  subst r;exact aa (j9 (aa (am (am j))))
 ·rw[qf q];refine aa (l1.at ?_)
  k_delta "plainIsInstance"
  refine aa (aa (l2.at ?_));refine aa (o.at ?_);cases b with
  |true=>exact am (am j)
  |false=>refine aa (NL X a c f ?_);refine aa (p.at ?_);refine aa (j9 ?_);exact l.at (am m)
theorem ztc (X:K.In s.heap)(a:XA K C)(i:s.heap.get? e=some oe)(j:oe.cls=.ref C)(k:XV K v)(hs:W.subIn K (.ref C) v=some b)(l:∀f,Q (.bool b) {s with toks:=f}):
  wpAny (model prog w) A (call (.builtin "isinstance") [.ref e,v]) Q E s:=
 call_isinstance (S:=λ_ R s=>(K.In s.heap/\s.heap.get? e=some oe)/\∀f,R (.ok (.ret (.bool b))) {s with toks:=f}) (λ_ _ _ _ s c=>isinstance_outer (by obtain⟨h,g,d,t,os⟩:=s;exact zvl c.1.1 a c.1.2 j k hs (c.2 t) (c.2 (t+1))) nofun) ⟨⟨X,i⟩,l⟩
end
theorem NO (f:Array Value->Array Value)(o:Obj):(Obj.mapFields f o).dict=o.dict:=by unfold Obj.mapFields;split<;>rfl
def TrD (h base:Heap)(e:Addr)(cls:Value)(dd:Option Addr)(fl:Value):Prop:=∃ob vs T tr ts,h.get? e=some ob/\ob.cls=cls/\ob.dict=dd/\ob.data=.fields vs/\vs[1]?=some (.ref T)/\base.get? T=none/\T≠e/\h.get? T=some tr/\tr.data=.fields ts/\ts[3]?=some fl
def FlD (base:Heap)(l:List Env)(e:Addr)(cls:Value)(dd:Option Addr)(h:Heap):Prop:=base.StaysIn h/\base.get? e=none/\h.FunFrames base l/\TrD h base e cls dd .none
def FG (base:Heap)(l:List Env)(e:Addr)(cls:Value)(dd:Option Addr)(L:Addr)(h:Heap):Prop:=base.StaysIn h/\base.get? e=none/\h.FunFrames base l/\TrD h base e cls dd (i4 L)
theorem FlD.first (x:FlD base l e cls g h):∃ob f,h.get? e=some ob/\ob.cls=cls/\ob.dict=g/\ob.data=.fields f:=by obtain⟨_,_,_,ob,f,_,_,_,a,b,c,d,_⟩:=x;exact⟨ob,f,a,b,c,d⟩
section
variable {M:Model}{A:e9}{E:Value->aw->Prop}{s:aw}{base:Heap}{env:Env}{outer:List Env}{L e:Addr}{Q:Unit->aw->Prop}{cls:Value}{dd:Option Addr}
theorem z8g (fr:A.frames=some (env::outer))(ff:s.heap.FunFrames base (env::outer))(y:env.frame=some L)(m:s.heap.get? e=some ob)(st:base.StaysIn s.heap)(be:base.get? e=none)(l:ob.data=.fields vs)(sz:1<vs.size)
  (go:∀f,base.StaysIn f->f.FunFrames base (env::outer)->TrD f base e ob.cls ob.dict (i4 L)->s.heap.UpToSlots f->Q () {s with heap:=f}):
  wpAny M A (do
   let a <-frameOf env
   let pl <-entryPlaceOf L hn
   let b <-EntryCells.newEntry head a .none (i4 L) .none pl
   setField (.ref e) 1 b) Q E s:=by
 have p:e∉(env::outer).filterMap (·.frame):=λz=>by obtain⟨_,o,q,n⟩:=ff.mem z;rw[m]at q;cases q;exact n vs l
 refine aa (wpAny_frameOf_fun fr ff y λd D=>aa (wpAny_entryPlaceOf λpl t=>?_));refine aa (fk ?_ (t.sizeOk5 _ _ _ _ _));have h:d.get? e=some ob:=D.2.1 e p▸m;have i:base.StaysIn d:=λb o q=>by rw[D.2.1 b λz=>by rw[(ff.mem z).1]at q;cases q];exact st b o q
 generalize u:({cls:=.type "traceback",dict:=none,data:=.fields ([head,.ref L,.none,i4 L,.none]++(if pl.isEmpty then bd 6 Value.none else pl)).toArray}:Obj)=j;have k:=af j h;have w:d.objs.size≠e:=λz=>absurd (bb h) (z▸cx _);refine jl k l sz (go _ ?_ ?_ ?_ ?_)
 all_goals generalize B:(λv:Array Value=>v.setIfInBounds 1 (Value.ref d.objs.size))=g
 all_goals
  have x:=Obj.data_mapFields l g;have r:=eh (Obj.mapFields g) k (Obj.isFreed_of_fields x);have C:((d.push j).update e (Obj.mapFields g)).get? d.objs.size=some j:=by rw[d6 _ _ (Ne.symm w)];exact az d (by rw[<-u];rfl)
  have keep:∀b o,b≠e->d.get? b=some o->((d.push j).update e (Obj.mapFields g)).get? b=some o:=λb o n q=>by rw[d6 _ _ (Ne.symm n)];exact af _ q
  have c:∀b o,s.heap.get? b=some o->(∀vs,o.data≠.fields vs)->b≠e:=λb o q n z=>by rw[z,m]at q;cases q;exact n vs l
 ·exact λb o q=>keep b o (λz=>by rw[z,be]at q;cases q) (i b o q)
 ·refine ff.of_keeps λb o q n=>?_;obtain⟨sl,z⟩:=D.2.2 b o q;exact⟨_,keep b _ (c b o q n) z,rfl⟩
 ·refine⟨_,_,d.objs.size,j,_,r,Obj.cls_mapFields _ _,NO _ _,x,?_,i.fresh,w,C,by rw[<-u],?_⟩
  ·rw[<-B];simp[sz]
  ·first|(simp;done)|(rcases t with rfl|⟨_,_,_,_,_,_,_,rfl⟩<;>simp)
 ·exact λb o q n=>by obtain⟨sl,z⟩:=D.2.2 b o q;exact⟨sl,keep b _ (c b o q n) z⟩
theorem zh3 (fr:A.frames=some (env::outer))(ff:s.heap.FunFrames base (env::outer))(b:env.frame=some L)(c:s.heap.get? e=some ob)(st:base.StaysIn s.heap)(be:base.get? e=none)(d:ob.data=.fields g)(f:g[1]?=some .none)
  (go:∀a,base.StaysIn a->a.FunFrames base (env::outer)->TrD a base e ob.cls ob.dict (i4 L)->s.heap.UpToSlots a->Q () {s with heap:=a}):wpAny M A (gx (.ref e) env) Q E s:=by
 unfold gx;simp only[b];refine aa (df c d f ?_);exact z8g fr ff b c st be d (e8.mp f).1 go
theorem zmz (fr:A.frames=some (env::outer))(ff:s.heap.FunFrames base (env::outer))(f:env.frame=some L)(l:TrD s.heap base e cls dd .none)(st:base.StaysIn s.heap)(be:base.get? e=none)
  (go:∀c,base.StaysIn c->c.FunFrames base (env::outer)->TrD c base e cls dd (i4 L)->s.heap.UpToSlots c->Q () {s with heap:=c}):wpAny M A (gx (.ref e) env) Q E s:=by
 obtain⟨ob,x,T,u,m,h,rfl,rfl,i,j,p,r,d,dT,k⟩:=l;unfold gx;simp only[f];refine aa (df h i j ?_);refine aa (df d dT k ?_);refine aa (jl d dT (e8.mp k).1 ?_);generalize w:(λv:Array Value=>v.setIfInBounds 3 Value.none)=g;have pA:∀b,b≠T->(s.heap.update T (Obj.mapFields g)).get? b=s.heap.get? b:=λb n=>d6 _ _ (Ne.symm n);have a:∀b o,s.heap.get? b=some o->(∀x,o.data≠.fields x)->b≠T:=λb o q n z=>by rw[z,d]at q;cases q;exact n m dT
 refine z8g fr (ff.of_keeps λb o q n=>⟨o,by rw[<-q];exact pA b (a b o q n),rfl⟩) f ((pA e (Ne.symm r)).trans h) (λb o q=>(pA b λz=>by rw[z,p]at q;cases q).trans (st b o q)) be i (e8.mp j).1 λc y B C t=>go c y B C λb o q n=>t b o ((pA b (a b o q n)).trans q) n
theorem ze1 (st:base.StaysIn s.heap)(ff:s.heap.FunFrames base l)(p:TrD s.heap base e cls dd fl)
  (go:∀c,base.StaysIn c->c.FunFrames base l->TrD c base e cls dd .none->s.heap.UpToSlots c->Q () {s with heap:=c}):wpAny M A (jc (.ref e) none) Q E s:=by
 obtain⟨ob,y,T,x,r,h,t,hd,i,j,k,m,d,dT,u⟩:=p;have sz:=(e8.mp u).1;refine aa (df h i j ?_);refine jl d dT sz ?_;generalize w:(λv:Array Value=>v.setIfInBounds 3 ((none:Option Addr).elim Value.none λf=>i4 f))=g;have pA:∀b,b≠T->(s.heap.update T (Obj.mapFields g)).get? b=s.heap.get? b:=λb n=>d6 _ _ (Ne.symm n);have a:∀b o,s.heap.get? b=some o->(∀y,o.data≠.fields y)->b≠T:=λb o q n z=>by rw[z,d]at q;cases q;exact n r dT
 refine go _ (λb o q=>(pA b λz=>by rw[z,k]at q;cases q).trans (st b o q)) (ff.of_keeps λb o q n=>⟨o,(pA b (a b o q n)).trans q,rfl⟩) ⟨ob,y,T,_,_,(pA e (Ne.symm m)).trans h,t,hd,i,j,k,m,eh _ d (Obj.isFreed_of_fields (Obj.data_mapFields dT _)),Obj.data_mapFields dT _,by rw[<-w];simp[sz]⟩ λb o q n=>⟨o.slots,(pA b (a b o q n)).trans q⟩
theorem z9d (fr:A.frames=some (env::outer))(b:env.frame=some L)(fl:FlD base (env::outer) e cls dd s.heap)
  (go:∀a,FG base (env::outer) e cls dd L a->s.heap.UpToSlots a->Q () {s with heap:=a}):wpAny M A (gx (.ref e) env) Q E s:=by
 obtain⟨f1,f2,f3,c⟩:=fl;exact zmz fr f3 b c f1 f2 λa f g h d=>go a ⟨f,f2,g,h⟩ d
theorem FH (x:FG base l e cls dd L s.heap)(go:∀a,FlD base l e cls dd a->s.heap.UpToSlots a->Q () {s with heap:=a}):wpAny M A (jc (.ref e) none) Q E s:=by obtain⟨f1,f2,f3,b⟩:=x;exact ze1 f1 f3 b λa d f g c=>go a ⟨d,f2,f,g⟩ c
theorem NP (x:FlD base l e cls dd s.heap)(go:∀a,FlD base l e cls dd a->s.heap.UpToSlots a->Q () {s with heap:=a}):wpAny M A (jc (.ref e) none) Q E s:=by obtain⟨f1,f2,f3,b⟩:=x;exact ze1 f1 f3 b λa d f g c=>go a ⟨d,f2,f,g⟩ c
theorem zhd (fr:A.frames=some (env::outer))(b:env.frame=some L)(fl:FlD base (env::outer) e cls dd s.heap)
  (go:∀a,FlD base outer e cls dd a->s.heap.UpToSlots a->Q () {s with heap:=a}):wpAny M A (p5 env (.ref e)) Q E s:=by
 refine aa (z9d fr b fl λh i c=>FH i λd j f=>?_);obtain⟨f1,f2,⟨_,_,f3⟩,g⟩:=j;exact go d ⟨f1,f2,f3,g⟩ (c.trans f)
theorem zcl (fr:A.frames=some (env::outer))(ff:s.heap.FunFrames base (env::outer))(b:env.frame=some L)(c:s.heap.get? e=some ob)(st:base.StaysIn s.heap)(be:base.get? e=none)(d:ob.data=.fields n)(f:n[1]?=some .none)
  (go:∀a,FlD base outer e ob.cls ob.dict a->s.heap.UpToSlots a->Q () {s with heap:=a}):wpAny M A (p5 env (.ref e)) Q E s:=by
 refine aa (zh3 fr ff b c st be d f λm o p q g=>ze1 o p q λh i j k l=>?_);obtain⟨_,_,f3⟩:=j;exact go h ⟨i,be,f3,k⟩ (g.trans l)
end
structure Fly (P:cc)(w:World)(base:Heap)(outer:List Env)(H:Hp)(s:aw)(C a:Addr)(H':Hp)(s':aw)(dd:Option Addr):Prop where
 os:s'.os=s.os
 bare:j5 s'.gens
 cS:∀b xs,H b=some (.tup xs)->H' b=some (.tup xs)
 cO:∀b o u,H b=some (.gO o u)->H' b=some (.gO o u)
 cT:∀b ps,H b=some (.nK ps)->∃more,H' b=some (.nK (ps++more))
 free:∀b o,s.heap.get? b=some o->H b=none->H' b=none
 hh:∃B,base.StaysIn B/\HOk P w H' B/\(∀b o,s.heap.get? b=some o->b∉frs outer->∃o',B.get? b=some o'/\(H b=none->o'=o))/\FlD B outer a (.ref C) dd s'.heap
 slot:∀b o,s.heap.get? b=some o->H b=none->b∈frs outer->∃sl,s'.heap.get? b=some {o with slots:=sl}
def CXE (P:cc)(w:World)(base:Heap):CXT:=λouter H s E e s'=>∃a C dd H',e=.ref a/\Fly P w base outer H s C a H' s' dd/\E (.ref C) dd H'
theorem NQ (x:z1y P w H h a o):∃ob,h.get? a=some ob:=by
 cases o with
 |lst c=>obtain⟨_,_,_,_,e⟩:=x;exact⟨_,e⟩
 |tup c=>obtain⟨_,_,_,_,e⟩:=x;exact⟨_,e⟩
 |dK b=>obtain⟨_,_,_,_,o,_,_,e,_⟩:=x;exact⟨_,e⟩
 |dT b=>obtain⟨_,_,_,_,o,_,_,e,_⟩:=x;exact⟨_,e⟩
 |set S n=>obtain⟨o,_,_,_,e,_⟩:=x;exact⟨_,e⟩
 |ins C f fs=>obtain⟨_,_,_,e,_⟩:=x;exact⟨_,e⟩
 |own y=>exact x
 |xd fs=>obtain⟨_,⟨_,_,_,e,_⟩,_⟩:=x;exact⟨_,e⟩
 |gO ob u=>exact⟨_,x.1⟩
 |nK ps=>exact⟨_,x⟩
 |ext d=>exact x.2.1
section
variable {P:cc}{w:World}{base:Heap}{outer:List Env}{H H':Hp}{s s':aw}{C a:Addr}{dd:Option Addr}
theorem Fly.hok (f:Fly P w base outer H s C a H' s' dd):HOk P w H' s'.heap:=by obtain⟨B,_,b,_,fl⟩:=f.hh;exact b.kept fl.1
theorem Fly.un (f:Fly P w base outer H s C a H' s' dd):Un (frs outer) [] H H' s.heap s'.heap:=by
 obtain⟨B,_,l,d,fl⟩:=f.hh;refine⟨λb o e n c _=>?_,λb o e n c _=>f.slot b o e n c,λb o e n _=>f.free b o e n,λb o e _=>?_,f.cS,f.cO,f.cT⟩
 ·obtain⟨h,g,i⟩:=d b o e c;rw[i n]at g;exact fl.1 b o g
 ·by_cases c:b∈frs outer
  ·obtain⟨_,j,k,_⟩:=fl.2.2.1.mem c;exact⟨j,k⟩
  ·obtain⟨h,g,_⟩:=d b o e c;exact⟨h,fl.1 b h g⟩
end
section
variable {X:Cx}{pins:List (Addr×Obj)}{σ:L2.St}{H H':Hp}{s s':aw}{C a:Addr}{dd:Option Addr}
theorem Fly.inv (f:Fly X.prog X.w X.base X.stack H s C a H' s' dd)(I:Inv X pins σ H s):Inv X pins σ H' s':=by obtain⟨c,g,d,t,o⟩:=s';obtain rfl:o=s.os:=f.os;exact I.call f.un f.hok f.bare λb z=>nomatch z
theorem Fly.leave {M:Model}{outer:List Env}{Q:Unit->aw->Prop}{E:Value->aw->Prop}(f:Fly X.prog X.w X.base X.stack H s C a H' s' dd)(I:Inv X pins σ H s)(hs:X.stack=X.env::X.outer)(hf:X.env.frame=some X.env.locals)(hx:X.ex=[])
  (hQ:∀rp,Fly X.prog X.w X.base X.outer X.hZ X.s₀ C a H' rp dd->Q () rp):wpAny M X.A (p5 X.env (.ref a)) Q E s':=by
 obtain⟨B,hb,hB,NR,fl⟩:=f.hh;rw[hs]at fl;have NS:X.A.frames=some (X.env::X.outer):=by rw[<-hs];exact I.ok.frames
 have u0:=I.base
 have Bi:∀b o,X.s₀.heap.get? b=some o->b∉frs X.outer->b∉frs X.stack:=λb o e hn z=>by
  rw[hs]at z;unfold frs at z hn;rw[dj,hf]at z;rcases aq.mp z with z|z
  ·exact absurd (bb e) (by rw[z];exact Nat.not_lt.mpr I.ok.above)
  ·exact hn z
 have slot:∀h',s'.heap.UpToSlots h'->∀b o,X.s₀.heap.get? b=some o->X.hZ b=none->b∈frs X.outer->∃sl,h'.get? b=some {o with slots:=sl}:=λh' up b o e n hn=>by
  have nx:b∉X.ex:=by rw[hx];simp
  obtain⟨sl,e1⟩:=I.base.slot b o e n hn nx;have NT:b∈frs X.stack:=by rw[hs];unfold frs;rw[dj,hf];exact ai _ hn
  obtain⟨FI,e2⟩:=f.slot b _ e1 (I.base.free b o e n nx) NT;obtain⟨_,o3,e3,nd⟩:=I.ok.cU.mem hn;rw[e]at e3;cases e3;obtain⟨NU,e4⟩:=up b _ e2 nd;exact⟨NU,e4⟩
 refine zhd NS hf fl λh' NV up=>hQ _ ⟨f.os.trans I.os,f.bare,λb xs e=>f.cS b xs (u0.cS b xs e),λb o u e=>f.cO b o u (u0.cO b o u e),λb ps e=>?_,λb o e n=>?_,⟨B,hb,hB,λb o e hn=>?_,NV⟩,slot h' up⟩
 ·obtain⟨m1,e1⟩:=u0.cT b ps e;obtain⟨m2,e2⟩:=f.cT b _ e1;exact⟨m1++m2,by rw[e2,nv]⟩
 ·have nx:b∉X.ex:=by rw[hx];simp
  obtain⟨o',e'⟩:=I.base.there b o e nx;exact f.free b o' e' (I.base.free b o e n nx)
 ·have nx:b∉X.ex:=by rw[hx];simp
  obtain⟨o1,e1⟩:=I.base.there b o e nx;obtain⟨o2,e2,e3⟩:=NR b o1 e1 (Bi b o e hn);refine⟨o2,e2,λn=>?_⟩;rw[e3 (I.base.free b o e n nx)];have:=I.base.keep b o e n hn nx;rw[this]at e1;cases e1;rfl
theorem NY (x:HOk P w H h)(n:∀b∈l,H b=none):HOk P w H (W.hideAll h l):=λb o e=>by
 refine(x b o e).stay (λc u a q=>W.hideAll_get _ q λz=>?_) (λ_ q=>q) λ_ _ q=>q;rcases a with rfl|a
 ·rw[n c z]at e;cases e
 ·rw[n c z]at a;cases a
theorem zdk (I:Inv X pins σ H s)(h0:X.s₀.heap.get? a=none)(r:H a=none)(t:s.heap.get? a=some ob)(u:ob.cls=.ref C)(v:ob.data=.fields N)(x:N[1]?=some .none)(hs:X.stack=X.env::X.outer)(hf:X.env.frame=some X.env.locals)(y:X.ex=[])
  (B:∀g,Fly X.prog X.w X.base X.outer X.hZ X.s₀ C a H g ob.dict->Q () g):wpAny M X.A (p5 X.env (.ref a)) Q E s:=by
 have k:X.A.frames=some (X.env::X.outer):=hs▸I.ok.frames;have nx:∀b,b∉X.ex:=λb=>by rw[y];simp
 have h:=I.stack;rw[hs]at h
 have d:∀b∈a::frs (X.env::X.outer),H b=none:=λb i=>by
  rcases aq.mp i with rfl|i
  ·exact r
  ·exact I.gQ b (hs▸i)
 have l:∀env∈X.env::X.outer,∀b,env.frame=some b->b∈a::frs (X.env::X.outer):=λenv D b i=>ai _ (j8.mpr ⟨env,D,i⟩)
 have c:∀b o,X.s₀.heap.get? b=some o->b∉frs X.outer->b∉a::frs (X.env::X.outer):=λb o e hn z=>by
  rcases aq.mp z with rfl|z
  ·rw[h0]at e;cases e
  unfold frs at z hn;rw[dj,hf]at z;rcases aq.mp z with z|z
  ·exact absurd (bb e) (z▸Nat.not_lt.mpr I.ok.above)
  ·exact hn z
 have f:=λb o e=>W.hideAll_get _ (I.bk b o e) (c b o (I.ok.bs b o e).1 (I.ok.uj e));have F:(W.hideAll s.heap (a::frs (X.env::X.outer))).get? a=none:=W.hideAll_none _ aj;refine zcl (base:=W.hideAll s.heap (a::frs (X.env::X.outer))) k (W.funFrames_hide h l) hf t (λb o q=>W.of_hideAll _ q) F v x λK fl up=>B _ ⟨I.os,I.bare,I.base.cS,I.base.cO,I.base.cT,λb o e n=>I.base.free b o e n (nx b),⟨_,f,NY I.hok d,λb o e hn=>?_,by rw[u]at fl;exact fl⟩,λb o e n hn=>?_⟩
 ·obtain⟨G,j⟩:=I.base.there b o e (nx b);refine⟨G,W.hideAll_get _ j (c b o e hn),λn=>?_⟩;rw[I.base.keep b o e n hn (nx b)]at j;cases j;rfl
 obtain⟨sl,j⟩:=I.base.slot b o e n hn (nx b);obtain⟨_,L,p,nd⟩:=I.ok.cU.mem hn;rw[e]at p;cases p;obtain⟨m,J⟩:=up b _ j nd;exact⟨m,J⟩
end
structure Lv (X:Cx)(H0:Hp)(c:Str):Prop where
 made:∀pins σ H s a C args h',Inv X pins σ H s->X.mg c=some (.ref C)->Same H0 H->ke s.heap h' a (.ref C) args->X.xe (.ref a) {s with heap:=h'}
 T2:∀pins σ H s a C H' s',Inv X pins σ H s->X.mg c=some (.ref C)->Same H0 H'->Fly X.prog X.w X.base X.stack H s C a H' s' none->X.xe (.ref a) s'
def Rz (X:Cx)(f:Rho->Option Str)(σ:L2.St)(H:Hp):Prop:=∃ρ F c,StOk X.K F H σ ρ/\f ρ=some c/\Lv X F.H0 c
def FJ (K:W.Frag)(mg:Str->Option Value)(n:Nat)(m:Fn):Sp:=λvs H _ E=>∃A ds c,vs.length=n/\Reps K H A vs ds/\excOf (m ds)=some c/\∀C H',mg c=some (.ref C)->Same H H'->E (.ref C) none H'
def jF (P:cc)(w:World)(K:W.Frag)(mg:Str->Option Value)(base:Heap)(k:Nat)(x:Str)(ps:List Str)(n:Nat)(m:Fn):Prop:=∃f fd,FnOk P w K mg base (CXE P w base) k f fd ps (FJ K mg n m)/\mg x=some (.ref f)/\W.keepIn K (.ref f)=true/\Binds K fd ps []
def jG (X:Cx)(i:Nat)(n:Str)(a:Addr)(oe:Obj):Cx:={X with A:=X.A.mark (some (.ref a)),N:=X.N.set i "",calm:=false,pn:=(a,oe)::X.pn,xe:=λ_ _=>False,fx:=some (n,.ref a)}
section
variable {X:Cx}{a:Addr}{oe:Obj}
theorem NZ (ok:X.Ok)(nd:X.N.Nodup)(f:X.N[i]?=some n)(d:X.env.scope.names.lookup ("":Str)=none)(c:X.env.scope.names.lookup n=some .local):(jG X i n a oe).Ok:=by
 refine⟨ok.mod,ok.kind,ok.glob,ok.blt,ok.above,ok.inj,ok.has,ok.qY,λz=>(by cases z),ok.frames,ok.sU,ok.fI,ok.bs,ok.lF,ok.iV,ok.iW,ok.cU,ok.oE,λx u z=>?_⟩;cases z;refine⟨λhm=>?_,c⟩;obtain⟨j,b⟩:=List.mem_iff_getElem?.mp hm;have b:(X.N.set i "")[j]?=some n:=b;by_cases e:i=j
 ·subst e;rw[cg (bg.mp f).1]at b;cases b;rw[d]at c;cases c
 ·rw[bz e]at b;exact e (wQ nd f b)
theorem znx (I:Inv X pins σ H s)(nd:X.N.Nodup)(C:X.N[i]?=some n)(l:X.env.scope.names.lookup ("":Str)=none)(f:X.env.scope.names.lookup n=some .local)(g:σ[i]?=some (some (.ref a)))
  (o:s.heap.get? a=some oe) (t:H a=none) (w:a≠X.env.locals) (y:a∉X.fs) (A:∀v,oe.data≠.cell v):Inv (jG X i n a oe) pins (σ.set i none) H s:=by
 obtain⟨m,hn,b⟩:=I.loc;refine⟨NZ I.ok nd C l f,I.os,I.bare,I.base,⟨m,hn,λj x v c d B=>?_⟩,I.cell,I.free,I.bH,λp h=>?_,I.hok,?_,λx u z=>?_⟩
 ·have c:(X.N.set i "")[j]?=some x:=c;by_cases e:i=j
  ·subst e;rw[cg (I.len▸(bg.mp C).1)]at d;cases d
  ·rw[bz e]at c d;exact b j x v c d B
 ·rcases aq.mp h with rfl|h
  ·exact⟨o,t,w,y,A⟩
  ·exact I.pin p h
 ·show(σ.set i none).length=(X.N.set i "").length;rw[c9,c9];exact I.len
 ·cases z;obtain⟨u,r,q⟩:=b i n (.ref a) C g (.inl f);cases r;rcases q with⟨_,q⟩|⟨k,_⟩
  ·exact⟨m,hn,q⟩
  ·have k:X.env.scope.names.lookup n=some .cell\/X.env.scope.names.lookup n=some .free:=k;rcases k with k|k<;>(rw[f]at k;cases k)
theorem N5 (ok:X.Ok)(f:X.fx=none)(q:X.N[i]?=some n)(I:Inv (jG X i n a oe) l o H s):Inv X l (o.set i none) H s:=by
 obtain⟨m,hn,d⟩:=I.loc;have b:o.length=(X.N.set i "").length:=I.len;rw[c9]at b;refine⟨ok,I.os,I.bare,I.base,⟨m,hn,λj x v g c h=>?_⟩,I.cell,I.free,I.bH,λp k=>I.pin p (ai _ k),I.hok,by rw[c9];exact b,λx u z=>by rw[f]at z;cases z⟩;by_cases e:i=j
 ·subst e;rw[cg (b▸(bg.mp q).1)]at c;cases c
 ·rw[bz e]at c;exact d j x v (show(X.N.set i "")[j]?=some x by rw[bz e];exact g) c h
theorem zps (I:Inv X pins σ H s)(a:X.fx=none)(nd:X.N.Nodup)(hi:X.N[i]?=some n)(t:X.env.scope.names.lookup n=some .local)(B:σ[i]?=some (some v))
  (h:∀s',Inv X pins (σ.set i none) H s'->Q () s'):wpAny M A (jy X.env n pos) Q E s:=by
 obtain⟨m,hn,f⟩:=id I.loc;have lG:=I.lG;obtain⟨u,r,q⟩:=f i n v hi B (.inl t)
 have K:m n=some u:=by
  rcases q with⟨_,q⟩|⟨k,_⟩
  ·exact q
  ·have k:X.env.scope.names.lookup n=some .cell\/X.env.scope.names.lookup n=some .free:=k;rcases k with k|k<;>(rw[t]at k;cases k)
 have g:(X.env.scope.kind==.class||(X.env.scope.kind==.module&&X.env.locals != X.env.globals))=false:=by rw[I.ok.kind];rfl
 refine ju (wpAny_unbindName_local t hn K g λY Z C hs=>h _ ?_);obtain⟨oL,_,_,L,_⟩:=id hn;have old:∀b o,X.s₀.heap.get? b=some o->b≠X.env.locals:=λb o e=>b9 (bv (bb e) I.ok.above);refine⟨I.ok,I.os,I.bare,⟨λb o e z D a=>(hs.2 b (old b o e)).trans (I.base.keep b o e z D a),λb o e z D a=>?_,I.base.free,λb o e a=>?_,I.base.cS,I.base.cO,I.base.cT⟩,⟨_,C,λj y w d l O=>?_⟩,λy c e=>?_,I.free,I.bH,λp P=>?_,λb ob e=>?_,by rw[c9];exact I.len,λx u z=>by rw[a]at z;cases z⟩
 ·obtain⟨sl,d⟩:=I.base.slot b o e z D a;exact⟨sl,(hs.2 b (old b o e)).trans d⟩
 ·obtain⟨R,d⟩:=I.base.there b o e a;exact⟨R,(hs.2 b (old b o e)).trans d⟩
 ·by_cases F:i=j
  ·subst F;rw[cg (I.len▸(bg.mp hi).1)]at l;cases l
  ·rw[bz F]at l;obtain⟨S,T,G⟩:=f j y w d l O;refine⟨S,T,?_⟩;have U:y≠n:=λz=>F (wQ nd hi (z▸d));rcases G with⟨k,G⟩|⟨k,c,e,z⟩
   ·exact .inl ⟨k,by simp only[qf U];exact G⟩
   ·exact .inr ⟨k,c,e,z.sameBut hs (lG y c e)⟩
 ·obtain⟨w,z⟩:=I.cell y c e;exact⟨w,z.sameBut hs (lG y c e)⟩
 ·obtain⟨e,V,ne,nf,dd⟩:=I.pin p P;exact⟨(hs.2 p.1 ne).trans e,V,ne,nf,dd⟩
 ·have J:∀c w,H c=some w->c≠X.env.locals:=λc w q z=>by rw[z,I.free]at q;cases q
  exact(I.hok b ob e).stay (λc w W q=>(hs.2 c (W.elim (λz=>by rw[z];exact J b _ e) λz=>J c _ z)).trans q) (λ_ q=>q) λ_ _ q=>q
theorem zew (ok:X.Ok)(m:X.fx=none)(nd:X.N.Nodup)(D:X.N[i]?=some n)(e:X.env.scope.names.lookup n=some .local)(g:∀b z,D2.nx b z->o.nx (b.set i none) z)(j:∀v z,D2.rt v z->o.rt v z)(t:∀b z,¬D2.bk b z)(w:∀b z,¬D2.ct b z)
  (h:SP (jG X i n a oe) B D2 f s):wpAny M X.A (do bindName X.env n .none;jy X.env n F) (λ_ c=>SP X B o f c) E s:=by
 have C:∀{b:L2.St} {z:Hp} {Q:Unit->aw->Prop},Inv (jG X i n a oe) B b z s->(∀c,Inv X B (b.set i none) z c->Q () c)->wpAny M X.A (do bindName X.env n .none;jy X.env n F) Q E s:=λ{b z Q} I k=>by have p:=N5 ok m D I;refine aa (wpAny_bindName (z4c p nd D (.inl e) (v:=.non) rfl (λy x _=>?_) (.inr e)));have l:i<(b.set i none).length:=p.len▸(bg.mp D).1;refine zps x m nd D e (cg l) λc d=>k c ?_;rw[pf,pf]at d;exact d
 cases f with
 |next=>obtain⟨b,z,I,q⟩:=h;exact C I λc d=>⟨_,z,d,g b z q⟩
 |ret u=>obtain⟨v,b,z,I,r,q⟩:=h;exact C I λc d=>⟨v,_,z,d,r,j v z q⟩
 |brk=>obtain⟨b,z,_,q⟩:=h;simp_all
 |cont=>obtain⟨b,z,_,q⟩:=h;simp_all
theorem FK {C:Addr}(f:Fly P w base outer H s C a c d g):c a=none:=by
 obtain⟨B,_,b,_,fl⟩:=f.hh;cases e:c a with
 |none=>rfl
 |some u=>obtain⟨o,q⟩:=NQ (b a u e);rw[fl.2.1]at q;cases q
theorem zei {C D:Addr}(inv:∀m,FlD B0 (X.env::X.outer) a (.ref C) dd m->s'.heap.UpToSlots m->Inv X pins σ H' {s' with heap:=m})(w0:FlD B0 (X.env::X.outer) a (.ref C) dd s'.heap)(H:H' a=none)(hs:X.stack=X.env::X.outer)(hf:X.env.frame=some X.env.locals)(hx:X.fx=none)(nd:X.N.Nodup)(Z:X.N[i]?=some n)(hv:X.env.scope.names.lookup ("":Str)=none)(G:X.env.scope.names.lookup n=some .local)
  (hB:X.mg B=some (.ref D)) (hm:∀(A:e9) (E:Value->aw->Prop) (Q:Bool->aw->Prop) s6 oe,X.K.In s6.heap->s6.heap.get? a=some oe->oe.cls=.ref C->Q true s6->wpAny (model X.prog X.w) A (qa (.ref a) (.ref D)) Q E s6) (I:Gl X B) (J:Ue B)
  (hQ:∀f s,SP X pins Dn f s->Q f s) (L:∀oe ws,oe.cls=.ref C->oe.dict=dd->oe.data=.fields ws->PSs (jG X i n a oe) (b0::iH) T) (q:T ⟨λc d=>Dn.nx (c.set i none) d,Dn.rt,λ_ _=>False,λ_ _=>False⟩ (σ.set i none) H'):
  wpAny (model X.prog X.w) X.A (gx (.ref a) X.env) (λ_ s2=>wpAny (model X.prog X.w) X.A (jc (.ref a) none) (λ_ s3=>wpAny (model X.prog X.w) X.A (mn (.ref a) X.env [.ExceptHandler (some (.Name B np)) (some n) (b0::iH) hp]) Q X.xe s3) X.xe s2) X.xe s':=by
 have ok:=(inv _ w0 (Heap.UpToSlots.refl _)).ok;have M:X.A.frames=some (X.env::X.outer):=hs▸ok.frames;refine z9d M hf w0 λh4 o p=>?_;refine FH o λO P r=>?_;have t:=inv O P (p.trans r);refine wpAny_handleBy_cons (codeAny_handlers_test ?_) (by intro z;cases z);refine ii t.ok.kind I (lh (t.ok.glob▸t.mod.glob.keeps t.bk) hB ?_) J;obtain⟨ob,_,R,u,_⟩:=P.first;refine hm _ _ _ _ ob t.cZ R u ?_;refine codeAny_handlers_suite_as (NP P λm w6 S=>?_);have x:=inv m w6 ((p.trans r).trans S);obtain⟨oe,ws,e,y,F,b⟩:=w6.first;refine z4c x nd Z (.inl G) (v:=.ref a) rfl (λs7 I7 ch=>?_) (.inr G);obtain⟨ad,U,V⟩:=ch;have nL:a≠X.env.locals:=λz=>by obtain⟨_,o3,l,j⟩:=x.stack.mem (by rw[hs,dj,hf];exact aj);rw[<-z]at l;rw[e]at l;cases l;exact j ws b
 have nF:a∉X.fs:=λz=>by obtain⟨_,o3,l,j⟩:=x.cU.mem z;rw[e]at l;cases l;exact j ws b
 have nA:a≠ad:=λz=>by
  rcases V with h|h
  ·exact nL (z.trans h)
  ·obtain⟨v,oc,k,g⟩:=x.cell n ad h;rw[<-z]at k;rw[e]at k;cases k;rw[b]at g;cases g
 have W:=(U.2 a nA).trans e;have Y:i<σ.length:=x.len▸(bg.mp Z).1;have I8:=znx I7 nd Z hv G (cg Y) W H nL nF (λv z=>by rw[b]at z;cases z);rw[pf]at I8;refine gk (L oe ws y F b pins s7 _ H' ⟨λc d=>Dn.nx (c.set i none) d,Dn.rt,λ_ _=>False,λ_ _=>False⟩ I8 q) (λT3 s9 h9=>?_) λ_ _ z=>z.elim;refine gk (zew (D2:=⟨λc d=>Dn.nx (c.set i none) d,Dn.rt,λ_ _=>False,λ_ _=>False⟩) ok hx nd Z G (λ_ _ z=>z) (λ_ _ z=>z) (λ_ _ z=>z) (λ_ _ z=>z) h9) (λ_ s5 O=>hQ _ s5 O) λ_ _ z=>z
theorem Fly.land {C:Addr}(I:Inv X s x t s1)(fl:Fly X.prog X.w X.base X.stack t s1 C a u v y)(d:X.base.StaysIn c)(f:HOk X.prog X.w u c)(g:∀b o,s1.heap.get? b=some o->b∉frs X.stack->∃j,c.get? b=some j/\(t b=none->j=o))(n:FlD c X.stack a (.ref C) y k)(up:v.heap.UpToSlots k):Inv X s x u {v with heap:=k}:=by refine Fly.inv ⟨fl.os,fl.bare,fl.cS,fl.cO,fl.cT,fl.free,⟨c,d,f,g,n⟩,λb o e z l=>?_⟩ I;obtain⟨sl,p⟩:=fl.slot b o e z l;obtain⟨_,r,m,h⟩:=I.stack.mem l;rw[e]at m;cases m;obtain⟨i,q⟩:=up b _ p h;exact⟨i,q⟩
theorem vh {C D:Addr}(xC:gG X.K C=true)(d:gG X.K D=true)(f:W.subIn X.K (.ref C) (.ref D)=some true)(A:e9)(E:Value->aw->Prop)(Q:Bool->aw->Prop)(b:aw)(oe:Obj)(k:X.K.In b.heap)(e:b.heap.get? a=some oe)(c:oe.cls=.ref C)(q:Q true b):wpAny (model X.prog X.w) A (qa (.ref a) (.ref D)) Q E b:=by obtain⟨g,h,i⟩:=XC.mk k xC;obtain⟨j,l,_⟩:=XC.mk k d;exact NK h l e c (i _ _ f) q
end
section
variable {X:Cx}{n x:Str}{p p1 p2 pos:Pos}{a C:Addr}{oe:Obj}{v:V}{u:Value}{b:Bool}
theorem FN (b:X.fx=some (n,.ref a))(c:X.env.scope.names.lookup n=some .local)(hd:Ue n):PE X (.Name n p) (λ_ H Q=>Q (.ref a) H):=by intro d s e H Q I h;obtain⟨m,hn,hm⟩:=I.fx n _ b;exact ny (l9 I.ok.kind c hn hm ⟨.ref a,H,I,rfl,h⟩) hd
theorem N6 (a:Gl X x)(hm:X.mg x=some u\/(X.mg x=none/\cq x=some u/\x≠"__name__"))(r:RelV v u)(hd:Ue x):PE X (.Name x p) (λ_ H Q=>Q v H):=by
 intro e s f H Q I h;rcases hm with hm|⟨b,c,d⟩
 ·exact z2m I a hm ⟨v,H,I,r,h⟩ hd
 ·exact z2j I a b c ⟨v,H,I,r,h⟩ d hd
def Xh (X:Cx)(a:Addr)(oe:Obj):Prop:=∀pins σ H s,Inv X pins σ H s->s.heap.get? a=some oe
theorem zui (hm:X.mg "isinstance"=none)(h:Gl X "isinstance")(i:X.fx=some (n,.ref a))(j:X.env.scope.names.lookup n=some .local)(hd:Ue n)(k:Xh X a oe)(l:oe.cls=.ref C)
  (c:Gl X x) (d:X.mg x=some u\/(X.mg x=none/\cq x=some u/\x≠"__name__")) (r:RelV v u) (m:∀w,RelV v w->w=u) (f:Ue x) (xa:XA X.K C) (o:XV X.K u) (hs:W.subIn X.K (.ref C) u=some b):
  PE X (.Call (.Name "isinstance" p) [.Name n p1,.Name x p2] [] pos) (tD X.K λ_=>.ok (.fr,.bool b)):=by
 intro P s T H Q I t;obtain⟨U,F,z,N,e,q⟩:=t;cases e;refine ey (z2j (u:=.builtin "isinstance") I h hm (by decide+kernel) ?_ dc dc);have y:=wZ (FN (p:=p1) i j hd) (wZ (N6 (p:=p2) c d r f) j');refine PyProof.Rows.callWith_builtin1 (aM (y pos P s T H (λS R=>S=[.ref a,v]/\R=H) I ⟨rfl,rfl⟩) λV s1 A=>?_) rfl rfl;obtain⟨S,R,g,B,rfl,rfl⟩:=A;cases B with
 |cons D rt=>
  cases rt with
  |cons E G=>cases G;rename_i J L;obtain rfl:J=Value.ref a:=D;have M:=m L E;subst M;refine ztc g.cZ xa (k _ _ _ _ g) l o hs λO=>?_;exact⟨.bl b,R,g.tok _,rfl,q _ R (Same.refl R) rfl⟩
end
section
theorem aC (h:(a&&b)=true):a=true/\b=true:=ba.mp h
theorem aP (h:(a&&b&&c)=true):a=true/\b=true/\c=true:=⟨(aC (aC h).1).1,(aC (aC h).1).2,(aC h).2⟩
theorem bJ (h:(a&&b&&c&&d)=true):a=true/\b=true/\c=true/\d=true:=⟨(aP (aC h).1).1,(aP (aC h).1).2.1,(aP (aC h).1).2.2,(aC h).2⟩
theorem eS (h:(a&&b&&c&&d&&e)=true):a=true/\b=true/\c=true/\d=true/\e=true:=⟨(bJ (aC h).1).1,(bJ (aC h).1).2.1,(bJ (aC h).1).2.2.1,(bJ (aC h).1).2.2.2,(aC h).2⟩
theorem cN (h:(!b)=true):b=false:=by cases b<;>first|rfl|cases h
theorem ff {p:Prop}(h:b=false)(z:b=true):p:=by rw[h]at z;cases z
theorem fL (h:l.isEmpty=true):l=[]:=by cases l<;>first|rfl|cases h
theorem qI (h:(!l.isEmpty)=true):∃x r,l=x::r:=by cases l<;>first|exact⟨_,_,rfl⟩|cases h
theorem aL (h:o.any f=true):∃v,o=some v/\f v=true:=by
 cases o with
 |none=>cases h
 |some v=>exact⟨v,rfl,h⟩
theorem bX {a:Type}{o:Option a}{v:a}{q:a->Prop}(h:o=some v)(d:o=none\/∃u,o=some u/\q u):q v:=by grind
theorem vi (h:An e=some v):∃p,e=.Name v p:=bX (q:=λv=>∃p,e=.Name v p) h (by cases e<;>first|exact .inl rfl|exact .inr ⟨_,rfl,_,rfl⟩)
theorem vj (h:jB e=some v):∃k p,e=.Constant v k p:=bX (q:=λv=>∃k p,e=.Constant v k p) h (by cases e<;>first|exact .inl rfl|exact .inr ⟨_,rfl,_,_,rfl⟩)
theorem FO (h:rL e=some v):∃p,e=.BinOp v.1 v.2.1 v.2.2 p:=bX (q:=λv=>∃p,e=.BinOp v.1 v.2.1 v.2.2 p) h (by cases e<;>first|exact .inl rfl|exact .inr ⟨_,rfl,_,rfl⟩)
theorem rV (h:xq e=some v):∃p,e=.UnaryOp v.1 v.2 p:=bX (q:=λv=>∃p,e=.UnaryOp v.1 v.2 p) h (by cases e<;>first|exact .inl rfl|exact .inr ⟨_,rfl,_,rfl⟩)
theorem pB (h:rM e=some v):∃p,e=.Compare v.1 v.2.1 v.2.2 p:=bX (q:=λv=>∃p,e=.Compare v.1 v.2.1 v.2.2 p) h (by cases e<;>first|exact .inl rfl|exact .inr ⟨_,rfl,_,rfl⟩)
theorem mV (h:ti e=some v):e=.BoolOp v.1 v.2.1 v.2.2:=bX (q:=λv=>e=.BoolOp v.1 v.2.1 v.2.2) h (by cases e<;>first|exact .inl rfl|exact .inr ⟨_,rfl,rfl⟩)
theorem N7 (h:uQ e=some v):∃p,e=.IfExp v.1 v.2.1 v.2.2 p:=bX (q:=λv=>∃p,e=.IfExp v.1 v.2.1 v.2.2 p) h (by cases e<;>first|exact .inl rfl|exact .inr ⟨_,rfl,_,rfl⟩)
theorem vk (h:mO e=some v):∃k p,e=.Tuple v k p:=bX (q:=λv=>∃k p,e=.Tuple v k p) h (by cases e<;>first|exact .inl rfl|exact .inr ⟨_,rfl,_,_,rfl⟩)
theorem FP (h:rN e=some v):∃p,e=.List v p:=bX (q:=λv=>∃p,e=.List v p) h (by cases e<;>first|exact .inl rfl|exact .inr ⟨_,rfl,_,rfl⟩)
theorem vm (h:Ao e=some v):∃p,e=.Dict v.1 v.2 p:=bX (q:=λv=>∃p,e=.Dict v.1 v.2 p) h (by cases e<;>first|exact .inl rfl|exact .inr ⟨_,rfl,_,rfl⟩)
theorem xU (h:mP e=some v):∃p,e=.Subscript v.1 v.2 p:=bX (q:=λv=>∃p,e=.Subscript v.1 v.2 p) h (by cases e<;>first|exact .inl rfl|exact .inr ⟨_,rfl,_,rfl⟩)
theorem N8 (h:uR e=some v):∃p,e=.Slice v.1 v.2.1 v.2.2 p:=bX (q:=λv=>∃p,e=.Slice v.1 v.2.1 v.2.2 p) h (by cases e<;>first|exact .inl rfl|exact .inr ⟨_,rfl,_,rfl⟩)
theorem vn (h:Ap e=some v):e=.Call v.1 v.2.1 v.2.2.1 v.2.2.2:=bX (q:=λv=>e=.Call v.1 v.2.1 v.2.2.1 v.2.2.2) h (by cases e<;>first|exact .inl rfl|exact .inr ⟨_,rfl,rfl⟩)
theorem mW (h:tj e=some v):e=.Attribute v.1 v.2.1 v.2.2:=bX (q:=λv=>e=.Attribute v.1 v.2.1 v.2.2) h (by cases e<;>first|exact .inl rfl|exact .inr ⟨_,rfl,rfl⟩)
theorem Bj (h:EG e=some v):∃p,e=.ListComp v.1 v.2.1 v.2.2 p:=bX (q:=λv=>∃p,e=.ListComp v.1 v.2.1 v.2.2 p) h (by cases e<;>first|exact .inl rfl|exact .inr ⟨_,rfl,_,rfl⟩)
theorem fR (h:bP l=some v):l=[v]:=by rcases l with _|⟨x,_|⟨y,l⟩⟩<;>cases h;rfl
theorem xV (h:mQ l=some v):l=[v.1,v.2]:=by rcases l with _|⟨x,_|⟨y,_|⟨z,l⟩⟩⟩<;>cases h;rfl
theorem jH (h:jC e=some v):∃q p,e=.Call (.Name v.1 q) v.2 [] p:=by
 obtain⟨u,hu,h⟩:=jd.mp h;cases hk:u.2.2.1.isEmpty with
 |false=>rw[hk]at h;simp_all
 |true=>rw[hk]at h;obtain⟨x,a,rfl⟩:=cw.mp h;obtain⟨q,b⟩:=vi a;exact⟨q,_,by rw[vn hu,b,fL hk]⟩
theorem fS (h:mR e=some v):∃a b,e=.Call (.Attribute v.1 v.2.1 a) v.2.2.1 [] b/\v.2.2.2=(a.endLine==b.line):=by
 obtain⟨u,hu,h⟩:=jd.mp h;cases hk:u.2.2.1.isEmpty with
 |false=>rw[hk]at h;simp_all
 |true=>rw[hk]at h;obtain⟨x,c,rfl⟩:=cw.mp h;exact⟨_,_,by rw[vn hu,mW c,fL hk],rfl⟩
theorem hD (h:hT f e=true):∃x p,e=.Name x p/\f x=true:=by obtain⟨x,a,h⟩:=aL h;obtain⟨p,b⟩:=vi a;exact⟨x,p,b,h⟩
def FQ (K:W.Frag)(mg:Str->Option Value)(c C:Str)(b:Bool):Prop:=∃A v u,mg c=some (.ref A)/\XA K A/\XV K u/\W.subIn K (.ref A) u=some b/\RelV v u/\(∀w,RelV v w->w=u)/\(mg C=some u\/(mg C=none/\cq C=some u/\C≠"__name__"))
def Bk (K:W.Frag)(mg:Str->Option Value)(c:Str):Prop:=∃C,mg c=some (.ref C)/\NJ K C=true
def N9 (K:W.Frag)(mg:Str->Option Value)(c B:Str):Prop:=∃C D,mg c=some (.ref C)/\mg B=some (.ref D)/\gG K C=true/\gG K D=true/\W.subIn K (.ref C) (.ref D)=some true
structure tJ (Γ:Gm)(K:W.Frag)(mg:Str->Option Value):Prop where
 sub:∀c C b,Γ.sub.contains (c,C,b)=true->FQ K mg c C b
 rs:∀c,Γ.rs.contains c=true->Bk K mg c
 fK:∀c B,Γ.fK.contains (c,B)=true->N9 K mg c B
structure Cok (Γ:Gm)(Κ:List D)(Φ:List Fn)(X:Cx)(r:Nat):Prop where
 hN:X.N=Γ.N
 hs:X.env.scope=Γ.sc
 nd:Γ.N.Nodup
 fn:Γ.blk=false->∀x,X.fn x=true
 kind:Γ.sc.kind=.function
 free:∀x,Γ.free.contains x=true->X.mg x=none
 fns:∀(j:Nat) f n,Γ.fns[j]?=some (f,n)->∃m k ps,Φ[j]?=some m/\k<=r/\Cal X.prog X.w X.K X.mg X.base k f ps (spD X.K n m)
 cst:∀(j:Nat) x,Γ.cst[j]?=some x->∃d a,Κ[j]?=some d/\X.mg x=some (.ref a)/\∀H B,B none->Rep X.K H B (.ref a) d
 kR:∀(j:Nat) f n,Γ.fns[j]?=some (f,n)->∃m k ps,Φ[j]?=some m/\k<=r/\jF X.prog X.w X.K X.mg X.base k f ps n m
 room:Γ.cm=true->Room r X.A
 calm:Γ.cm=true->X.calm=true
 hu:X.A.units+64<cLine
 mX:Γ.blk=false->X.stack=X.env::X.outer/\X.env.frame=some X.env.locals
 xW:Γ.xc=none->X.fx=none
 xc:∀n c,Γ.xc=some (n,c)->∃a oe C,X.fx=some (n,.ref a)/\Xh X a oe/\oe.cls=.ref C/\X.mg c=some (.ref C)
 xk:tJ Γ X.K X.mg
theorem Cok.gl (k:Cok a Κ Φ X r)(h:lO a x=true):Gl X x/\Ue x:=by unfold lO at h;rw[au]at h;refine⟨?_,by simpa using h.2⟩;show X.env.scope.names.lookup x=_;rw[k.hs];simpa using h.1
theorem Cok.aN (k:Cok b Κ Φ X r)(h:gZ b i x=true):X.N[i]?=some x/\Vis X.env.scope x/\Ue x/\(x==("__classdict__":Str))=false:=by
 unfold gZ at h;simp at h;have⟨⟨⟨h1,a⟩,h3⟩,h4⟩:=h;refine⟨by rw[k.hN];exact h1,?_,by simpa using h3,by simpa using h4⟩;rw[k.hs];rcases a with(a|a)|a
 ·exact .inl a
 ·exact .inr (.inl a)
 ·exact .inr (.inr a)
theorem Cok.loc (k:Cok c Κ Φ X r)(h:kO c i x=true):X.N[i]?=some x/\Loc X.env.scope x/\(X.fn x=true\/X.env.scope.names.lookup x=some .local):=by
 unfold kO at h;simp at h;obtain⟨b,a⟩:=h;refine⟨by rw[k.hN];exact b,?_,?_⟩
 ·unfold L2.Loc;rw[k.hs];rcases a with a|⟨_,a⟩
  ·exact .inl a
  ·exact .inr a
 ·rcases a with a|⟨a,_⟩
  ·exact .inr (k.hs▸a)
  ·exact .inl (k.fn a x)
theorem Cok.blt (k:Cok e Κ Φ X r)(h:dI e x=true):Gl X x/\X.mg x=none/\Ue x/\x≠"__name__":=by unfold dI at h;simp only[ba]at h;obtain⟨⟨a,b⟩,c⟩:=h;obtain⟨d,g2⟩:=k.gl a;exact⟨d,k.free x b,g2,by simpa using c⟩
theorem Oa {C:Addr}:(blk X scope a C b s H).env.scope=Am scope X.env.scope:=rfl
theorem Cok.blk (k:Cok c Κ Φ X r)(hk:scope.kind=.function)(nd:a.Nodup)(C:Addr)(b:List Addr)(s:aw)(H:Hp):Cok {c with N:=a,sc:=Am scope c.sc,blk:=true,xc:=none} Κ Φ (blk X scope a C b s H) r where
 hN:=rfl
 hs:=by rw[Oa,k.hs]
 nd:=nd
 fn:=λz=>by cases z
 kind:=hk
 free:=k.free
 fns:=k.fns
 cst:=k.cst
 kR:=k.kR
 room:=k.room
 calm:=k.calm
 hu:=k.hu
 mX:=λz=>by cases z
 xW:=λ_=>rfl
 xc:=λ_ _ z=>by cases z
 xk:=⟨k.xk.sub,k.xk.rs,k.xk.fK⟩
theorem Ob (k:Cok n Κ Φ X r)(all:List Nat):∀{m:List Expr},Aq n is m=true->PGs X m (mT X.K all is)/\(dw m X.env).length=is.length/\(dw m X.env).findIdx? (·.1)=none:=by
 induction is with
 |nil=>intro m h;cases fL h;exact⟨MA,rfl,rfl⟩
 |cons i is a=>
  intro m h;cases m with
  |nil=>cases h
  |cons e m=>
   obtain⟨h0,b⟩:=aC h;obtain⟨x,p,rfl,h0⟩:=hD h0;obtain⟨c,d,f⟩:=k.loc h0;obtain⟨g,j,l⟩:=a b;refine⟨MB (k.hN▸k.nd) c d f g,?_,?_⟩
   ·show(dw m X.env).length+1=_;rw[j];rfl
   ·show((false,nz (.Name x p) X.env)::dw m X.env).findIdx? (·.1)=none;rw[List.findIdx?_cons,l];rfl
theorem vo (k:Cok m Κ Φ X r)(h:rO m t e=true):PG X e (tDG X.K t):=by
 cases t with
 |nm i=>obtain⟨x,p,rfl,a⟩:=hD h;obtain⟨b,c,d⟩:=k.loc a;exact Mz (k.hN▸k.nd) b c d
 |tp is=>obtain⟨h0,h⟩:=aC h;obtain⟨v,f,a⟩:=aL h;obtain⟨_,_,rfl⟩:=vk f;obtain⟨g,j,l⟩:=Ob k is a;exact MC (k.calm h0) g rfl l j.symm
theorem FR (h:plainT e=true)(env:Env):∀a,pu e env a=(do let v <-a;standAt e.pos;holding [v] (truthy v)):=by
 intro a;cases e<;>first|(cases h;done)|rfl|skip
 rename_i b x p;cases b<;>first|(cases h;done)|rfl
theorem xX (h:tf e=true)(env:Env):∀x,ek e env x=pure x:=by intro x;cases e<;>first|(cases h;done)|rfl
variable (Κ:List D)(Φ:List Fn)
theorem Oc (c:C):∀n m o b,dP n c m=true->dD Κ Φ c o=.ok b->b.length=m.length/\(m.all λe=>!isStar e)=true:=by
 induction c with
 |nil=>intro n m o b h e;cases fL h;cases e;exact⟨rfl,rfl⟩
 |cons a r _ f=>
  intro n m o b h e;cases m with
  |nil=>cases h
  |cons x m=>obtain⟨g,_,i⟩:=aP h;obtain⟨y,_,e⟩:=Res.aA e;obtain⟨d,j,e⟩:=Res.aA e;cases e;obtain⟨k,l⟩:=f n m o d i j;exact⟨by rw[ay,ay,k],by rw[cj,l,g];rfl⟩
 |_=>exact λ_ _ _ _ h=>ff rfl h
end
section
theorem Od (h:tyB d T t=true):∃x p,t=.Name x p/\x=Str.ofString T/\dI d x=true/\T∈tysB:=by obtain⟨x,p,e,h⟩:=hD h;obtain⟨a,b,c⟩:=aP h;exact⟨x,p,e,qm a,b,ce.mp c⟩
theorem Oe (h:T∈tysB):cq (Str.ofString T)=some (.type T):=by simp only[tysB,aq,iz,or_false]at h;rcases h with rfl|rfl|rfl|rfl|rfl<;>decide+kernel
variable (Κ:List D)(Φ:List Fn)
theorem rW:∀{c:C} {g:List Expr},dP i c g=true->(g.all λe=>!isStar e)=true:=by
 intro c
 induction c with
 |nil=>intro g h;cases fL h;rfl
 |cons a r _ b=>
  intro g h;cases g with
  |nil=>rfl
  |cons e g=>obtain⟨d,_,f⟩:=aP h;rw[cj,b f,d];rfl
 |_=>exact λh=>ff rfl h
theorem vp (h:dP f c d=true):∀b a,dD Κ Φ c b=.ok a->a.length=d.length:=λb a e=>(Oc Κ Φ c f d b a h e).1
structure Sd (c:C):Prop where
 E:∀(Γ:Gm) (X:Cx) (r:Nat) (e:Expr),Cok Γ Κ Φ X r->chkE Γ c e=true->PE X e (tD X.K (aG Κ Φ c))
 T:∀(Γ:Gm) (X:Cx) (r:Nat) (e:Expr),Cok Γ Κ Φ X r->eQ Γ c e=true->PT X e (dQ X.K (dY Κ Φ c))/\((∃o l p,e=.BoolOp o l p)->PW X e (dQ X.K (dY Κ Φ c)))
 Q:∀(Γ:Gm) (X:Cx) (r:Nat) (l:Expr) (ops:List CmpOp) (rs:List Expr) (pos:Pos),Cok Γ Κ Φ X r->chkE Γ c (.Compare l ops rs pos)=true->PT X (.Compare l ops rs pos) (dQ X.K λρ=>aG Κ Φ c ρ>>=λx=>gD x.2)
 A:∀(Γ:Gm) (X:Cx) (r:Nat) (es:List Expr),Cok Γ Κ Φ X r->dP Γ c es=true->PA X es (tDA X.K (dD Κ Φ c))
 O:∀(Γ:Gm) (X:Cx) (r:Nat) (e:Option Expr),Cok Γ Κ Φ X r->oV Γ c e=true->PO X e (tDO X.K (rK Κ Φ c))
 W:∀(Γ:Gm) (X:Cx) (r:Nat) (e tg:Expr),Cok Γ Κ Φ X r->xu c tg=true->jD Γ c e=true->PI X tg e (tDW X.K (evW Κ Φ c))
 G:∀(Γ:Gm) (X:Cx) (r:Nat) (e:Expr),Cok Γ Κ Φ X r->rQ Γ c e=true->∃a,c=.tv a/\PE X e (tD X.K (aG Κ Φ a))
def qJ:C->Nat
 |.and _ _|.or _ _|.not _|.tv _|.nil|.cons _ _|.gV _|.enum _|.zip _ _=>2
 |.cmp _ _ _|.chain _ _ _ _ _|.mI _ _=>1
 |_=>0
variable {Κ:List D}{Φ:List Fn}{a c:C}
theorem Of (h:qJ c<2):eQ Γ c e=false:=by cases c<;>first|rfl|exact absurd h (cx 2)
theorem Og (h:qJ c<2):dP Γ c es=false:=by cases c<;>first|rfl|exact absurd h (cx 2)
theorem Oh (h:qJ c<2):oV Γ c o=false:=by cases c<;>first|rfl|exact absurd h (cx 2)
theorem Oi (h:qJ c<2):jD Γ c e=false:=by cases c<;>first|rfl|exact absurd h (cx 2)
theorem Oj (h:qJ c<2):rQ Γ c e=false:=by cases c<;>first|rfl|exact absurd h (cx 2)
theorem Sd.q (d:∀Γ X r e,Cok Γ Κ Φ X r->chkE Γ c e=true->PE X e (tD X.K (aG Κ Φ c)))(f:∀Γ X r l a rs pos,Cok Γ Κ Φ X r->chkE Γ c (.Compare l a rs pos)=true->PT X (.Compare l a rs pos) (dQ X.K λρ=>aG Κ Φ c ρ>>=λx=>gD x.2))(b:qJ c<2):Sd Κ Φ c:=⟨d,λ_ _ _ _ _ h=>ff (Of b) h,f,λ_ _ _ _ _ h=>ff (Og b) h,λ_ _ _ _ _ h=>ff (Oh b) h,λ_ _ _ _ _ _ _ h=>ff (Oi b) h,λ_ _ _ _ _ h=>ff (Oj b) h⟩
theorem Ol (h:qJ c=0):chkE Γ c (.Compare l ops rs pos)=false:=by cases c<;>first|rfl|(cases h;done)
theorem Sd.x (b:∀Γ X r e,Cok Γ Κ Φ X r->chkE Γ c e=true->PE X e (tD X.K (aG Κ Φ c)))(a:qJ c=0):Sd Κ Φ c:=Sd.q b (λ_ _ _ _ _ _ _ _ h=>ff (Ol a) h) (a▸Nat.zero_lt_two)
theorem Om:Sd Κ Φ (.var i):=Sd.x (λf X r e k h=>by obtain⟨x,p,rfl,h⟩:=hD h;obtain⟨a,b,c,d⟩:=k.aN h;exact L6 a b c d) rfl
theorem Oq:Sd Κ Φ .non:=Sd.x (λa X r e k h=>by obtain⟨_,_,rfl⟩:=vj (qj h);exact xy JC λ_ _=>rfl) rfl
theorem Bl {b:Bool}:Sd Κ Φ (.bl b):=Sd.x (λa X r e k h=>by obtain⟨_,_,rfl⟩:=vj (qj h);exact xy JB λ_ _=>rfl) rfl
theorem Ot {b:Int}:Sd Κ Φ (.int b):=Sd.x (λa X r e k h=>by obtain⟨_,_,rfl⟩:=vj (qj h);exact xy JA λ_ _=>rfl) rfl
theorem Ou {b:Str}:Sd Κ Φ (.str b):=Sd.x (λd X r e k h=>by obtain⟨a,c⟩:=aC h;obtain⟨_,_,rfl⟩:=vj (qj a);exact xy JD λ_ _=>⟨rfl,c⟩) rfl
theorem Ov:Sd Κ Φ (.glob j x):=Sd.x (λD X r e k h=>by
 obtain⟨y,p,rfl,f⟩:=hD h;obtain⟨g,i,l⟩:=aP f;cases qm g;obtain⟨m,g2⟩:=k.gl i;obtain⟨d,a,b,n,o⟩:=k.cst j _ (qm l);cases w:imm d with
 |true=>
  refine PE.imp (L7 m n g2 w o) λB H Q c=>?_
  have t:aG Κ Φ (.glob j x)=λ_=>.ok (.fr,d):=by
   funext C
   show(match Κ[j]? with|some d=>if imm d=true then Res.ok (G.fr,d)else .no|none=>.no)=_;rw[b];show(if imm d=true then Res.ok (G.fr,d)else .no)=_;rw[w];rfl
  rw[t]at c;exact c
 |false=>intro A s B H Q I u;obtain⟨C,F,z,v,e,q⟩:=u;have e:(match Κ[j]? with|some d=>if imm d=true then Res.ok (G.fr,d)else .no|none=>.no)=.ok z:=e;rw[b]at e;have e:(if imm d=true then Res.ok (G.fr,d)else .no)=.ok z:=e;rw[w]at e;cases e) rfl
theorem Ow (c:Sd Κ Φ a)(d:Sd Κ Φ b):Sd Κ Φ (.bin n a b):=Sd.x (λo X r e k h=>by obtain⟨v,f,g⟩:=aL h;obtain⟨p,rfl⟩:=FO f;obtain⟨i,j,l,m⟩:=bJ g;cases qj i;exact L8 j (c.E o X r _ k l) (d.E o X r _ k m)) rfl
theorem FT (h:chkE Γ (.cmp op a b) e=true):∃l r p,e=.Compare l [op] [r] p/\z2h op=true/\dq op r=false/\chkE Γ a l=true/\chkE Γ b r=true:=by obtain⟨⟨l,o,rs⟩,hv,h9⟩:=aL h;obtain⟨p,rfl⟩:=pB hv;obtain⟨h1,h2⟩:=aC h9;obtain⟨r,hr,h3⟩:=aL h2;cases qj h1;cases fR hr;obtain⟨h2,h3,h4,h5⟩:=bJ h3;exact⟨l,r,p,rfl,h2,cN h3,h4,h5⟩
theorem Ox (i:Sd Κ Φ a)(j:Sd Κ Φ b):Sd Κ Φ (.cmp o a b):=Sd.q (λs X r e k h=>by
 obtain⟨_,_,_,rfl,c,d,f,g⟩:=FT h;exact zvd k.hu c d (i.E s X r _ k f) (j.E s X r _ k g)) (λs X r l m rs p k h=>by
 obtain⟨_,_,_,n,c,d,f,g⟩:=FT h;cases n;exact zsg k.hu c d (i.E s X r _ k f) (j.E s X r _ k g)) mo
theorem FU (h:chkE w (.chain f d a b c) e=true):∃l m r p,e=.Compare l [f,d] [m,r] p/\z2h f=true/\z2h d=true/\li [f,d] [m,r]=false/\chkE w a l=true/\chkE w b m=true/\chkE w c r=true:=by obtain⟨⟨l,o,rs⟩,k,n⟩:=aL h;obtain⟨p,rfl⟩:=pB k;obtain⟨q,g⟩:=aC n;obtain⟨r,s,i⟩:=aL g;cases qj q;cases xV s;obtain⟨g,i,t,u,j⟩:=eS i;obtain⟨j,v⟩:=aC j;exact⟨l,r.1,r.2,p,rfl,g,i,cN t,u,j,v⟩
theorem Oy (n:Sd Κ Φ a)(o:Sd Κ Φ b)(s:Sd Κ Φ c):Sd Κ Φ (.chain w t a b c):=Sd.q (λx X r e k h=>by
 obtain⟨_,_,_,_,rfl,d,f,g,i,j,m⟩:=FU h;exact zm5 k.hu d f g (n.E x X r _ k i) (o.E x X r _ k j) (s.E x X r _ k m)) (λx X r l u rs p k h=>by
 obtain⟨_,_,_,_,v,d,f,g,i,j,m⟩:=FU h;cases v;exact zk8 k.hu d f g (n.E x X r _ k i) (o.E x X r _ k j) (s.E x X r _ k m)) mo
theorem FV (h:((rM e).any λv=>decide (v.2.1=[o])&&(bP v.2.2).any λr=>decide (jB r=some w)&&chkE n a v.1)=true):∃l k q p,e=.Compare l [o] [.Constant w k q] p/\chkE n a l=true:=by obtain⟨⟨l,o,rs⟩,b,c⟩:=aL h;obtain⟨p,rfl⟩:=pB b;obtain⟨d,f⟩:=aC c;obtain⟨r,g,i⟩:=aL f;obtain⟨j,m⟩:=aC i;cases qj d;cases fR g;obtain⟨_,_,rfl⟩:=vj (qj j);exact⟨_,_,_,_,rfl,m⟩
theorem Oz (c:Sd Κ Φ a):Sd Κ Φ (.mI g a):=Sd.q (λi X r e k h=>by
 obtain⟨_,_,_,_,rfl,b⟩:=FV h;exact Ma rfl (c.E i X r _ k b)) (λi X r l d rs p k h=>by
 obtain⟨_,_,_,_,f,b⟩:=FV h;cases f;exact xH rfl (c.E i X r _ k b)) mo
theorem vq (h:tm f g o p xs=true):(∃x y,xs=[x,y]/\f x=true/\g y=true)\/∃x y z r,xs=x::y::z::r/\f x=true/\g (.BoolOp o (y::z::r) p)=true:=by
 rcases xs with _|⟨x,_|⟨y,_|⟨z,xs⟩⟩⟩
 ·cases h
 ·cases h
 ·exact .inl ⟨x,y,rfl,(aC h).1,(aC h).2⟩
 ·exact .inr ⟨x,y,z,xs,rfl,(aC h).1,(aC h).2⟩
theorem OA (f:Sd Κ Φ a)(g:Sd Κ Φ b):Sd Κ Φ (.and a b) where
 E:=λq X r e k h=>by
  obtain⟨⟨o,n,p⟩,i,j⟩:=aL h;cases mV i;obtain⟨l,m⟩:=aC j;cases qj l;rcases vq m with⟨x,y,rfl,c,d⟩|⟨x,y,z,t,rfl,c,d⟩
  ·exact EU (f.E q X r _ k c) (DI (g.E q X r _ k d))
  ·exact EU (f.E q X r _ k c) (g.E q X r _ k d)
 T:=λq X r e k h=>by
  obtain⟨⟨o,n,p⟩,i,j⟩:=aL h;cases mV i;obtain⟨l,m⟩:=aC j;cases qj l;rcases vq m with⟨x,y,rfl,c,d⟩|⟨x,y,z,t,rfl,c,d⟩
  ·have w:=w_and (pos:=p) (f.T q X r _ k c).1 (JG (g.T q X r _ k d).1);exact⟨w.pt,λ_=>w⟩
  ·have w:=w_and (f.T q X r _ k c).1 ((g.T q X r _ k d).2 ⟨_,_,_,rfl⟩);exact⟨w.pt,λ_=>w⟩
 Q:=λ_ _ _ _ _ _ _ _ h=>ff rfl h
 A:=λ_ _ _ _ _ h=>ff rfl h
 O:=λ_ _ _ _ _ h=>ff rfl h
 W:=λ_ _ _ _ _ _ _ h=>ff rfl h
 G:=λ_ _ _ _ _ h=>ff rfl h
theorem Bm (f:Sd Κ Φ a)(g:Sd Κ Φ b):Sd Κ Φ (.or a b) where
 E:=λq X r e k h=>by
  obtain⟨⟨o,n,p⟩,i,j⟩:=aL h;cases mV i;obtain⟨l,m⟩:=aC j;cases qj l;rcases vq m with⟨x,y,rfl,c,d⟩|⟨x,y,z,t,rfl,c,d⟩
  ·exact uZ (f.E q X r _ k c) (DI (g.E q X r _ k d))
  ·exact uZ (f.E q X r _ k c) (g.E q X r _ k d)
 T:=λq X r e k h=>by
  obtain⟨⟨o,n,p⟩,i,j⟩:=aL h;cases mV i;obtain⟨l,m⟩:=aC j;cases qj l;rcases vq m with⟨x,y,rfl,c,d⟩|⟨x,y,z,t,rfl,c,d⟩
  ·have w:=w_or (pos:=p) (f.T q X r _ k c).1 (DG (g.T q X r _ k d).1);exact⟨w.pt,λ_=>w⟩
  ·have w:=w_or (f.T q X r _ k c).1 ((g.T q X r _ k d).2 ⟨_,_,_,rfl⟩);exact⟨w.pt,λ_=>w⟩
 Q:=λ_ _ _ _ _ _ _ _ h=>ff rfl h
 A:=λ_ _ _ _ _ h=>ff rfl h
 O:=λ_ _ _ _ _ h=>ff rfl h
 W:=λ_ _ _ _ _ _ _ h=>ff rfl h
 G:=λ_ _ _ _ _ h=>ff rfl h
theorem OB (g:Sd Κ Φ a):Sd Κ Φ (.not a) where
 E:=λi X r e k h=>by obtain⟨⟨o,x⟩,b,c⟩:=aL h;obtain⟨p,rfl⟩:=rV b;obtain⟨d,f⟩:=aC c;cases qj d;exact Mc (g.E i X r _ k f)
 T:=λi X r e k h=>by obtain⟨⟨o,x⟩,b,c⟩:=aL h;obtain⟨p,rfl⟩:=rV b;obtain⟨d,f⟩:=aC c;cases qj d;exact⟨tu (g.T i X r _ k f).1,λ⟨_,_,_,z⟩=>by cases z⟩
 Q:=λ_ _ _ _ _ _ _ _ h=>ff rfl h
 A:=λ_ _ _ _ _ h=>ff rfl h
 O:=λ_ _ _ _ _ h=>ff rfl h
 W:=λ_ _ _ _ _ _ _ h=>ff rfl h
 G:=λ_ _ _ _ _ h=>ff rfl h
theorem OC (h:EF e=true):∃l o r p,e=.Compare l o r p:=by cases e<;>first|exact ff rfl h|exact⟨_,_,_,_,rfl⟩
theorem Bn (c:Sd Κ Φ a):Sd Κ Φ (.tv a) where
 E:=λ_ _ _ _ _ h=>ff rfl h
 T:=λg X r e k h=>by
  obtain⟨b,d⟩:=aC h;rcases d8.mp b with b|b
  ·exact⟨Md (c.E g X r _ k d) (FR b _),λ⟨_,_,_,z⟩=>by subst z;cases b⟩
  ·obtain⟨_,_,_,_,rfl⟩:=OC b;exact⟨c.Q g X r _ _ _ _ k d,λ⟨_,_,_,z⟩=>by cases z⟩
 Q:=λ_ _ _ _ _ _ _ _ h=>ff rfl h
 A:=λ_ _ _ _ _ h=>ff rfl h
 O:=λg X r e k h=>by obtain⟨v,rfl,h⟩:=aL h;exact Mq (c.E g X r _ k h)
 W:=λg X r e f k _ h=>eR (c.E g X r _ k (aC h).2)
 G:=λg X r e k h=>⟨a,rfl,c.E g X r _ k h⟩
theorem OD (c:Sd Κ Φ a):Sd Κ Φ (.tup a):=Sd.x (λj X r e k h=>by obtain⟨v,d,f⟩:=aL h;obtain⟨_,_,rfl⟩:=vk d;obtain⟨g,b⟩:=aC f;exact Me (c.A j X r _ k b) λl i e=>by rw[vp Κ Φ b l i e];exact ED (qj g)) rfl
theorem OE (c:Sd Κ Φ a):Sd Κ Φ (.lst a):=Sd.x (λj X r e k h=>by obtain⟨v,d,f⟩:=aL h;obtain⟨_,rfl⟩:=FP d;obtain⟨g,b⟩:=aC f;exact Mf (c.A j X r _ k b) λl i e=>by rw[vp Κ Φ b l i e];exact ED (qj g)) rfl
theorem OG:Sd Κ Φ .gU:=Sd.x (λi X r e k h=>by obtain⟨⟨a,b⟩,c,d⟩:=aL h;obtain⟨_,rfl⟩:=vm c;obtain⟨f,g⟩:=aC d;cases fL f;cases fL g;exact Mh) rfl
theorem Bp (c:Sd Κ Φ a)(d:Sd Κ Φ b):Sd Κ Φ (.ix a b):=Sd.x (λm X r e k h=>by obtain⟨v,f,g⟩:=aL h;obtain⟨_,rfl⟩:=xU f;obtain⟨i,j,l⟩:=aP g;exact d_ix k.hu i (c.E m X r _ k j) (d.E m X r _ k l)) rfl
theorem Bq {t:C}(b:Sd Κ Φ a)(c:Sd Κ Φ t)(d:Sd Κ Φ v):Sd Κ Φ (.sl a t v):=Sd.x (λq X r e k h=>by obtain⟨⟨x,i⟩,f,g⟩:=aL h;obtain⟨_,rfl⟩:=xU f;obtain⟨⟨l,u,s⟩,hs,j⟩:=aL g;obtain⟨_,rfl⟩:=N8 hs;obtain⟨m,n,o,p⟩:=bJ j;cases ee.mp m;exact d_sl (b.E q X r _ k n) (c.O q X r _ k o) (d.O q X r _ k p)) rfl
theorem OH (g:Sd Κ Φ args):Sd Κ Φ (.call j f args):=Sd.x (λz X r e k h=>by
 obtain⟨⟨x,B⟩,i,l⟩:=aL h;obtain⟨_,_,rfl⟩:=jH i;obtain⟨a,n,o,b,p⟩:=eS l;obtain⟨y,B,rfl⟩:=qI p;obtain⟨h0,a⟩:=aC a;cases qm a;obtain⟨q,g2⟩:=k.gl n;obtain⟨m,kk,ps,s,t,u⟩:=k.fns j _ _ (qm o);refine PE.imp (zs5 u (k.room h0) t (g.A z X r _ k b) (rW b) q g2 (vp Κ Φ b)) λC H Q d=>?_
 have v:aG Κ Φ (.call j x args)=λw=>dD Κ Φ args w>>=λc=>m (c.map (·.2))>>=λr=>.ok (gJ r.2 (iP r.1),r.2):=by
  funext w
  show(dD Κ Φ args w>>=λc=>match Φ[j]? with|some m=>m (c.map (·.2))>>=λr=>.ok (gJ r.2 (iP r.1),r.2)|none=>.no)=_;rw[s]
 rw[v]at d;exact d) rfl
theorem Br (l:Sd Κ Φ args):Sd Κ Φ (.bi f args):=Sd.x (λs X r e k h=>by
 obtain⟨⟨x,t⟩,m,n⟩:=aL h;obtain⟨_,_,rfl⟩:=jH m;obtain⟨a,o,c,b,p⟩:=eS n;obtain⟨y,t,rfl⟩:=qI p;have a:=qm a;obtain⟨d,g2,g,i⟩:=k.blt o;obtain⟨c,q⟩:=aC c;have hf:=ce.mp c;have j:=l.A s X r _ k b;simp at hf;rcases hf with rfl|rfl|rfl
 ·exact d_cB E2 g2 (by rw[a];decide+kernel) j (rW b) d i g
 ·exact znw Ng g2 (by rw[a];decide+kernel) j (rW b) d i g
 ·exact znw Ni g2 (by rw[a];decide+kernel) j (rW b) d i g) rfl
theorem OI (m:Sd Κ Φ a):Sd Κ Φ (.mJ f a):=Sd.x (λn X r e k h=>by
 obtain⟨⟨x,A⟩,o,p⟩:=aL h;obtain⟨_,_,rfl⟩:=jH o;obtain⟨q,s,c,t⟩:=bJ p;obtain⟨y,u,v⟩:=aL t;obtain⟨w,z⟩:=aC v;cases fR u;have d:=qm q;obtain⟨g,g2,i,j⟩:=k.blt s;obtain⟨a,rfl,l⟩:=m.G n X r _ k z;have k7:=cN w;obtain⟨c,b⟩:=aC c;have hf:=ce.mp c;simp only[uU,aq,iz,or_false]at hf;rcases hf with rfl|rfl|rfl
 ·exact zqq Nb g2 (by rw[d];decide+kernel) k7 l g j i
 ·exact zj9 (Nc (k.calm b)) g2 (by rw[d];decide+kernel) k7 l g j i
 ·exact zj9 (Nf (k.calm b)) g2 (by rw[d];decide+kernel) k7 l g j i) rfl
theorem OJ (c:Sd Κ Φ a):Sd Κ Φ (.eP a A):=Sd.x (λF X r e k h=>by obtain⟨⟨x,I⟩,d,f⟩:=aL h;obtain⟨_,_,rfl⟩:=jH d;obtain⟨g,i,j⟩:=aP f;obtain⟨⟨y,t⟩,l,G⟩:=aL j;obtain⟨m,n,H⟩:=aP G;obtain⟨T,o,p⟩:=aL H;cases xV l;cases fR o;cases qm g;obtain⟨q,g2,B,C⟩:=k.blt i;obtain⟨D,p2,rfl,rfl,s,b⟩:=Od p;obtain⟨u,v,w,z⟩:=k.blt s;exact zug g2 q v (Oe b) u z w b (cN m) (c.E F X r _ k n)) rfl
theorem Bs (d:Sd Κ Φ a)(f:Sd Κ Φ args):Sd Κ Φ (.mt m a args):=Sd.x (λD X r e k h=>by
 obtain⟨⟨x,n,G,b⟩,g,i⟩:=aL h;obtain⟨B,C,rfl,j⟩:=fS g;obtain⟨h0,l,c,o⟩:=bJ i;obtain⟨p,q,s,t,u⟩:=eS h0;obtain⟨y,G,rfl⟩:=qI o;cases qm p;have v:=j.symm.trans t;have w:=d.E D X r _ k l;have z:=f.A D X r _ k c;have hm:=ce.mp q;simp at hm;rcases hm with rfl
 ·exact d_mt PySem.F.plainAttrs_str PySem.F.slot_str_join PySem.F.type_str_join ML (λ_ _ _ _ _ _ r e=>MM r e) w z s (rW c) (qj u) v) rfl
theorem OK (ic:Sd Κ Φ c)(k:Cok Γ Κ Φ X n)(h:uS (uT c) (λt=>eQ Γ c t) ifs=true):qz X ifs (dQ X.K (dY Κ Φ c)):=by
 cases ifs with
 |nil=>
  have:c=.nil:=by cases c<;>first|exact ff rfl h|rfl
  subst this;refine λpins s σ H Q I q=>Lc pins s σ H Q I ?_;obtain⟨ρ,F,b,so,e,q⟩:=q;cases e;exact q H (Same.refl H)
 |cons t r=>obtain⟨h1,h2⟩:=aC h;cases fL h1;exact Ld (ic.T Γ X n t k h2).1
theorem sC {c:C}(z:Sd Κ Φ q)(A:Sd Κ Φ c)(B:Sd Κ Φ f)(k:Cok N Κ Φ X r)(h:chkE N (.comp u O j v q c f) e=true):
  ∃l t i d a pos,e=.ListComp l [⟨t,i,d,0⟩] a pos/\BlkScope X a j u O/\(∀i∈tgIx v,i<u)/\PI X t i (tDW X.K (evW Κ Φ q))/\(∀C b s H,PG (blk X a j C b s H) t (tDG X.K v))/\(∀C b s H,qz (blk X a j C b s H) d (dQ X.K (dY Κ Φ c)))/\(∀C b s H,PE (blk X a j C b s H) l (tD X.K (aG Κ Φ f)))/\(∀x,ek i X.env x=pure x)/\N.cm=true:=by
 obtain⟨⟨l,Q,a⟩,D,g⟩:=aL h;obtain⟨pos,rfl⟩:=Bj D;obtain⟨⟨t,i,d,kk⟩,F,g⟩:=aL g;cases fR F;obtain⟨h0,w,G,I,g⟩:=eS g;obtain⟨m,n,J,L,M⟩:=eS h0;obtain⟨o,m⟩:=aC m;cases qm m;have n:=bj.mp n;have y:=K' k.hN k.hs J;have p:=λC b s H=>k.blk y.kind (qj M) C b s H;exact⟨l,t,i,d,a,pos,rfl,y,λi P=>qj (n i P),z.W N X r _ t k (aC w).2 G,λC b s H=>vo (p C b s H) (aC w).1,λC b s H=>OK A (p C b s H) I,λC b s H=>B.E _ _ r _ (p C b s H) g,xX L _,o⟩
theorem OL {a:C}(f:Sd Κ Φ g)(j:Sd Κ Φ a)(l:Sd Κ Φ b):Sd Κ Φ (.comp u v w y g a b):=Sd.x (λD X r e k h=>by obtain⟨z,t,i,m,c,A,rfl,n,o,B,p,q,s,hs,d⟩:=sC f j l k h;exact(zil (k.calm d) n o B p q s hs).1) rfl
theorem OM (c:Sd Κ Φ a)(d:Sd Κ Φ b):Sd Κ Φ (.qC a b):=Sd.x (λA X r e k h=>by obtain⟨⟨x,n,B,v⟩,f,g⟩:=aL h;obtain⟨w,z,rfl,i⟩:=fS f;obtain⟨h0,j,l⟩:=aP g;obtain⟨m,o,p⟩:=aP h0;obtain⟨y,q,s⟩:=aL l;cases fR q;obtain⟨t,u⟩:=aC s;cases qm m;exact zux (c.E A X r _ k j) (d.E A X r _ k u) o (cN t) (i.symm.trans p)) rfl
theorem ON {b:Bool}:Sd Κ Φ (.gC b x):=Sd.x (λΓ X r e k h=>by obtain⟨⟨f,es⟩,j,l⟩:=aL h;obtain⟨_,_,rfl⟩:=jH j;obtain⟨m,o,p⟩:=aP l;obtain⟨⟨S,T⟩,q,s⟩:=aL p;cases xV q;obtain⟨⟨n,c⟩,t,w⟩:=aL s;obtain⟨d,g⟩:=aC w;obtain⟨U,p1,hn,d⟩:=hD d;obtain⟨C,p2,y,g⟩:=hD g;cases hn;cases y;obtain⟨z,B,D,V⟩:=bJ d;obtain⟨E,F,G⟩:=aP g;cases qm m;cases qm z;cases qm E;obtain⟨H,g2,W,Y⟩:=k.blt o;obtain⟨I,J⟩:=k.gl F;obtain⟨a,oe,Z,K,L,M,i⟩:=k.xc n c t;obtain⟨A,v,u,m1,xa,N,O,P,Q,R⟩:=k.xk.sub c x b G;rw[m1]at i;cases i;exact zui g2 H K (k.hs▸qm B) (cN D) L M I R P Q J xa N O) rfl
theorem OO:Sd Κ Φ .nil where
 E:=λ_ _ _ _ _ h=>ff rfl h
 T:=λ_ _ _ _ _ h=>ff rfl h
 Q:=λ_ _ _ _ _ _ _ _ h=>ff rfl h
 A:=λa X r b k h=>by cases fL h;exact EX
 O:=λa X r e k h=>by cases ee.mp h;exact lQ
 W:=λ_ _ _ _ _ _ _ h=>ff rfl h
 G:=λ_ _ _ _ _ h=>ff rfl h
theorem OP (c:Sd Κ Φ a)(d:Sd Κ Φ b):Sd Κ Φ (.cons a b) where
 E:=λ_ _ _ _ _ h=>ff rfl h
 T:=λ_ _ _ _ _ h=>ff rfl h
 Q:=λ_ _ _ _ _ _ _ _ h=>ff rfl h
 A:=λj X r l k h=>by
  cases l with
  |nil=>cases h
  |cons e l=>obtain⟨f,g,i⟩:=aP h;exact AL (cN f) (c.E j X r _ k g) (d.A j X r _ k i)
 O:=λ_ _ _ _ _ h=>ff rfl h
 W:=λ_ _ _ _ _ _ _ h=>ff rfl h
 G:=λ_ _ _ _ _ h=>ff rfl h
theorem OQ (d:Sd Κ Φ a):Sd Κ Φ (.gV a) where
 E:=λ_ _ _ _ _ h=>ff rfl h
 T:=λ_ _ _ _ _ h=>ff rfl h
 Q:=λ_ _ _ _ _ _ _ _ h=>ff rfl h
 A:=λ_ _ _ _ _ h=>ff rfl h
 O:=λ_ _ _ _ _ h=>ff rfl h
 W:=λs X r e n k _ h=>by
  obtain⟨⟨x,q⟩,f,g⟩:=aL h;obtain⟨_,_,rfl⟩:=jH f;obtain⟨i,j,b,c⟩:=bJ g;obtain⟨c,l⟩:=aC c;cases qm i;obtain⟨m,g2,o,p⟩:=k.blt j;rcases q with _|⟨x,_|⟨y,q⟩⟩
  ·cases c
  ·exact My g2 m (cN ((bj.mp (rW b)) x (.head _))) (d.A s X r _ k b) (vp Κ Φ b)
  ·exact absurd (qj l) (Nat.not_le.mpr (Nat.succ_lt_succ (Nat.succ_pos _)))
 G:=λ_ _ _ _ _ h=>ff rfl h
theorem FW (h:isTup e=true):∃a b c,e=.Tuple a b c:=by cases e<;>first|exact ff rfl h|exact⟨_,_,_,rfl⟩
theorem FY (h:jD j (.enum a) e=true):∃y q p,e=.Call (.Name "enumerate" q) [y] [] p/\dI j "enumerate"=true/\isStar y=false/\chkE j a y=true:=by obtain⟨⟨x,k⟩,c,d⟩:=aL h;obtain⟨q,p,rfl⟩:=jH c;obtain⟨f,g,b⟩:=aP d;obtain⟨y,i,b⟩:=aL b;cases fR i;cases qm f;exact⟨y,q,p,rfl,g,cN (aC b).1,(aC b).2⟩
theorem FZ (h:jD n (.zip a b) e=true):∃y z q p,e=.Call (.Name "zip" q) [y,z] [] p/\dI n "zip"=true/\isStar y=false/\isStar z=false/\chkE n a y=true/\chkE n b z=true:=by obtain⟨⟨x,o⟩,f,g⟩:=aL h;obtain⟨q,p,rfl⟩:=jH f;obtain⟨i,j,c⟩:=aP g;obtain⟨⟨y,z⟩,k,c⟩:=aL c;cases xV k;cases qm i;obtain⟨d,l,m⟩:=aP c;exact⟨y,z,q,p,rfl,j,cN (aC d).1,cN (aC d).2,l,m⟩
theorem OR (b:Sd Κ Φ a):Sd Κ Φ (.enum a) where
 E:=λ_ _ _ _ _ h=>ff rfl h
 T:=λ_ _ _ _ _ h=>ff rfl h
 Q:=λ_ _ _ _ _ _ _ _ h=>ff rfl h
 A:=λ_ _ _ _ _ h=>ff rfl h
 O:=λ_ _ _ _ _ h=>ff rfl h
 W:=λn X r e j k c h=>by obtain⟨y,q,p,rfl,d,f,g⟩:=FY h;obtain⟨_,_,_,rfl⟩:=FW c;obtain⟨i,g2,l,m⟩:=k.blt d;exact NH g2 i f (b.E n X r _ k g)
 G:=λ_ _ _ _ _ h=>ff rfl h
theorem OS (c:Sd Κ Φ a)(d:Sd Κ Φ b):Sd Κ Φ (.zip a b) where
 E:=λ_ _ _ _ _ h=>ff rfl h
 T:=λ_ _ _ _ _ h=>ff rfl h
 Q:=λ_ _ _ _ _ _ _ _ h=>ff rfl h
 A:=λ_ _ _ _ _ h=>ff rfl h
 O:=λ_ _ _ _ _ h=>ff rfl h
 W:=λu X r e o k f h=>by obtain⟨y,z,q,p,rfl,g,i,j,l,m⟩:=FZ h;obtain⟨n,g2,s,t⟩:=k.blt g;exact NG f g2 n i j (c.E u X r _ k l) (d.E u X r _ k m)
 G:=λ_ _ _ _ _ h=>ff rfl h
theorem all (c:C):Sd Κ Φ c:=by
 induction c with
 |var=>exact Om
 |non=>exact Oq
 |bl=>exact Bl
 |int=>exact Ot
 |str=>exact Ou
 |glob=>exact Ov
 |bin _ _ _ a b=>exact Ow a b
 |cmp _ _ _ a b=>exact Ox a b
 |chain _ _ _ _ _ a b d=>exact Oy a b d
 |mI _ _ a=>exact Oz a
 |and _ _ a b=>exact OA a b
 |or _ _ a b=>exact Bm a b
 |not _ a=>exact OB a
 |tup _ a=>exact OD a
 |lst _ a=>exact OE a
 |gU=>exact OG
 |ix _ _ a b=>exact Bp a b
 |sl _ _ _ a b d=>exact Bq a b d
 |call _ _ _ a=>exact OH a
 |bi _ _ a=>exact Br a
 |mJ _ _ a=>exact OI a
 |eP _ _ a=>exact OJ a
 |mt _ _ _ a b=>exact Bs a b
 |comp _ _ _ _ _ _ _ a b d=>exact OL a b d
 |qC _ _ a b=>exact OM a b
 |gV _ a=>exact OQ a
 |enum _ a=>exact OR a
 |zip _ _ a b=>exact OS a b
 |tv _ a=>exact Bn a
 |gC=>exact ON
 |nil=>exact OO
 |cons _ _ a b=>exact OP a b
end
section
variable (Κ:List D)(Φ:List Fn)
theorem F6:iu (.ListComp a b s p) (some (.Name t px)) n env=pure (env.blockKind==.function&&env.kindOf t==some .local&&px.line==p.line&& !(s.names.any λ(n,k)=>n==t&&(k==.local||k==.cell))):=rfl
theorem OT (hn:rR c=false)(h:chkE k c (.ListComp j l s p)=true):∃d e f g i a b,c=.comp d e f g i a b:=by cases c<;>first|exact ff rfl h|exact⟨_,_,_,_,_,_,_,rfl⟩|(cases hn;done)
theorem OU (h:chkE b c (.SetComp a d s p)=true):False:=by cases c<;>exact ff rfl h
theorem OV (h:chkE d c (.DictComp b a e s p)=true):False:=by cases c<;>exact ff rfl h
theorem Bt (k:Cok R Κ Φ X r)(A:kO R i x=true)(hn:rR c=false)(a:chkE R c v=true):PS X (.Assign [.Name x px] v pos) (tDS X.K λT=>aG Κ Φ c T>>=λx=>.ok (.nx (T.set i (some (z1u x))))):=by
 obtain⟨l1,l2,j⟩:=k.loc A;have nd:X.N.Nodup:=k.hN▸k.nd;cases l:nO v with
 |false=>exact zs7 nd l1 l2 j (rC l _ _ _) ((all c).E R X r _ k a)
 |true=>
  cases v<;>first|(cases l;done)|skip
  ·rename_i I V s p;cases f:(X.env.blockKind==.function&&X.env.kindOf x==some .local&&px.line==p.line&& !(s.names.any λ(n,k)=>n==x&&(k==.local||k==.cell)))with
   |false=>exact zs7 nd l1 l2 j (by rw[F6,f]) ((all c).E R X r _ k a)
   |true=>
    obtain⟨J,L,M,O,B,b,g,rfl⟩:=OT hn a;obtain⟨C,t,P,F,h,m,e,o,h0,U,u,w,y,hs,d⟩:=sC (all B) (all b) (all g) k a;cases e;have G:X.env.scope.names.lookup x=some .local:=by simp at f;exact f.1.1.2
    refine PS.imp (zhl (k.calm d) nd l1 G o U u w y (by rw[F6,f]) hs) λD S H q=>?_;exact Fh (λS H Q z=>(zil (pos:=p) (k.calm d) o h0 U u w y hs).2 S H Q z) D S H q
  ·exact(OU a).elim
  ·exact(OV a).elim
theorem OW (k:Cok L Κ Φ X r)(hh:uV L c o f=true):PI X o f (tDF X.K (evF Κ Φ c))/\tf f=true:=by
 obtain⟨g,h⟩:=aC hh;have s:=(all c).W L X r f o k g h;cases c with
 |tv a=>
  have d:=PI.Fl (k:=λJ=>iE Κ Φ (.tv a) J) (A4 ((all a).E L X r _ k (aC h).2)) (Fj s);refine⟨?_,(aC h).1⟩;cases a with
  |var i=>obtain⟨x,p,rfl,e⟩:=hD (aC h).2;obtain⟨t,u,w,A⟩:=k.aN e;exact PI.Fl (M6 t u w A) d
  |_=>exact d
 |enum a=>obtain⟨y,q,p,rfl,e,j,l⟩:=FY h;obtain⟨_,_,_,rfl⟩:=FW g;obtain⟨m,g2,B,C⟩:=k.blt e;exact⟨NI g2 m j ((all a).E L X r _ k l),rfl⟩
 |zip a b=>
  obtain⟨y,z,q,p,rfl,e,j,l,D,F⟩:=FZ h;obtain⟨m,g2,B,C⟩:=k.blt e
  have G:evF Κ Φ (.zip a b)=λJ=>(aG Κ Φ a J>>=λx=>aG Κ Φ b J>>=λy=>Res.ok [x,y])>>=λn=>kM n J:=by
   funext J
   show((aG Κ Φ a J>>=λx=>(aG Κ Φ b J>>=λy=>Res.ok [y])>>=λH=>Res.ok (x::H))>>=λn=>kM n J)=_;cases aG Κ Φ a J with
   |ok x=>cases aG Κ Φ b J<;>rfl
   |exc=>rfl
   |no=>rfl
  rw[G];exact⟨Bh g g2 m j l ((all a).E L X r _ k D) ((all b).E L X r _ k F),rfl⟩
 |gV a=>refine⟨Fj s,?_⟩;obtain⟨v,I,_⟩:=aL h;obtain⟨_,_,rfl⟩:=jH I;rfl
 |_=>exact ff rfl h
theorem OX (h:isTup v=false):nk [.Tuple a b c] v env=pure none:=by cases v<;>first|rfl|(cases h;done)
theorem kS (h:rS s=some v):∃p,s=.Assign v.1 v.2 p:=bX (q:=λv=>∃p,s=.Assign v.1 v.2 p) h (by cases s<;>first|exact .inl rfl|exact .inr ⟨_,rfl,_,rfl⟩)
theorem pC (h:uW s=some v):∃p,s=.Expr v p:=bX (q:=λv=>∃p,s=.Expr v p) h (by cases s<;>first|exact .inl rfl|exact .inr ⟨_,rfl,_,rfl⟩)
theorem vr (h:Aw s=some v):∃p,s=.Return v p:=bX (q:=λv=>∃p,s=.Return v p) h (by cases s<;>first|exact .inl rfl|exact .inr ⟨_,rfl,_,rfl⟩)
theorem vt (h:Ax s=some v):∃p,s=.If v.1 v.2.1 v.2.2 p:=bX (q:=λv=>∃p,s=.If v.1 v.2.1 v.2.2 p) h (by cases s<;>first|exact .inl rfl|exact .inr ⟨_,rfl,_,rfl⟩)
theorem rX (h:xv s=some v):∃p,s=.For v.1 v.2.1 v.2.2.1 v.2.2.2 p:=bX (q:=λv=>∃p,s=.For v.1 v.2.1 v.2.2.1 v.2.2.2 p) h (by cases s<;>first|exact .inl rfl|exact .inr ⟨_,rfl,_,rfl⟩)
theorem vx (h:Ay s=some v):∃p,s=.While v.1 v.2.1 v.2.2 p:=bX (q:=λv=>∃p,s=.While v.1 v.2.1 v.2.2 p) h (by cases s<;>first|exact .inl rfl|exact .inr ⟨_,rfl,_,rfl⟩)
theorem Bu (h:EH s=some v):(v=0/\∃p,s=.Pass p)\/(v=1/\∃p,s=.Break p)\/(v=2/\∃p,s=.Continue p):=bX (q:=λv=>(v=0/\∃p,s=.Pass p)\/(v=1/\∃p,s=.Break p)\/(v=2/\∃p,s=.Continue p)) h (by cases s<;>first|exact .inl rfl|exact .inr ⟨_,rfl,.inl ⟨rfl,_,rfl⟩⟩|exact .inr ⟨_,rfl,.inr (.inl ⟨rfl,_,rfl⟩)⟩|exact .inr ⟨_,rfl,.inr (.inr ⟨rfl,_,rfl⟩)⟩)
structure Ss (s:S):Prop where
 R:∀(Γ:Gm) (X:Cx) (r:Nat) (st:Stmt),Cok Γ Κ Φ X r->ej (model X.prog X.w) X.A X.env X.xe->oW Γ s st=true->PS X st (tDS X.K (aK Κ Φ s))
 L:∀(Γ:Gm) (X:Cx) (r:Nat) (st:List Stmt),Cok Γ Κ Φ X r->ej (model X.prog X.w) X.A X.env X.xe->chkL Γ s st=true->PSs X st (tDS X.K (aK Κ Φ s))
def Bv:S->Bool
 |.nil=>false
 |.seq _ _=>false
 |_=>true
variable {Κ:List D}{Φ:List Fn}
theorem Ss.x (h:∀Γ X r st,Cok Γ Κ Φ X r->ej (model X.prog X.w) X.A X.env X.xe->oW Γ s st=true->PS X st (tDS X.K (aK Κ Φ s)))(a:Bv s=true):Ss Κ Φ s:=⟨h,by cases s<;>first|(cases a;done)|exact λ_ _ _ _ _ _ h=>ff rfl h⟩
theorem OY:Ss Κ Φ (.asg t e):=Ss.x (λu X r st k o h=>by
 obtain⟨⟨s,v⟩,d,f⟩:=aL h;obtain⟨p,rfl⟩:=kS d;obtain⟨x,g,j⟩:=aL f;cases fR g;obtain⟨a,l,m,c⟩:=bJ j;cases t with
 |nm i=>obtain⟨y,q,rfl,n⟩:=hD a;exact Bt Κ Φ k n (cN l) c
 |tp is=>obtain⟨w,z⟩:=aC m;obtain⟨A,b,_⟩:=aL (aC a).2;obtain⟨_,_,rfl⟩:=vk b;exact zr4 (vo k a) ((all e).E u X r _ k c) ((show nj [_] _ _ _=iu _ _ _ _ from rfl).trans (rC (cN w) _ _ _)) (OX (cN z)) rfl) rfl
theorem zum:Ss Κ Φ (.mut m i args):=Ss.x (λG X r st k D h=>by obtain⟨c,d,e⟩:=aL h;obtain⟨p,rfl⟩:=pC d;obtain⟨⟨x,n,H,b⟩,hm,f⟩:=aL e;obtain⟨E,F,rfl,g⟩:=fS hm;obtain⟨h0,j,a⟩:=aP f;obtain⟨l,o,s,t,u⟩:=eS h0;obtain⟨z,q,rfl,I⟩:=hD l;obtain⟨y,H,rfl⟩:=qI j;cases qm o;have hm:=ce.mp s;simp at hm;obtain⟨v,w,B,C⟩:=k.aN I;subst hm;exact zfc v w B C ((all args).A G X r _ k a) (rW a) (qj u) (g.symm.trans t)) rfl
theorem OZ:Ss Κ Φ (.ret e):=Ss.x (λs X r st k n h=>by
 obtain⟨o,b,c⟩:=aL h;obtain⟨p,rfl⟩:=vr b;obtain⟨v,rfl,a⟩:=aL c;have g:=(all e).E s X r _ k a;cases e with
 |var i=>obtain⟨x,q,rfl,d⟩:=hD a;obtain⟨f,j,l,m⟩:=k.aN d;exact z8z f j l m
 |_=>exact M0 g) rfl
theorem Bw (e:Ss Κ Φ a)(f:Ss Κ Φ b):Ss Κ Φ (.aT c a b):=Ss.x (λn X r st k d h=>by obtain⟨v,g,i⟩:=aL h;obtain⟨p,rfl⟩:=vt g;obtain⟨j,l,m⟩:=aP i;exact AV ((all c).T n X r _ k j).1 (e.L n X r _ k d l) (f.L n X r _ k d m)) rfl
theorem O0 (d:Ss Κ Φ b):Ss Κ Φ (.bO t n b):=Ss.x (λq X r st k c h=>by obtain⟨a,h⟩:=aC h;obtain⟨⟨t,i,B,o⟩,e,f⟩:=aL h;obtain⟨p,rfl⟩:=rX e;obtain⟨g,j,l,m⟩:=bJ f;cases fL m;obtain⟨hf,hn⟩:=OW Κ Φ k j;exact zvw c (k.calm a) hf (vo k g) (d.L q X r _ k c l) (xX hn _)) rfl
theorem pD (d:Ss Κ Φ b):Ss Κ Φ (.wh n c b):=Ss.x (λl X r st k a h=>by obtain⟨⟨t,B,o⟩,e,f⟩:=aL h;obtain⟨p,rfl⟩:=vx e;obtain⟨g,i,j⟩:=aP f;cases fL j;exact Na a ((all c).T l X r _ k g).1 (d.L l X r _ k a i)) rfl
theorem vy (h:rP (hT f) e=true):∃x p a c,e=.Call (.Attribute (.Name x p) "pop" a) [] [] c/\f x=true/\(a.endLine==c.line)=true:=by obtain⟨⟨o,n,m,b⟩,hm,g⟩:=aL h;obtain⟨a,c,rfl,i⟩:=fS hm;obtain⟨d,j,k,l⟩:=bJ g;obtain⟨x,p,rfl,d⟩:=hD d;cases qm j;cases fL k;exact⟨x,p,a,c,rfl,d,i.symm.trans l⟩
theorem O1:Ss Κ Φ (.pop j i):=Ss.x (λE X r st k w h=>by obtain⟨⟨A,v⟩,a,b⟩:=aL h;obtain⟨p,rfl⟩:=kS a;obtain⟨x,c,d⟩:=aL b;cases fR c;obtain⟨e,f⟩:=aC d;obtain⟨y,q,rfl,g⟩:=hD e;obtain⟨l1,l2,l⟩:=k.loc g;obtain⟨z,B,C,D,rfl,m,n⟩:=vy f;obtain⟨o,s,t,u⟩:=k.aN m;exact s_pop (k.hN▸k.nd) l1 l2 l o s t u n) rfl
theorem O2:Ss Κ Φ (.pap i a c):=Ss.x (λΓ X r st k U h=>by
 obtain⟨e,o,s⟩:=aL h;obtain⟨p,rfl⟩:=pC o;obtain⟨⟨x,n,es,b⟩,hm,u⟩:=aL s;obtain⟨V,W,rfl,v⟩:=fS hm;obtain⟨h0,w⟩:=aC u;obtain⟨B,C,D⟩:=aP h0;obtain⟨z,q,rfl,k1⟩:=hD B;cases qm C;obtain⟨t,F,G⟩:=aL w;cases fR F;obtain⟨l,H,d⟩:=aL G;obtain⟨_,_,rfl⟩:=vk H;rcases l with _|⟨Y,_|⟨Z,l⟩⟩
 ·cases d
 ·cases d
 ·obtain⟨I,g2,J⟩:=aP d;obtain⟨K,L⟩:=aC I;obtain⟨M,j⟩:=aC J;obtain⟨y,pz,N,O,rfl,f,g⟩:=vy g2;obtain⟨m,P,Q,R⟩:=k.aN k1;obtain⟨S,w2,w3,w4⟩:=k.aN f;have:y=z:=qg (S.symm.trans m);subst this;exact zty m P Q R (cN K) ((all a).E Γ X r _ k L) ((all c).A Γ X r _ k j) (λρ T e=>by rw[vp Κ Φ j ρ T e];exact qj M) (v.symm.trans D) g) rfl
theorem Cok.jG {C:Addr}(k:Cok h Κ Φ X r)(nd:(h.N.set i "").Nodup)(b:l.cls=.ref C)(hm:X.mg c=some (.ref C)):Cok {h with N:=h.N.set i "",cm:=false,xc:=some (n,c),fns:=[]} Κ Φ (Mi.jG X i n a l) r where
 hN:=by show X.N.set i ""=h.N.set i "";rw[k.hN]
 hs:=k.hs
 nd:=nd
 fn:=k.fn
 kind:=k.kind
 free:=k.free
 fns:=λj f n e=>by simp at e
 cst:=k.cst
 kR:=λj f n e=>by simp at e
 room:=λz=>by cases z
 calm:=λz=>by cases z
 hu:=k.hu
 mX:=k.mX
 xW:=λz=>by cases z
 xc:=λd g z=>by cases z;exact⟨a,l,C,rfl,λ_ _ _ _ I=>(I.pin (a,l) (db _ aj)).1,b,hm⟩
 xk:=⟨k.xk.sub,k.xk.rs,k.xk.fK⟩
theorem Bz (e:AA h=some v):∃a b,h=.ExceptHandler (some (.Name v.1 a)) (some v.2.1) v.2.2 b:=by
 unfold AA at e;split at e
 ·cases e;exact⟨_,_,rfl⟩
 ·cases e
theorem BA (e:Az s=some v):∃a b c,s=.Raise (some (.Call (.Name v.1 a) v.2 [] b)) none c:=by
 unfold Az at e;split at e
 ·obtain⟨q,p,rfl⟩:=jH e;exact⟨_,_,_,rfl⟩
 ·cases e
theorem F7 (s:S):Ss Κ Φ s:=by
 induction s with
 |nil=>exact⟨λ_ _ _ _ _ _ h=>ff rfl h,λj X r st k d h=>by cases fL h;exact MW⟩
 |seq a b f c=>
  refine⟨λ_ _ _ _ _ _ h=>ff rfl h,λj X r st k d h=>?_⟩;cases st with
  |nil=>cases h
  |cons s st=>exact MX (f.R j X r _ k d (aC h).1) (c.L j X r _ k d (aC h).2)
 |bad=>
  refine Ss.x (λj X r st k d h=>?_) rfl
  rintro l s m H D I ⟨n,F,g,i,e,_⟩
  cases e
 |cnt=>
  refine Ss.x (λj X r st k d h=>?_) rfl;rcases Bu (qj h)with⟨z,_⟩|⟨z,_⟩|⟨_,p,rfl⟩
  ·cases z
  ·cases z
  ·exact MY
 |asg=>exact OY
 |pop=>exact O1
 |pap=>exact O2
 | «mut»=>exact zum
 |ret=>exact OZ
 |aT _ _ _ f c=>exact Bw f c
 |bO _ _ _ c=>exact O0 c
 |wh _ _ _ c=>exact pD c
theorem sL (Κ:List D)(Φ:List Fn)(s:S):∀a X r st,Cok a Κ Φ X r->ej (model X.prog X.w) X.A X.env X.xe->chkL a s st=true->PSs X st (tDS X.K (aK Κ Φ s)):=(F7 s).L
end
section
variable (Κ:List D)(Φ:List Fn)
variable {Κ Φ}
end
section
variable {P:cc}{w:World}{K:W.Frag}{mg:Str->Option Value}{base:Heap}
structure Dok (Γ:Gm)(Κ:List D)(Φ:List Fn)(P:cc)(w:World)(K:W.Frag)(mg:Str->Option Value)(base:Heap)(k:Nat):Prop where
 free:∀x,Γ.free.contains x=true->mg x=none
 fns:∀(j:Nat) f n,Γ.fns[j]?=some (f,n)->∃m k' ps,Φ[j]?=some m/\k'<=k/\Cal P w K mg base k' f ps (spD K n m)
 cst:∀(j:Nat) x,Γ.cst[j]?=some x->∃d a,Κ[j]?=some d/\mg x=some (.ref a)/\∀H B,B none->Rep K H B (.ref a) d
 kR:∀(j:Nat) f n,Γ.fns[j]?=some (f,n)->∃m k' ps,Φ[j]?=some m/\k'<=k/\jF P w K mg base k' f ps n m
 xk:tJ Γ K mg
theorem O3 (r:Reps K H A l b):StOk K ⟨H,λa=>H a=none\/A (some a),λ_=>none,A none⟩ H (l.map some++bd (n-l.length) none) (b.map (λd=>some (.od,d))++bd (n-b.length) none) where
 ext:=Same.refl H
 aN:=λa e=>.inl e
 own:=λa i e=>by cases e
 len:=by have:=r.length;simp;omega
 sl:=λi g d e=>by
  rw[jx]at e;split at e
  ·rename_i m;rw[bu]at e;cases c:b[i]? with
   |none=>rw[c]at e;cases e
   |some k=>
    rw[c]at e;cases e;obtain⟨v,f,j⟩:=Reps.get r c;refine⟨v,?_,?_⟩
    ·rw[jx,qe (by rw[ak,r.length];rw[ak]at m;exact m),bu,f];rfl
    ·refine(Rep.there _ j).weak λa h=>?_;cases a with
     |none=>exact h.1
     |some a=>exact⟨λz=>h.2 z,.inr h.1⟩
  ·rw[ci]at e;split at e<;>cases e
theorem d_fn {st:Stmt}(C:Fun K x x st f fd)(i:FnScope Γ.N ps (z09 st))(hs:Γ.sc=z09 st)(L:Γ.blk=false)(j:Γ.xc=none)(c:Dok Γ Κ Φ P w K mg base k)(D:chkL Γ s (z0l st)=true):
  FnOk P w K mg base nN (k+1) f fd ps (spD K ps.length (bC Κ Φ Γ.N.length s)):=by
 refine C.ok i (λT H Q E h=>h.choose_spec.choose_spec.choose_spec.1) λl A outer s1 H T Q E t m=>?_;obtain⟨B,u,r,M,rs,e,q⟩:=m;refine⟨_,sL Κ Φ s Γ (iC nN P w K mg base Γ.N x (z09 st) f l A outer s1 H E).ur k _ ⟨rfl,hs.symm,i.nd,λ_ _=>rfl,by rw[hs];exact i.kind,c.free,c.fns,c.cst,c.kR,λ_=>t,λ_=>rfl,t.units,λ_=>⟨rfl,rfl⟩,λ_=>rfl,λ_ _ z=>(by rw[j]at z;cases z),c.xk⟩ PassesOwn.never D,?_⟩;unfold bC at e;have y:=O3 (n:=Γ.N.length) rs;generalize b:aK Κ Φ s (u.map (λd=>some (.od,d))++bd (Γ.N.length-u.length) none)=p at e
 match p,b,e with
 |.ok (.nx F),b,e=>cases e;refine⟨_,_,_,y,b,λG S O I R fr=>q .non S (λa o e=>(fr a o e rfl).1) rfl⟩
 |.ok (.rt g d),b,e=>
  cases e;refine⟨_,_,_,y,b,λv S hk J=>q v S hk (J.weak λa h=>?_)⟩;cases g with
  |fr=>cases a<;>exact h
  |nu=>cases a<;>exact h
  |od=>cases a with
   |none=>exact .inr h
   |some a=>exact h.elim .inl λz=>.inr z
  |al=>cases a with
   |none=>exact .inr h
   |some a=>exact h.elim .inl λz=>.inr z
 |.exc _,b,e=>cases e
 |.no,b,e=>cases e
theorem zqt {st:Stmt}(d:Fun K x x st f fd)(g:FnScope Γ.N ps (z09 st))(hs:Γ.sc=z09 st)(n:Γ.blk=false)(i:Γ.xc=none)(o:Dok Γ Κ Φ P w K mg base k)(p:chkL Γ s (z0l st)=true):
  FnOk P w K mg base (CXE P w base) (k+1) f fd ps (FJ K mg ps.length (bC Κ Φ Γ.N.length s)):=by
 obtain⟨oc,od,kV,j,r,an,l,ct,m,rfl,lk,a⟩:=d.ex;refine zm2 lk a g (λvs H Q E h=>h.choose_spec.choose_spec.choose_spec.1) λA outer s1 H vs Q E t b=>?_;obtain⟨B,u,c,v,rs,e,q⟩:=b;unfold bC at e;split at e<;>cases e
theorem O4 {ns:List Int}(h:SqL K H a (ns.map V.int)):Reps K H (λ_=>True) [.ref a] [.list (ns.map .int)]:=by
 refine⟨_,_,rfl,⟨a,ns.map V.int,rfl,?_,?_⟩,rfl⟩
 ·rcases h with(h|h)|h
  ·exact .inl ⟨h,trivial⟩
  ·exact .inr ⟨.inl h,trivial⟩
  ·exact .inr ⟨.inr h,trivial⟩
 ·clear h
  induction ns with
  |nil=>rfl
  |cons n ns b=>exact⟨_,_,rfl,rfl,b⟩
end
structure Gd where
 kf:Nat
 args:C
 c:Str
 i:Nat
 j:Nat
 g:Str
 r:Bool
structure XR where
 c:Str
 cs:List (Str×Bool)
 B:Str
def XR.subs (r:XR):List (Str×Str×Bool):=(r.c,"ValueError",true)::r.cs.map λy=>(r.c,y.1,y.2)
def BB (K:W.Frag)(A:Addr):List (Str×Bool)->Prop
 | []=>True
 |y::l=>(∃D dd cd sl,W.nsIn K bc y.1=some (some (.ref D))/\K.lookup D=some ⟨.type "type",dd,.cls cd,sl⟩/\W.subIn K (.ref A) (.ref D)=some y.2)/\BB K A l
structure Kx (K:W.Frag)(r:XR)(A D:Addr):Prop where
 a:W.nsIn K bc r.c=some (some (.ref A))
 l:∃dd cd sl,K.lookup A=some ⟨.type "type",dd,.cls cd,sl⟩
 e:W.excIn K A [.type "ValueError",.type "Exception",.type "BaseException",.type "object"] "ValueError.__new__"=true
 cl:W.findIn K (.ref A) "__class__"=some (some (.builtin "object.__class__"))
 ga:W.findIn K (.ref A) "__getattribute__"=some (some (.builtin "BaseException.__getattribute__"))
 gt:W.findIn K (.ref A) "__getattr__"=some none
 ob:W.subIn K (.ref A) (.type "object")=some true
 be:W.subIn K (.ref A) (.type "BaseException")=some true
 v:W.subIn K (.ref A) (.type "ValueError")=some true
 b:W.nsIn K bc r.B=some (some (.ref D))
 f:W.excIn K D [.type "ValueError",.type "Exception",.type "BaseException",.type "object"] "ValueError.__new__"=true
 s:W.subIn K (.ref A) (.ref D)=some true
 cs:BB K A r.cs
def BD (K:W.Frag):List XR->Prop
 | []=>True
 |r::l=>(∃A D,Kx K r A D)/\BD K l
inductive Kd where
 |n
 |e (c:Str) (r:Bool)
 |g (d:Gd) (je:Nat)
structure aI where
 nm:Str
 st:Stmt
 N:List Str
 ps:List Str
 free:List Str
 fns:List Nat
 s:S
 F:Fn
 kd:Kd
 kc:List (Str×List Str):=[]
def cD (y:Str×List Str):D:=.tuple (y.2.map .str)
def sig (Rs:List aI)(j:Nat):Str×Nat:=match Rs[j]? with
 |some c=>(c.nm,c.ps.length)
 |none=>("",0)
def fnAt (Rs:List aI)(j:Nat):Fn:=match Rs[j]? with
 |some c=>c.F
 |none=>λ_=>.no
def aI.G (Rs:List aI)(xt:List XR)(r:aI):Gm:={N:=r.N,sc:=z09 r.st,free:=r.free,fns:=r.fns.map (sig Rs),cst:=r.kc.map (·.1),sub:=(xt.map XR.subs).flatten,rs:=xt.map (·.c),fK:=xt.map λr=>(r.c,r.B)}
def Kd.gC:Kd->Bool
 |.e _ _=>true
 |_=>false
def nE (Rs:List aI)(j:Nat):Bool:=match Rs[j]? with
 |some c=>!c.kd.gC
 |none=>true
def aI.part (Rs:List aI)(xt:List XR)(i:Nat)(r:aI):Bool:=match r.kd with
 |.n=>chkL (r.G Rs xt) r.s (z0l r.st)
 |.e _ _=>false
 |.g _ _=>false
def aI.ok (Rs:List aI)(xt:List XR)(fr:List Str)(i:Nat)(r:aI):Bool:=
 (decide ((z09 r.st).kind=.function)&& !(z09 r.st).isCoroutine&& !(z09 r.st).isGenerator&&decide r.N.Nodup&&decide (r.N.take r.ps.length=r.ps))&&
 (r.ps.all (λx=>(z09 r.st).names.lookup x==some .local||(z09 r.st).names.lookup x==some .cell)&&(z09 r.st).names.all (λy=>!(y.2==.free))&&r.free.all (λx=>fr.contains x)&&r.fns.all (λj=>decide (j<i)&&nE Rs j)&&r.part Rs xt i)
def oks (Rs:List aI)(xt:List XR)(fr:List Str):Nat->List aI->Bool
 |_,[]=>true
 |i,r::l=>r.ok Rs xt fr i&&oks Rs xt fr (i+1) l
def aI.BE (Rs:List aI)(r:aI):Prop:=match r.kd with
 |.n=>r.F=bC (r.kc.map cD) (r.fns.map (fnAt Rs)) r.N.length r.s
 |.e _ _=>True
 |.g _ _=>True
def pE (Rs:List aI):List aI->Prop
 | []=>True
 |r::l=>r.BE Rs/\pE Rs l
theorem vz:∀{l:List aI} {k i:Nat} {r:aI},oks Rs a fr k l=true->l[i]?=some r->r.ok Rs a fr (k+i)=true
 | [],_,i,_,_,e=>by simp at e
 |r::l,k,0,_,h,e=>by cases e;exact(aC h).1
 |r::l,k,i+1,_,h,e=>by
  have:=vz (aC h).2 e
  rwa [show k+(i+1)=k+1+i by omega]
theorem F8:∀{l:List aI} {i:Nat} {r:aI},pE a l->l[i]?=some r->r.BE a
 | [],i,_,_,e=>by simp at e
 |r::l,0,_,h,e=>by cases e;exact h.1
 |r::l,i+1,_,h,e=>F8 h.2 e
section
variable {P:cc}{w:World}{K:W.Frag}{mg:Str->Option Value}{base:Heap}{Rs:List aI}{xt:List XR}{fr:List Str}
theorem vA {r:aI}(h:r.ok Rs xt fr i=true):FnScope (r.G Rs xt).N r.ps (z09 r.st)/\(∀x,r.free.contains x=true->fr.contains x=true)/\(∀j∈r.fns,j<i/\nE Rs j=true)/\r.part Rs xt i=true:=by
 obtain⟨d,e⟩:=aC h;obtain⟨f,g,k,l,m⟩:=eS d;obtain⟨n,o,p,b,s⟩:=eS e;refine⟨⟨qj f,cN g,cN k,qj l,qj m,λx a=>?_,λy t z=>?_⟩,λx a=>?_,λj c=>⟨qj (aC (bj.mp b j c)).1,(aC (bj.mp b j c)).2⟩,s⟩
 ·rcases d8.mp (bj.mp n x a)with q|q
  ·exact .inl (qm q)
  ·exact .inr (qm q)
 ·have :=cN (bj.mp o y t);rw[z]at this;cases this
 ·exact bj.mp p x (ce.mp a)
def tK (P:cc)(w:World)(K:W.Frag)(mg:Str->Option Value)(base:Heap)(i:Nat)(r:aI):Prop:=match r.kd with
 |.e _ _=>True
 |_=>Cal P w K mg base (i+1) r.nm r.ps (spD K r.ps.length r.F)/\jF P w K mg base (i+1) r.nm r.ps r.ps.length r.F
theorem pF (h:tK P w K mg base j c)(e:Rs[j]?=some c)(n:nE Rs j=true):Cal P w K mg base (j+1) c.nm c.ps (spD K c.ps.length c.F)/\jF P w K mg base (j+1) c.nm c.ps c.ps.length c.F:=by
 unfold nE at n;rw[e]at n;have n:(!c.kd.gC)=true:=n;unfold tK at h;cases hk:c.kd with
 |n=>rw[hk]at h;exact h
 |g d a=>rw[hk]at h;exact h
 |e x b=>rw[hk]at n;cases n
def za5 (K:W.Frag)(mg:Str->Option Value)(y:Str×List Str):Prop:=∃a,mg y.1=some (.ref a)/\∀H B,B none->Rep K H B (.ref a) (cD y)
theorem BF (o:Rs[i]?=some r)(h:r.ok Rs xt fr i=true)(T:∀x∈fr,mg x=none)(xk:∀Γ:Gm,Γ.sub=(xt.map XR.subs).flatten->Γ.rs=xt.map (·.c)->(Γ.fK=xt.map λr=>(r.c,r.B))->tJ Γ K mg)(s:∀y∈r.kc,za5 K mg y)(p:∀j c,j<i->Rs[j]?=some c->tK P w K mg base j c):Dok (r.G Rs xt) (r.kc.map cD) (r.fns.map (fnAt Rs)) P w K mg base i where
 free:=λx t=>T x (ce.mp ((vA h).2.1 x t))
 fns:=λj f n e=>by
  have e:(r.fns.map (sig Rs))[j]?=some (f,n):=e;rw[bu]at e;obtain⟨b,l,e⟩:=cw.mp e;obtain⟨d,k⟩:=(vA h).2.2.1 b (de l);have m:=(bg.mp o).1;have g:=bo (j6 d m);unfold sig at e;rw[g]at e;cases e;refine⟨fnAt Rs b,b+1,Rs[b].ps,by rw[bu,l];rfl,d,?_⟩;have:fnAt Rs b=Rs[b].F:=by unfold fnAt;rw[g]
  rw[this];exact(pF (p b _ d g) g k).1
 cst:=λj x e=>by have e:(r.kc.map (·.1))[j]?=some x:=e;rw[bu]at e;obtain⟨y,q,rfl⟩:=cw.mp e;obtain⟨a,u,v⟩:=s y (de q);exact⟨cD y,a,by rw[bu,q];rfl,u,v⟩
 kR:=λj f n e=>by
  have e:(r.fns.map (sig Rs))[j]?=some (f,n):=e;rw[bu]at e;obtain⟨b,l,e⟩:=cw.mp e;obtain⟨d,k⟩:=(vA h).2.2.1 b (de l);have m:=(bg.mp o).1;have g:=bo (j6 d m);unfold sig at e;rw[g]at e;cases e;refine⟨fnAt Rs b,b+1,Rs[b].ps,by rw[bu,l];rfl,d,?_⟩;have:fnAt Rs b=Rs[b].F:=by unfold fnAt;rw[g]
  rw[this];exact(pF (p b _ d g) g k).2
 xk:=xk _ rfl rfl rfl
theorem O5 (hok:oks Rs xt fr 0 Rs=true)(s:pE Rs Rs)(T:∀x∈fr,mg x=none)(xk:∀Γ:Gm,Γ.sub=(xt.map XR.subs).flatten->Γ.rs=xt.map (·.c)->(Γ.fK=xt.map λr=>(r.c,r.B))->tJ Γ K mg)(n:Nat)(t:∀r∈Rs,∀y∈r.kc,za5 K mg y)(O:∀i r,i<n->Rs[i]?=some r->Own K mg r.nm r.st r.ps):∀i r,i<n->Rs[i]?=some r->tK P w K mg base i r:=by
 intro i
 induction i using l4 with
 |ind i k=>
  intro r C h
  have l:r.ok Rs xt fr i=true:=by
   have:=vz hok h
   rwa [Nat.zero_add]at this
  have k:=λj c o u=>k j o c (j6 o C) u;have D:=BF h l T xk (t r (de h)) k;obtain⟨p,v,_,a⟩:=vA l;have hf:=F8 s h;obtain⟨f,fd,q,m,kp,b⟩:=O i r C h;unfold aI.BE at hf;unfold aI.part at a;unfold tK;cases hk:r.kd with
  |n=>rw[hk]at hf a;rw[hf];exact⟨⟨f,fd,d_fn (Γ:=r.G Rs xt) q p rfl rfl rfl D a,m,kp,b⟩,⟨f,fd,zqt q p rfl rfl rfl D a,m,kp,b⟩⟩
  |e c z=>rw[hk]at a;cases a
  |g d A=>rw[hk]at a;cases a
end
def Kf (K:W.Frag)(r:aI)(f:Addr)(fd:ef):Prop:=W.nsIn K bc r.nm=some (some (.ref f))/\∃(oc:Value) (od an:Option Addr) (sl:Array (Option Value)) (kV dc pm cd ct:Value),fd=W.fnOf r.nm r.nm (kF r.st) (z0l r.st) (z09 r.st) .none kV dc pm an cd ct/\K.lookup f=some ⟨oc,od,.func fd,sl⟩/\W.codeIn K cd r.nm=true/\W.keepIn K (.ref f)=true
def BH (r:aI):Prop:=∀(kV doc pm:Value) (an:Option Addr) (xj ct:Value) (us:List Value),us.length=r.ps.length->p8 (W.fnOf r.nm r.nm (kF r.st) (z0l r.st) (z09 r.st) .none kV doc pm an xj ct) ⟨us,[]⟩=pure (r.ps.zip us)
theorem pG (h:b.length=n+1):∃a l,b=a::l/\l.length=n:=by
 cases b with
 |nil=>cases h
 |cons a l=>exact⟨a,l,rfl,Nat.succ.inj h⟩
theorem tL {P:List Value->Prop}(h:∀a,P [a])(b:List Value)(z:b.length=1):P b:=by obtain⟨a,l,rfl,y⟩:=pG z;cases gh y;exact h a
theorem tM {P:List Value->Prop}(h:∀a b,P [a,b])(c:List Value)(z:c.length=2):P c:=by obtain⟨a,l,rfl,y⟩:=pG z;exact tL (P:=λl=>P (a::l)) (h a) l y
theorem F9 {P:List Value->Prop}(h:∀a b c,P [a,b,c])(d:List Value)(z:d.length=3):P d:=by obtain⟨a,l,rfl,y⟩:=pG z;exact tM (P:=λl=>P (a::l)) (h a) l y
theorem by4 {P:List Value->Prop}(h:∀a b c d,P [a,b,c,d])(e:List Value)(z:e.length=4):P e:=by obtain⟨a,l,rfl,y⟩:=pG z;exact F9 (P:=λl=>P (a::l)) (h a) l y
def kOks (K:W.Frag):List aI->Prop
 | []=>True
 |r::l=>((∃f fd,Kf K r f fd)/\BH r)/\kOks K l
theorem Ga {K:W.Frag}:∀{l:List aI} {i:Nat} {r:aI},kOks K l->l[i]?=some r->(∃f fd,Kf K r f fd)/\BH r
 | [],i,_,_,e=>by simp at e
 |r::l,0,_,h,e=>by cases e;exact h.1
 |r::l,i+1,_,h,e=>Ga h.2 e
def strOf:Value->Option Str
 |.str x _=>if PyData.strOk x then some x else none
 |_=>none
def ck1 (K:W.Frag)(y:Str×List Str):Bool:=match W.nsIn K bc y.1 with
 |some (some (.ref a))=>(match K.lookup a with
  |some ⟨.type "tuple",none,.seq fN _,_⟩=>decide (fN.toList.map strOf=y.2.map some)&&decide (y.2.length<=1000)
  |_=>false)
 |_=>false
theorem Gb:∀{i:List Value} {ws:List Str},i.map strOf=ws.map some->Vals (ws.map V.str) i/\∀w∈ws,PyData.strOk w=true
 | [],[],_=>⟨.nil,λ_ h=>by cases h⟩
 | [],_::_,h=>by cases h
 |_::_,[],h=>by cases h
 |u::i,w::ws,h=>by
  obtain⟨c,d⟩:=List.cons.inj h;obtain⟨a,b⟩:=Gb d;cases u with
  |str x t=>
   have c:(if PyData.strOk x then some x else none)=some w:=c;split at c
   ·rename_i f;cases c;exact⟨.cons ⟨t,rfl⟩ a,λz g=>(aq.mp g).elim (λe=>by rw[e];exact f) (b z)⟩
   ·cases c
  |_=>cases c
theorem Ge {K:W.Frag}:∀{ws:List Str},(∀w∈ws,PyData.strOk w=true)->Reps K H B (ws.map V.str) (ws.map PyData.str)
 | [],_=>rfl
 |w::ws,h=>Reps.cons ⟨rfl,h w (.head _)⟩ (Ge λz a=>h z (.tail _ a))
theorem O6 {K:W.Frag}(X:K.In h)(G:h.Ns bc mg)(c:ck1 K y=true):za5 K mg y:=by
 unfold ck1 at c;split at c
 ·rename_i a d;split at c
  ·rename_i b n sl f;obtain⟨g,i⟩:=aC c;obtain⟨v,ok⟩:=Gb (qj g);have j:b.size<=av:=by have e:=v.length;rw[ak,cv]at e;have:=qj i;rw[cb];omega
   exact⟨a,W.mg_of X G d,λH B _=>⟨a,y.2.map V.str,rfl,.inr ⟨_,b,n,f,rfl,rfl,rfl,j,v⟩,Ge ok⟩⟩
  ·cases c
 ·cases c
def qK (K:W.Frag)(r:aI):Option (ef×Bool):=match W.nsIn K bc r.nm with
 |some (some (.ref f))=>(match K.lookup f with
  |some ⟨_,_,.func fd,_⟩=>some (fd,W.codeIn K fd.code r.nm&&W.keepIn K (.ref f))
  |_=>none)
 |_=>none
def Gf (r:aI)(x:ef×Bool):ef×Bool:=(W.fnOf r.nm r.nm (kF r.st) (z0l r.st) (z09 r.st) .none x.1.kwdefaults x.1.doc x.1.pyModule x.1.annotations x.1.code x.1.closureTuple,true)
def vB (K:W.Frag)(A:Addr):Bool:=match K.lookup A with
 |some ⟨.type "type",_,.cls _,_⟩=>true
 |_=>false
def vC:List Value:=[.type "ValueError",.type "Exception",.type "BaseException",.type "object"]
def BJ (K:W.Frag)(r:XR):Option (Bool×Bool×Option (Option Value)×Option (Option Value)×Option (Option Value)×Option Bool×Option Bool×Option Bool×Bool×Option Bool×List (Bool×Option Bool)):=match W.nsIn K bc r.c,W.nsIn K bc r.B with
 |some (some (.ref A)),some (some (.ref D))=>some (vB K A,W.excIn K A vC "ValueError.__new__",W.findIn K (.ref A) "__class__",W.findIn K (.ref A) "__getattribute__",W.findIn K (.ref A) "__getattr__",W.subIn K (.ref A) (.type "object"),W.subIn K (.ref A) (.type "BaseException"),W.subIn K (.ref A) (.type "ValueError"),W.excIn K D vC "ValueError.__new__",W.subIn K (.ref A) (.ref D),r.cs.map λy=>match W.nsIn K bc y.1 with
  |some (some (.ref E))=>(vB K E,W.subIn K (.ref A) (.ref E))
  |_=>(false,none))
 |_,_=>none
def BK (r:XR):Option (Bool×Bool×Option (Option Value)×Option (Option Value)×Option (Option Value)×Option Bool×Option Bool×Option Bool×Bool×Option Bool×List (Bool×Option Bool)):=some (true,true,some (some (.builtin "object.__class__")),some (some (.builtin "BaseException.__getattribute__")),some none,some true,some true,some true,true,some true,r.cs.map λy=>(true,some y.2))
theorem Gh {K:W.Frag}(h:vB K A=true):∃a cd sl,K.lookup A=some ⟨.type "type",a,.cls cd,sl⟩:=by
 unfold vB at h;split at h
 ·rename_i a cd sl e;simp_all
 ·cases h
theorem zed {K:W.Frag}:∀{l:List (Str×Bool)},(l.map fun y=>match W.nsIn K bc y.1 with
  |some (some (.ref E))=>(vB K E,W.subIn K (.ref A) (.ref E))
  |_=>(false,none))=(l.map λy=>(true,some y.2))->BB K A l
 | [],_=>trivial
 |y::l,h=>by
  have h:=List.cons.inj h;refine⟨?_,zed h.2⟩;have e:=h.1
  dsimp only at e
  split at e
  ·rename_i E a;have e:=qh e;obtain⟨b,cd,sl,q⟩:=Gh e.1;exact⟨E,b,cd,sl,a,q,e.2⟩
  ·cases(qh e).1
theorem O7 {K:W.Frag}(h:BJ K r=BK r):∃A D,Kx K r A D:=by
 unfold BJ BK at h;split at h
 ·rename_i A D k l;have h:=qh (qg h);have b:=qh h.2;have c:=qh b.2;have d:=qh c.2;have e:=qh d.2;have f:=qh e.2;have g:=qh f.2;have i:=qh g.2;have j:=qh i.2;have a:=qh j.2;exact⟨A,D,k,Gh h.1,b.1,c.1,d.1,e.1,f.1,g.1,i.1,l,j.1,a.1,zed a.2⟩
 ·cases h
theorem Gi {K:W.Frag}:∀{l:List XR},(∀r∈l,∃A D,Kx K r A D)->BD K l
 | [],_=>trivial
 |r::_,h=>⟨h r (.head _),Gi λr a=>h r (.tail _ a)⟩
def KEq (K:d9->W.Frag)(Rs:List aI)(fr:List Str)(xt:List XR):Prop:=∀P,(Rs.map λr=>(qK (K P) r).isSome,Rs.map λr=>qK (K P) r,fr.map λn=>W.nsIn (K P) bc n,xt.map λr=>BJ (K P) r,Rs.map λr=>r.kc.map λy=>ck1 (K P) y)=(Rs.map λ_=>true,Rs.map λr=>(qK (K P) r).map (Gf r),fr.map λ_=>some none,xt.map BK,Rs.map λr=>r.kc.map λ_=>true)
theorem KEq_r:KEq=KEq:=rfl
theorem O8 {K:W.Frag}(h:(qK K r).isSome=true)(e:qK K r=(qK K r).map (Gf r)):∃f fd,Kf K r f fd:=by
 cases z:qK K r with
 |none=>rw[z]at h;cases h
 |some x=>
  rw[z]at e;have e:=qg e;unfold qK at z;split at z
  ·rename_i f hf;split at z
   ·rename_i oc od fd sl c;have z:=qg z;have d:=congrArg ph z;have a:=congrArg qb z;have g:=congrArg ph e;have i:=congrArg qb e;rw[i]at a;have b:=ba.mp a;subst d;exact⟨f,x.1,hf,oc,od,x.1.annotations,sl,x.1.kwdefaults,x.1.doc,x.1.pyModule,x.1.code,x.1.closureTuple,g,c,b.1,b.2⟩
   ·cases z
  ·cases z
theorem xY {K:d9->W.Frag}(h:KEq K g fr i)(P:d9):(∀r∈g,∃f fd,Kf (K P) r f fd)/\(∀n∈fr,W.nsIn (K P) bc n=some none)/\BD (K P) i/\∀r∈g,∀y∈r.kc,ck1 (K P) y=true:=by have a:=qh (h P);have b:=qh a.2;have c:=qh b.2;have d:=qh c.2;exact⟨λr e=>O8 (cz.mp a.1 r e) (cz.mp b.1 r e),λn hn=>cz.mp c.1 n hn,Gi λr e=>O7 (cz.mp d.1 r e),λr e=>cz.mp (cz.mp d.2 r e)⟩
def rY:List aI->Prop
 | []=>True
 |r::l=>BH r/\rY l
theorem Gj {K:W.Frag}:∀{l:List aI},(∀r∈l,∃f fd,Kf K r f fd)->rY l->kOks K l
 | [],_,_=>trivial
 |r::_,h,b=>⟨⟨h r (.head _),b.1⟩,Gj (λr a=>h r (.tail _ a)) b.2⟩
end Mi
name_quick tkeq for Mi.KEq by Mi.KEq_r
namespace Mk
open Mi
section
open PySem
end
section
open PySem
theorem Gk:aK Κ Φ (.seq p q) a=oR (aK Κ Φ p a) (aK Κ Φ q):=rfl
theorem Gp:aK Κ Φ (.asg (.nm i) t) a=(aG Κ Φ t a>>=λx=>.ok (.nx (a.set i (some (z1u x))))):=rfl
theorem BL:aK Κ Φ (.aT c p q) a=(dY Κ Φ c a>>=λk=>if k then aK Κ Φ p a else aK Κ Φ q a):=rfl
theorem Gq:aK Κ Φ (.ret (.var i)) ρ=(match ρ[i]? with|some (some (g,d))=>.ok (.rt (if imm d then .fr else iP g) d)|_=>.no):=rfl
theorem O9:aK Κ Φ (.mut m i a) e=(dD Κ Φ a e>>=λc=>match e[i]? with
 |some (some (.fr,.list d))=>mL m d c>>=λb=>.ok (.nx ((e.set i (some (.fr,.list b))).map z0g))
 |_=>.no):=rfl
theorem O':aK Κ Φ (.bO d a p) e=(evF Κ Φ a e>>=λw=>cG (λx b=>fB d (gJ x w.1,x) b>>=λc=>aK Κ Φ p c) w.2.1 w.2.2):=rfl
theorem Pa:cG f (x::b) c=(match f x c with
 |.ok (.nx a)=>cG f b a
 |.ok (.ct a)=>cG f b a
 |.ok (.bk a)=>.ok (.nx a)
 |.ok (.rt g d)=>.ok (.rt g d)
 |.exc e=>.exc e
 |.no=>.no):=rfl
theorem Gr:dD Κ Φ .nil a=.ok []:=rfl
theorem tN:dD Κ Φ (.cons a b) d=(aG Κ Φ a d>>=λx=>dD Κ Φ b d>>=λc=>.ok (x::c)):=rfl
theorem BM:rK Κ Φ (.tv a) ρ=(aG Κ Φ a ρ>>=λx=>rH x.2):=rfl
theorem BN:Ai Κ Φ (.tv a) b=(aG Κ Φ a b>>=λx=>z69 x.2>>=λp=>.ok (x.1,p)):=rfl
theorem BO:dY Κ Φ (.tv a) b=(aG Κ Φ a b>>=λx=>gD x.2):=rfl
theorem Pb:dY Κ Φ (.and a b) d=(dY Κ Φ a d>>=λc=>if c then dY Κ Φ b d else .ok false):=rfl
theorem BP:dY Κ Φ (.or a b) d=(dY Κ Φ a d>>=λc=>if c then .ok true else dY Κ Φ b d):=rfl
theorem Pc:dY Κ Φ (.not a) b=(dY Κ Φ a b>>=λc=>.ok (!c)):=rfl
theorem BQ:evW Κ Φ (.tv a) ρ=(aG Κ Φ a ρ>>=λx=>z4q x.2>>=λb=>.ok (x.1,b)):=rfl
theorem Pd:evW Κ Φ (.gV a) d=(dD Κ Φ a d>>=λb=>kJ (b.map (·.2))>>=λc=>.ok (.fr,c)):=rfl
theorem Pe:evF Κ Φ (.tv (.var i)) a=(if oS a i then xp i a else if iE Κ Φ (.tv (.var i)) a then aG Κ Φ (.var i) a>>=λx=>kL x a else oU Κ Φ (.tv (.var i)) a):=rfl
theorem BS (b:∀i,a≠.var i):evF Κ Φ (.tv a) c=(if iE Κ Φ (.tv a) c then aG Κ Φ a c>>=λx=>kL x c else oU Κ Φ (.tv a) c):=by cases a<;>first|exact absurd rfl (b _)|rfl
theorem hF (h:aK Κ Φ a ρ=.ok (.nx c))(k:aK Κ Φ b c=r):aK Κ Φ (.seq a b) ρ=r:=by rw[Gk,h];exact k
theorem bY (h:aK Κ Φ a ρ=.ok (.rt g d)):aK Κ Φ (.seq a b) ρ=.ok (.rt g d):=by rw[Gk,h];rfl
theorem eT (h:aK Κ Φ s (a.map (λd=>some (.od,d))++bd (n-a.length) none)=.ok (.rt g d)):bC Κ Φ n s a=.ok (g,d):=by unfold bC;rw[h]
theorem Gs {g:Type}{m:g->D}(I:List g->Rho->Prop):∀(d pre:List g) (q:Rho),(∀a x b q,pre++d=a++x::b->I a q->∃c,f (m x) q=.ok (.nx c)/\I (a++[x]) c)->I pre q->∃c,cG f (d.map m) q=.ok (.nx c)/\I (pre++d) c
 | [],pre,q,_,h=>⟨q,rfl,by rw[bx];exact h⟩
 |x::d,pre,q,hf,h=>by
  obtain⟨i,e,l⟩:=hf pre x d q rfl h;have k:pre++[x]++d=pre++x::d:=by rw[ib];rfl
  obtain⟨j,n,o⟩:=Gs I d (pre++[x]) i (λa y b q p=>hf a y b q (k▸p)) l;exact⟨j,by rw[br,Pa,e];exact n,k▸o⟩
theorem Gu {b:Type}{m:b->D}(g:b->Option D):∀(a:List b),(∀x∈a,f (m x)=.ok ((g x).map λd=>(.fr,d)))->kK f (a.map m)=.ok ((a.filterMap g).map λd=>(.fr,d))
 | [],_=>rfl
 |x::a,h=>by
  rw[br,kK,h x aj,Res.aB,Gu g a λy c=>h y (ai _ c),Res.aB];cases e:g x with
  |none=>rw[k8 e];rfl
  |some d=>rw[k9 e];rfl
theorem Pf (a:List D):qD (a.map λd=>(G.fr,d))=.fr:=by unfold qD;rw[qe];rw[lx];exact bj.mpr λ_ _=>rfl
theorem Pg (a:List D):cF (a.map λd=>(G.fr,d))=.fr:=by unfold cF;rw[qe];rw[bj];intro x b;obtain⟨d,_,rfl⟩:=cr.mp b;rfl
theorem BU (a:List D):(a.map λd=>(G.fr,d)).map (λx=>x.2)=a:=by rw[dv];exact mr _
theorem Ph (l:Bool)(a:List D):aggD "tuple" l a=.ok (.tuple a):=rfl
def chr (z:Str)(i:Int):Str:=⟨#[z.cps.toList.getD i.toNat 0]⟩
theorem Gv (z:Str)(i:Int):(chr z i).length=1:=rfl
theorem bD (a b:Str):(a++b).length=a.length+b.length:=by show Array.size (a.cps++b.cps)=_;rw[Array.size_append];rfl
theorem BV {b:Type}(a:List b)(i:Int)(d:b)(h0:0<=i)(c:i<a.length):cK a i=some (a.getD i.toNat d):=by
 unfold cK kB;rw[qe h0,qe c];show a[i.toNat]?=_;have:i.toNat<a.length:=by omega
 rw[ao,bo this];rfl
theorem sY (h0:0<=i)(a:i<z.length)(b:z.length<=1000):iD (.str z) (.int i)=.ok (.str (chr z i)):=by show(if z.length<=LIM then Res.fJ ((cK z.cps.toList i).map λc=>PyData.str ⟨#[c]⟩)else .no)=_;rw[qe (by unfold LIM;omega),BV _ i 0 h0 (cv▸a)];rfl
theorem tO {ns:List Str}{i:Int}(h0:0<=i)(a:i<ns.length):iD (.list (ns.map .str)) (.int i)=.ok (.str (ns.getD i.toNat ⟨#[]⟩)):=by
 show Res.fJ (cK (ns.map PyData.str) i)=_;rw[BV _ i (.str ⟨#[]⟩) h0 (by rw[ak];exact a)]
 congr 1
 have:i.toNat<ns.length:=by omega
 rw[ao,ao,bu,bo this];rfl
theorem tP {ns:List Int}{i:Int}(h0:0<=i)(a:i<ns.length):iD (.list (ns.map .int)) (.int i)=.ok (.int (ns.getD i.toNat 0)):=by
 show Res.fJ (cK (ns.map PyData.int) i)=_;rw[BV _ i (.int 0) h0 (by rw[ak];exact a)]
 congr 1
 have:i.toNat<ns.length:=by omega
 rw[ao,ao,bu,bo this];rfl
theorem getD_mem {a:Type}{ns:List a}{i:Int}{d:a}(h0:0<=i)(b:i<ns.length):ns.getD i.toNat d∈ns:=by grind
theorem add_str (h:a.length+b.length<=1000):cL .Add (.str a) (.str b)=.ok (.str (a++b)):=by show(if _ then _ else _)=_;rw[qe (by unfold LIM;omega)]
theorem add_list (h:a.length+b.length<=1000):cL .Add (.list a) (.list b)=.ok (.list (a++b)):=by show(if _ then _ else _)=_;rw[qe (by unfold LIM;omega)]
theorem mY (h:-(2 ^ 64)<b/\b<2 ^ 64):cL .Mult (.int a) (.int b)=.ok (.int (a*b)):=by show(if _ then _ else _)=_;rw[qe (.inr h)]
theorem rZ (h:-(2 ^ 64)<a/\a<2 ^ 64):cL .Mult (.int a) (.int b)=.ok (.int (a*b)):=by show(if _ then _ else _)=_;rw[qe (.inl h)]
theorem cM (h:0<b):cL .Mod (.int a) (.int b)=.ok (.int (a%b)):=by show(if _ then _ else _)=_;rw[qe h]
theorem Pj:cL .Pow (.int 10) (.int 30)=.ok (.int 1000000000000000000000000000000):=rfl
theorem tQ (h0:0<=n)(a:n<=1000):kJ [.int n]=.ok ((dm n.toNat).map λ(i:Nat)=>.int i):=by show(if _ then _ else _)=_;rw[qe (by unfold LIM;omega)]
theorem xn (h:z.length<=1000):qF (.str z) i j=.ok (.str (jQ z i j)):=by show(if _ then _ else _)=_;rw[qe (by unfold LIM;omega)]
theorem nT (ns:List Str):imms (ns.map .str)=true:=mH.mpr λx a=>by obtain⟨p,_,rfl⟩:=cr.mp a;rfl
theorem BW (ns:List Int):imms (ns.map .int)=true:=mH.mpr λx a=>by obtain⟨p,_,rfl⟩:=cr.mp a;rfl
theorem Gy:∀ns,fC (ns.map .str)=some ns
 | []=>rfl
 |n::ns=>by rw[br,fC,Gy ns];rfl
theorem Pk:∀a,(∀s∈a,s.length=1)->(z0t "" a).length=a.length
 | [],_=>rfl
 |x::r,h=>by
  show(List.toArray (x.cps.toList++(r.map λp=>([]:List Nat)++p.cps.toList).flatten)).size=_;have b:=h x aj
  have c:∀(r:List Str),(∀s∈r,s.length=1)->((r.map λp=>([]:List Nat)++p.cps.toList).flatten).length=r.length:=by
   intro r
   induction r with
   |nil=>intro _;rfl
   |cons y r d=>intro h;have e:=h y aj;rw[br,pa,ax,d λs hs=>h s (ai _ hs)];have:(([]:List Nat)++y.cps.toList).length=1:=e;rw[ay];omega
  rw[bn,ax,c r λs hs=>h s (ai _ hs)];have:x.cps.toList.length=1:=b;rw[ay];omega
theorem Pl (h:∀s∈a,s.length=1)(d:a.length<=1000):mtD "join" (.str "") [.list (a.map .str)]=.ok (.str (z0t "" a)):=by
 have:mtD "join" (.str "") [.list (a.map .str)]=(match fC (a.map .str)with|some a=>if rJ "" a<=LIM then .ok (.str (z0t "" a))else .no|none=>.no):=rfl;rw[this,Gy]
 dsimp only
 rw[qe];unfold rJ;have h0:("":Str).length=0:=rfl
 have b:∀(r:List Str),(∀s∈r,s.length=1)->(r.map (·.length)).sum=r.length:=by
  intro r
  induction r with
  |nil=>intro _;rfl
  |cons y r c=>intro h;rw[br,nr,h y aj,c λs hs=>h s (ai _ hs),ay];omega
 rw[b a h,h0];unfold LIM;omega
theorem Gz (a b:Int):cC (.int a) (.int b)=decide (a=b):=by rfl
theorem xZ:aG Κ Φ (.var i) ρ=(rG ρ[i]?):=rfl
theorem Pm:aG Κ Φ (.non) a=(.ok (.fr,.none)):=rfl
theorem BX:aG Κ Φ (.bl b) a=(.ok (.fr,.bool b)):=rfl
theorem Pn:aG Κ Φ (.int i) a=(.ok (.fr,.int i)):=rfl
theorem Po:aG Κ Φ (.str x) a=(.ok (.fr,.str x)):=rfl
theorem BY:aG Κ Φ (.bin c a b) e=(aG Κ Φ a e>>=λx=>aG Κ Φ b e>>=λy=>cL c x.2 y.2>>=λd=>.ok (gN d (cF [x,y]),d)):=rfl
theorem Pp:aG Κ Φ (.cmp c a b) ρ=(aG Κ Φ a ρ>>=λx=>aG Κ Φ b ρ>>=λy=>cmpD c x.2 y.2>>=λb=>.ok (.fr,.bool b)):=rfl
theorem Pq:aG Κ Φ (.chain e d a b c) ρ=(aG Κ Φ a ρ>>=λx=>aG Κ Φ b ρ>>=λy=>cmpD e x.2 y.2>>=λk=>if k then aG Κ Φ c ρ>>=λz=>cmpD d y.2 z.2>>=λf=>.ok (.fr,.bool f)else .ok (.fr,.bool false)):=rfl
theorem Pr:aG Κ Φ (.mI b a) c=(aG Κ Φ a c>>=λx=>.ok (.fr,.bool (match x.2 with|.none=>!b|_=>b))):=rfl
theorem Pt:aG Κ Φ (.and a b) d=(aG Κ Φ a d>>=λx=>match x.2 with|.bool c=>if c then aG Κ Φ b d else .ok (.fr,.bool false)|_=>.no):=rfl
theorem Pu:aG Κ Φ (.not a) b=(aG Κ Φ a b>>=λx=>gD x.2>>=λc=>.ok (.fr,.bool (!c))):=rfl
theorem GA:aG Κ Φ (.tup b) ρ=(dD Κ Φ b ρ>>=λa=>.ok (gJ (.tuple (a.map (·.2))) (cF a),.tuple (a.map (·.2)))):=rfl
theorem GB:aG Κ Φ (.lst b) c=(dD Κ Φ b c>>=λa=>.ok (cF a,.list (a.map (·.2)))):=rfl
theorem BZ:aG Κ Φ (.ix a b) c=(aG Κ Φ a c>>=λx=>aG Κ Φ b c>>=λy=>iD x.2 y.2>>=λd=>.ok (gJ d x.1,d)):=rfl
theorem vD:aG Κ Φ (.sl a c e) b=(aG Κ Φ a b>>=λx=>rK Κ Φ c b>>=λl=>rK Κ Φ e b>>=λh=>qF x.2 l h>>=λd=>.ok (gN d (cF [x]),d)):=rfl
theorem B1:aG Κ Φ (.call k b args) c=(dD Κ Φ args c>>=λa=>match Φ[k]? with|some m=>m (a.map (·.2))>>=λr=>.ok (gJ r.2 (iP r.1),r.2)|none=>.no):=rfl
theorem B2:aG Κ Φ (.bi f args) b=(dD Κ Φ args b>>=λa=>biD f (a.map (·.2))>>=λd=>.ok (gJ d .al,d)):=rfl
theorem Pw:aG Κ Φ (.mJ f a) ρ=(Ai Κ Φ a ρ>>=λw=>aggD f w.2.1 w.2.2>>=λd=>.ok (gJ d (if imms w.2.2 then .fr else agG w.1),d)):=rfl
theorem Px:aG Κ Φ (.eP a b) c=(aG Κ Φ a c>>=λx=>.ok (.fr,.bool (b.any λT=>i' (gY x.2) T))):=rfl
theorem B3:aG Κ Φ (.mt m o args) b=(aG Κ Φ o b>>=λx=>dD Κ Φ args b>>=λa=>mtD m x.2 (a.map (·.2))>>=λd=>.ok (gJ d .al,d)):=rfl
theorem Py {a:C}:aG Κ Φ (.comp e f i g h a c) l=(evW Κ Φ h l>>=λw=>kK (λx=>fB g (gJ x w.1,x) (bd e none++f.map λj=>fP (l.getD j none))>>=λb=>dY Κ Φ a b>>=λk=>if k then aG Κ Φ c b>>=λy=>.ok (some y)else .ok none) w.2>>=λd=>.ok (qD d,.list (d.map (·.2)))):=rfl
def Ev (Κ:List D)(Φ:List Fn)(c:C)(ρ:Rho)(d:D):Prop:=∃g,aG Κ Φ c ρ=.ok (g,d)
def Vv (Κ:List D)(Φ:List Fn)(c:C)(ρ:Rho)(d:D):Prop:=aG Κ Φ c ρ=.ok (.fr,d)/\imm d=true
def Aa (Κ:List D)(Φ:List Fn)(c:C)(ρ:Rho)(ds:List D):Prop:=∃ys,dD Κ Φ c ρ=.ok ys/\ys.map (·.2)=ds
def Av (Κ:List D)(Φ:List Fn)(c:C)(ρ:Rho)(ds:List D):Prop:=dD Κ Φ c ρ=.ok (ds.map λd=>(.fr,d))/\imms ds=true
def Tt (Κ:List D)(Φ:List Fn)(c:C)(ρ:Rho)(k:Bool):Prop:=dY Κ Φ c ρ=.ok k
theorem Vv.e (h:Vv Κ Φ c ρ d):Ev Κ Φ c ρ d:=⟨_,h.1⟩
theorem Ev.of (h:aG Κ Φ c ρ=.ok (g,d)):Ev Κ Φ c ρ d:=⟨_,h⟩
theorem aD (h:ρ[i]?=some (some (g,d))):Ev Κ Φ (.var i) ρ d:=⟨_,by rw[xZ];rw[h];rfl⟩
theorem v_var (h:ρ[i]?=some (some (g,d)))(hi:imm d=true):Vv Κ Φ (.var i) ρ d:=⟨by rw[xZ];rw[h];show Res.ok (if imm d=true then _ else _,d)=_;rw[qe hi],hi⟩
theorem aE:Vv Κ Φ (.int i) ρ (.int i):=⟨by rw[Pn],rfl⟩
theorem aY:Vv Κ Φ (.str i) ρ (.str i):=⟨by rw[Po],rfl⟩
theorem B4:Vv Κ Φ (.bl i) a (.bool i):=⟨by rw[BX],rfl⟩
theorem x4:Vv Κ Φ .non a .none:=⟨by rw[Pm],rfl⟩
theorem lS (a:imm d=true):gJ d g=.fr:=by unfold gJ;rw[qe a]
theorem GC (hi:imm d=true):gN d g=.fr:=by cases d<;>first|exact lS hi|cases hi
theorem aF (c:Ev Κ Φ a ρ x)(e:Ev Κ Φ b ρ y)(h:cL op x y=.ok d)(g:imm d=true):Vv Κ Φ (.bin op a b) ρ d:=by obtain⟨f,c⟩:=c;obtain⟨g2,e⟩:=e;refine⟨?_,g⟩;rw[BY];rw[c,Res.aB,e,Res.aB];dsimp only;rw[h,Res.aB,GC g]
theorem qL (c:Ev Κ Φ a ρ x)(d:Ev Κ Φ b ρ y)(h:cL e x y=.ok (.list xs))(g:imms xs=true):aG Κ Φ (.bin e a b) ρ=.ok (.fr,.list xs):=by obtain⟨f,c⟩:=c;obtain⟨g2,d⟩:=d;rw[BY];rw[c,Res.aB,d,Res.aB];dsimp only;rw[h,Res.aB];show Res.ok (if imms xs=true then _ else _,_)=_;rw[qe g]
theorem eD (c:Ev Κ Φ a ρ x)(d:Ev Κ Φ b ρ y)(h:cmpD op x y=.ok k):Vv Κ Φ (.cmp op a b) ρ (.bool k):=by obtain⟨e,c⟩:=c;obtain⟨g2,d⟩:=d;refine⟨?_,rfl⟩;rw[Pp];rw[c,Res.aB,d,Res.aB];dsimp only;rw[h];rfl
def vE:D->Bool
 |.none=>true
 |_=>false
theorem Pz (b:Ev Κ Φ a e x):Vv Κ Φ (.mI c a) e (.bool (if vE x then !c else c)):=by obtain⟨d,b⟩:=b;refine⟨?_,rfl⟩;rw[Pr];rw[b];cases x<;>rfl
theorem v_and (c:Ev Κ Φ a ρ (.bool k))(d:k=true->Vv Κ Φ b ρ (.bool e)):Vv Κ Φ (.and a b) ρ (.bool (k&&e)):=by
 obtain⟨f,c⟩:=c;refine⟨?_,rfl⟩;rw[Pt];rw[c];cases k with
 |true=>exact(d rfl).1
 |false=>rfl
theorem v_not (b:Ev Κ Φ a d x)(h:gD x=.ok k):Vv Κ Φ (.not a) d (.bool (!k)):=by obtain⟨c,b⟩:=b;refine⟨?_,rfl⟩;rw[Pu];rw[b,Res.aB];dsimp only;rw[h];rfl
theorem bT:Av Κ Φ .nil ρ []:=⟨rfl,rfl⟩
theorem aQ (c:Vv Κ Φ a ρ x)(d:Av Κ Φ b ρ e):Av Κ Φ (.cons a b) ρ (x::e):=⟨by rw[tN,c.1,Res.aB,d.1];rfl,by show(imm x&&imms e)=true;rw[c.2,d.2];rfl⟩
theorem bL:Aa Κ Φ .nil ρ []:=⟨[],rfl,rfl⟩
theorem aV (c:Ev Κ Φ a ρ x)(d:Aa Κ Φ b ρ f):Aa Κ Φ (.cons a b) ρ (x::f):=by obtain⟨g,c⟩:=c;obtain⟨h,d,e⟩:=d;exact⟨_,by rw[tN,c,d];rfl,by rw[br,e]⟩
theorem fD (h:Av Κ Φ args ρ a):Vv Κ Φ (.tup args) ρ (.tuple a):=by refine⟨?_,h.2⟩;rw[GA];rw[h.1,Res.aB,BU,lS (d:=.tuple a) h.2]
theorem PB (h:Aa Κ Φ args c a):Ev Κ Φ (.tup args) c (.tuple a):=by obtain⟨b,h,e⟩:=h;exact⟨_,by rw[GA];rw[h,Res.aB,e]⟩
theorem gH (h:Av Κ Φ args ρ ds):aG Κ Φ (.lst args) ρ=.ok (.fr,.list ds):=by rw[GB];rw[h.1,Res.aB,BU,Pg]
theorem aS (c:Ev Κ Φ a ρ x)(e:Ev Κ Φ b ρ y)(h:iD x y=.ok d)(g:imm d=true):Vv Κ Φ (.ix a b) ρ d:=by obtain⟨f,c⟩:=c;obtain⟨g2,e⟩:=e;refine⟨?_,g⟩;rw[BZ];rw[c,Res.aB,e,Res.aB];dsimp only;rw[h,Res.aB,lS g]
def Oo (Κ:List D)(Φ:List Fn)(c:C)(ρ:Rho)(i:Option Int):Prop:=rK Κ Φ c ρ=.ok i
theorem lQ:Oo Κ Φ .nil ρ none:=rfl
theorem iQ (h:Ev Κ Φ a ρ (.int i)):Oo Κ Φ (.tv a) ρ (some i):=by obtain⟨b,h⟩:=h;unfold Oo;rw[BM,h];rfl
theorem r0 (e:Ev Κ Φ a ρ x)(f:Oo Κ Φ b ρ i)(g:Oo Κ Φ c ρ j)(h:qF x i j=.ok d)(l:imm d=true):Vv Κ Φ (.sl a b c) ρ d:=by obtain⟨k,e⟩:=e;unfold Oo at f g;refine⟨?_,l⟩;rw[vD];rw[e,Res.aB,f,Res.aB,g,Res.aB];dsimp only;rw[h,Res.aB,GC l]
theorem eX (a:Aa Κ Φ args ρ b)(hf:Φ[n]?=some m)(h:m b=.ok (g,d))(i:imm d=true):Vv Κ Φ (.call n f args) ρ d:=by obtain⟨c,a,e⟩:=a;refine⟨?_,i⟩;rw[B1];rw[a,Res.aB,hf];dsimp only;rw[e,h,Res.aB,lS i]
theorem x5 (a:Aa Κ Φ args i b)(hf:Φ[n]?=some m)(h:m b=.ok (g,d)):Ev Κ Φ (.call n f args) i d:=by obtain⟨c,a,e⟩:=a;exact⟨_,by rw[B1];rw[a,Res.aB,hf];dsimp only;rw[e,h,Res.aB]⟩
theorem x6 (a:Aa Κ Φ args ρ b)(hf:Φ[n]?=some m)(h:m b=.ok (.fr,.list xs)):aG Κ Φ (.call n f args) ρ=.ok (.fr,.list xs):=by obtain⟨c,a,e⟩:=a;rw[B1];rw[a,Res.aB,hf];dsimp only;rw[e,h,Res.aB];rfl
theorem eU (a:Aa Κ Φ args ρ b)(h:biD f b=.ok d)(hi:imm d=true):Vv Κ Φ (.bi f args) ρ d:=by obtain⟨c,a,e⟩:=a;refine⟨?_,hi⟩;rw[B2];rw[a,Res.aB,e,h,Res.aB,lS hi]
theorem x8 (b:Ev Κ Φ a ρ x)(c:z69 x=.ok w)(h:aggD f w.1 w.2=.ok d)(g:imm d=true):Vv Κ Φ (.mJ f (.tv a)) ρ d:=by obtain⟨e,b⟩:=b;refine⟨?_,g⟩;rw[Pw];rw[BN,b,Res.aB];dsimp only;rw[c];simp only[Res.aB];rw[h,Res.aB,lS g]
theorem kT (b:Ev Κ Φ a ρ x):Vv Κ Φ (.eP a ts) ρ (.bool (ts.any λT=>i' (gY x) T)):=by obtain⟨c,b⟩:=b;refine⟨?_,rfl⟩;rw[Px];rw[b];rfl
theorem vF (a:Ev Κ Φ o ρ x)(b:Aa Κ Φ args ρ c)(h:mtD m x c=.ok d)(i:imm d=true):Vv Κ Φ (.mt m o args) ρ d:=by obtain⟨f,a⟩:=a;obtain⟨g,b,e⟩:=b;refine⟨?_,i⟩;rw[B3];rw[a,Res.aB,b,Res.aB,e];dsimp only;rw[h,Res.aB,lS i]
theorem bF (h:Ev Κ Φ a ρ x)(b:gD x=.ok k):Tt Κ Φ (.tv a) ρ k:=by obtain⟨c,h⟩:=h;unfold Tt;rw[BO,h];exact b
theorem r6:Tt Κ Φ .nil ρ true:=rfl
theorem qM (c:Tt Κ Φ a ρ k)(d:k=true->Tt Κ Φ b ρ k'):Tt Κ Φ (.and a b) ρ (k&&k'):=by
 unfold Tt at *
 rw[Pb,c];cases k with
 |true=>exact d rfl
 |false=>rfl
theorem pH (c:Tt Κ Φ a f k)(d:k=false->Tt Κ Φ b f e):Tt Κ Φ (.or a b) f (k||e):=by
 unfold Tt at *
 rw[BP,c];cases k with
 |false=>exact d rfl
 |true=>rfl
theorem tu (b:Tt Κ Φ a ρ k):Tt Κ Φ (.not a) ρ (!k):=by
 unfold Tt at *
 rw[Pc,b];rfl
theorem z4i {b:Type}{cond:C}{m:b->D}{xs:List b}(p:b->Bool)(f:b->D)(c:evW Κ Φ it ρ=.ok w)(a:w.2=xs.map m)(r:b->Rho)
  (d:∀x∈xs,fB tg (gJ (m x) w.1,m x) (bd nt none++js.map λj=>fP (ρ.getD j none))=.ok (r x)) (g:∀x∈xs,Tt Κ Φ cond (r x) (p x)) (h:∀x∈xs,p x=true->Vv Κ Φ elt (r x) (f x)):
  aG Κ Φ (.comp nt js N' tg it cond elt) ρ=.ok (.fr,.list ((xs.filter p).map f)):=by
 rw[Py];rw[c,Res.aB,a]
 rw[Gu (λx=>if p x then some (f x)else none) xs λx a=>by
  rw[d x a,Res.aB];have:=g x a;rw[this,Res.aB];cases e:p x with
  |true=>rw[qe rfl,(h x a e).1];rfl
  |false=>rfl]
 rw[Res.aB,Pf,BU]
 have:(xs.filterMap λx=>if p x=true then some (f x)else none)=(xs.filter p).map f:=by
  clear a d g h c
  induction xs with
  |nil=>rfl
  |cons x xs i=>
   cases e:p x with
   |true=>rw[k9 (by rw[e];rfl),List.filter_cons_of_pos e,br,i]
   |false=>rw[k8 (by rw[e];rfl),List.filter_cons_of_neg (e▸ca),i]
 rw[this]
theorem eR (h:aG Κ Φ a ρ=.ok (g,x))(b:z4q x=.ok xs):evW Κ Φ (.tv a) ρ=.ok (g,xs):=by rw[BQ,h,Res.aB];dsimp only;rw[b];rfl
theorem B5 (h:Aa Κ Φ args ρ a)(b:kJ a=.ok c):evW Κ Φ (.gV args) ρ=.ok (.fr,c):=by obtain⟨d,h,e⟩:=h;rw[Pd,h,Res.aB,e,b];rfl
theorem dE (h:Vv Κ Φ t ρ d):aK Κ Φ (.asg (.nm i) t) ρ=.ok (.nx (ρ.set i (some (.al,d)))):=by rw[Gp,h.1];show Res.ok (Out.nx (ρ.set i (some (if imm d then(.al,d)else _))))=_;rw[qe h.2]
theorem iR (h:aG Κ Φ t ρ=.ok (.fr,.list xs))(a:imms xs=true):aK Κ Φ (.asg (.nm i) t) ρ=.ok (.nx (ρ.set i (some (.fr,.list xs)))):=by rw[Gp,h,Res.aB];show Res.ok (Out.nx (ρ.set i (some (if imms xs then .fr else .nu,.list xs))))=_;rw[qe a]
theorem GF (a:∀i,t≠.var i):aK Κ Φ (.ret t) b=(aG Κ Φ t b>>=λx=>.ok (.rt (iP x.1) x.2)):=by cases t<;>first|exact absurd rfl (a _)|rfl
theorem dA (h:Vv Κ Φ t ρ d):aK Κ Φ (.ret t) ρ=.ok (.rt .fr d):=by
 by_cases e:∀i,t≠.var i
 ·rw[GF e,h.1];rfl
 obtain⟨i,rfl⟩:∃i,t=.var i:=by cases t<;>first|exact⟨_,rfl⟩|exact(e λi z=>by cases z).elim
 have a:=h.1;rw[xZ]at a;rw[Gq];cases b:ρ[i]? with
 |none=>rw[b]at a;cases a
 |some o=>
  cases o with
  |none=>rw[b]at a;cases a
  |some f=>
   obtain⟨g,c⟩:=f;rw[b]at a;have:c=d:=by have:=congrArg (λr:Res GD=>match r with|.ok p=>p.2|_=>.none) a;exact this
   subst this;show Res.ok (Out.rt (if imm c=true then _ else _) c)=_;rw[qe h.2]
theorem x9 (a:∀i,t≠.var i)(h:aG Κ Φ t ρ=.ok (.fr,.list xs)):aK Κ Φ (.ret t) ρ=.ok (.rt .fr (.list xs)):=by rw[GF a,h];rfl
theorem ya (a:Tt Κ Φ c ρ k)(b:k=true->aK Κ Φ p ρ=r)(d:k=false->aK Κ Φ q ρ=r):aK Κ Φ (.aT c p q) ρ=r:=by
 rw[BL,a,Res.aB];cases k with
 |true=>exact b rfl
 |false=>exact d rfl
theorem pI:aK Κ Φ .nil a=.ok (.nx a):=rfl
theorem PD {y:GD}(h:imm y.2=true):okIn y=true:=by unfold okIn;rw[h];rfl
theorem yb (c:Vv Κ Φ a f x)(d:f[i]?=some (some (.fr,.list b)))(e:b.length<1000):aK Κ Φ (.mut "append" i (.cons a .nil)) f=.ok (.nx ((f.set i (some (.fr,.list (b++[x])))).map z0g)):=by
 rw[O9,tN,c.1,Res.aB,Gr,Res.aB,Res.aB,d]
 dsimp only
 have:mL "append" b [(.fr,x)]=.ok (b++[x]):=by show(if(okIn (G.fr,x)&&decide (b.length<LIM))=true then _ else _)=_;rw[qe];rw[PD c.2,Bool.true_and];refine qk ?_;unfold LIM;omega
 rw[this];rfl
theorem B6 (h:f[i]?=some (some (.od,d)))(g:imm d=false)(a:z4q d=.ok b):evF Κ Φ (.tv (.var i)) f=.ok (.od,b,f):=by
 have c:aG Κ Φ (.var i) f=.ok (.od,d):=by rw[xZ];rw[h];show Res.ok (if imm d=true then _ else _,d)=_;rw[g];rfl
 have e:oS f i=false:=by unfold oS;rw[h]
 rw[Pe,e];unfold iE oU;rw[eR c a];rfl
theorem yc (h:Aa Κ Φ args d a)(b:kJ a=.ok c):evF Κ Φ (.gV args) d=.ok (.fr,c,d):=by show oU Κ Φ (.gV args) d=_;unfold oU;rw[B5 h b];rfl
theorem Bh {x y:GD}(d:aG Κ Φ a ρ=.ok x)(f:aG Κ Φ b ρ=.ok y)(g:mM x=true)(h:mM y=true)(i:seqR x.2=.ok j)(k:seqR y.2=.ok c):evF Κ Φ (.zip a b) ρ=.ok (.al,zipD j c,ρ):=by
 have e:dD Κ Φ (.cons a (.cons b .nil)) ρ=.ok [x,y]:=by rw[tN,d,Res.aB,tN,f,Res.aB,Gr];rfl
 show(dD Κ Φ (.cons a (.cons b .nil)) ρ>>=λc=>kM c ρ)=_;rw[e,Res.aB];unfold kM
 dsimp only
 rw[g,h];rw[i,Res.aB,k];rfl
theorem PF {x:GD}(b:aG Κ Φ a ρ=.ok x)(c:mM x=true)(d:seqR x.2=.ok f):evF Κ Φ (.enum a) ρ=.ok (.al,z17 0 f,ρ):=by
 have e:dD Κ Φ (.cons a .nil) ρ=.ok [x]:=by rw[tN,b];rfl
 show(dD Κ Φ (.cons a .nil) ρ>>=λg=>oT g ρ)=_;rw[e,Res.aB];unfold oT
 dsimp only
 rw[c,d];rfl
theorem PH (b:a.length<=1000):seqR (.list a)=.ok a:=by show(if decide (a.length<=LIM)=true then Res.ok a else .no)=_;rw[qk (show a.length<=LIM by unfold LIM;omega)];rfl
theorem GH {b:Type}(m:b->D):∀k (a:List b),z17 k (a.map m)=(a.zipIdx k).map λp=>.tuple [.int p.2,m p.1]
 |_,[]=>rfl
 |k,x::a=>by rw[br,z17,GH m (k+1) a];rfl
theorem PJ (a:imm x=true)(b:imm y=true):fB (.tp [i,j]) (gJ (.tuple [x,y]) g,.tuple [x,y]) c=.ok ((c.set i (some (.al,x))).set j (some (.al,y))):=by show Res.fJ (some ((c.set i (some (lM (gJ x _,x)))).set j (some (lM (gJ y _,y)))))=_;rw[lS a,lS b];rfl
theorem GI (c:∀i,a≠.var i)(h:aG Κ Φ a j=.ok (.fr,d))(e:z4q d=.ok f):evF Κ Φ (.tv a) j=.ok (.fr,f,j):=by
 have b:=eR h e;have g:iE Κ Φ (.tv a) j=false:=by unfold iE;rw[b];rfl
 rw[BS c,g];unfold oU;rw[b];rfl
theorem B7 (h:evF Κ Φ c ρ=.ok w)(k:cG (λx a=>fB d (gJ x w.1,x) a>>=λb=>aK Κ Φ p b) w.2.1 w.2.2=r):aK Κ Φ (.bO d c p) ρ=r:=by rw[O',h];exact k
theorem iS (a:Tt Κ Φ c ρ k)(hk:k=true)(h:aK Κ Φ p ρ=.ok (.rt g d)):aK Κ Φ (.seq (.aT c p q) rest) ρ=.ok (.rt g d):=bY (ya a (λ_=>h) λz=>by rw[hk]at z;cases z)
theorem fT (a:Tt Κ Φ c ρ k)(hk:k=false)(h:aK Κ Φ rest ρ=r):aK Κ Φ (.seq (.aT c p .nil) rest) ρ=r:=hF (ya a (λz=>by rw[hk]at z;cases z) λ_=>pI) h
theorem z8z (h:ρ[i]?=some (some (.fr,.list a))):aK Κ Φ (.ret (.var i)) ρ=.ok (.rt .fr (.list a)):=by rw[Gq,h];rfl
theorem aO {Q:Res Out->Prop}(h:aK Κ Φ p ρ=.ok (.nx a))(k:Q (aK Κ Φ q a)):Q (aK Κ Φ (.seq p q) ρ):=by rw[hF h rfl];exact k
theorem ztt {Q:Res Out->Prop}{k:Type}{m:k->D}{j:List k}(h:evF Κ Φ n o=.ok (g,j.map m,b))(I:List k->Rho->Prop)(h0:I [] b)
  (hf:∀pre x d o,j=pre++x::d->I pre o->∃a,(fB l (gJ (m x) g,m x) o>>=λc=>aK Κ Φ p c)=.ok (.nx a)/\I (pre++[x]) a) (hk:∀a,I j a->Q (aK Κ Φ rest a)):Q (aK Κ Φ (.seq (.bO l n p) rest) o):=by
 obtain⟨a,e,i⟩:=Gs (f:=λx b=>fB l (gJ x g,x) b>>=λc=>aK Κ Φ p c) I j [] b hf h0;rw[hF (B7 h e) rfl];exact hk a i
theorem zvq {Q:Res Out->Prop}{d:Type}{m:d->D}{e:List d}(h:evF Κ Φ i ρ=.ok (g,e.map m,f))(I:List d->Rho->Prop)(h0:I [] f)
  (hf:∀pre x b ρ,e=pre++x::b->I pre ρ->∃c a,fB j (gJ (m x) g,m x) ρ=.ok c/\aK Κ Φ p c=.ok (.nx a)/\I (pre++[x]) a) (hk:∀a,I e a->Q (aK Κ Φ rest a)):Q (aK Κ Φ (.seq (.bO j i p) rest) ρ):=
 ztt h I h0 (λpre x b ρ k l=>by obtain⟨c,a,n,o,q⟩:=hf pre x b ρ k l;exact⟨a,by rw[n,Res.aB,o],q⟩) hk
theorem pJ {Q:Res Out->Prop}(a:Tt Κ Φ c b k)(hk:k=false)(h:Q (aK Κ Φ rest b)):Q (aK Κ Φ (.seq (.aT c p .nil) rest) b):=by rw[fT a hk rfl];exact h
theorem GJ:Vv Κ Φ (.bin .Pow (.int 10) (.int 30)) ρ (.int 1000000000000000000000000000000):=aF aE.e aE.e Pj rfl
end
end Mk
namespace Mi
open PySem PySem.Spec PyProof.Rows L2
section
open PySem.SeqAt
theorem GK:∀{e:List Str} {a:List Value},Vals (e.map V.str) a->∀y∈a,∃b t,y=Value.str b t
 | [],_,r,y,c=>by cases r;cases c
 |s::e,_,r,y,c=>by
  cases r with
  |cons f g=>
   rcases aq.mp c with rfl|d
   ·obtain⟨t,rfl⟩:=f;exact⟨_,_,rfl⟩
   ·exact GK g y d
end
open PySem.W
section
open PySem.SeqAt
def B8 (d:Addr):Obj:={cls:=.type "dict_values",data:=.fields #[.ref d]}
def vw (v d:Addr):HO:=.ext λh=>h.get? v=some (B8 d)
theorem GL {b:Type}:∀{a:List (b×V)} {c:List (b×Value)},KV a c->Vals (a.map (·.2)) (c.map (·.2))
 |_,_,.nil=>.nil
 |_,_,.cons r t=>.cons r.2 (GL t)
def yd:V->List V->Hp->VK->Prop:=λx xs H Q=>∃d aW,x=.ref d/\xs=[]/\H d=some (.dK aW)/\∀v,H v=none->Q (.ref v) (upd H v (vw v d))
theorem PK:MtR X "dict.values" yd:=by intro D s G H x y v J Q I j l h;obtain⟨d,m,rfl,rfl,hd,q⟩:=h;cases j;cases l;obtain⟨A,a,E,n,o,f,r,g,c,e,t⟩:=zN I.hok hd;refine o5 PySem.F.slot_dict_values ⟨_,g,c.1⟩ PySem.F.entry_dict_values (PySem.F.args_dict_values_1 _) (meets_dict_values (hX X.prog X.w) d a) ⟨⟨E,o,f,r,g,c,e,t⟩,?_⟩;have hn:=I.hok.fresh (ag _);have i:(s.heap.push (B8 d)).get? s.heap.objs.size=some (B8 d):=az _ rfl;exact⟨.ref s.heap.objs.size,_,I.laid (o:=vw s.heap.objs.size d) (λb u z=>af _ z) (ag _) ⟨i,⟨_,i⟩,λB C p k=>k _ p⟩,rfl,q _ hn⟩
def ye:List V->Hp->VK->Prop:=λxs H Q=>∃v d aW,xs=[.ref v]/\H v=some (vw v d)/\H d=some (.dK aW)/\∀p,H p=none->Q (.ref p) (upd H p (.lst (aW.map (·.2))))
theorem PM (t:X.calm=true):CallR X (.type "list") ye:=by
 intro pins s σ H K us Q I r h;obtain⟨v,d,f,rfl,x,hd,q⟩:=h;obtain⟨u,rfl,y⟩:=vals1 r;cases y;obtain⟨L,p,vs,g,o,k,z,A,l,i,B⟩:=zN I.hok hd;have m:s.heap.DictAt (hX X.prog X.w) d vs z:=⟨o,k,A,l,i,B⟩;have lk:=g.length;have n:=(I.hok v _ x).1;refine kdl_call (kdl_values) (I.ok.hd t) ⟨⟨_,n,rfl,rfl⟩,m⟩ (by omega) λM C b c hk D a=>?_;have E:=kdl_vals_eq b.toList (cv▸a.1) λj u e=>a.2 j u (l6▸e);have F:Vals (f.map (·.2)) b.toList:=by rw[E];exact GL g
 have G:=I.hok.fresh (ag _);have J:=I.laid (o:=.lst (f.map (·.2))) (t':=C) hk (ag _) ⟨by rw[ak];omega,b.toList,c,F,by simpa using D⟩;exact⟨.ref s.heap.objs.size,_,J,rfl,q _ G⟩
theorem GN:∀{bs:List Bool} {a:List Value},Vals (bs.map V.bl) a->a=bs.map Value.bool
 | [],_,r=>by cases r;rfl
 |b::bs,_,r=>by
  cases r with
  |cons c d=>cases c;rw[GN d];rfl
theorem GO (c:∀b t,e (.str b t)=(b==s)):∀{d:List Str} {a:List Value},Vals (d.map V.str) a->a.countP e=d.countP (· ==s)
 | [],_,r=>by cases r;rfl
 |b::bs,_,r=>by
  cases r with
  |cons f g=>obtain⟨t,rfl⟩:=f;rw[List.countP_cons,List.countP_cons,GO c g,c]
def pK:V->List V->Hp->VK->Prop:=λx vs H Q=>∃l,x=.ref l/\((∃(ss:List Str) (s:Str),vs=[.str s]/\H l=some (.lst (ss.map V.str))/\Q (.int (ss.countP (· ==s):Nat)) H)\/∃(bs:List Bool) (b:Bool),vs=[.bl b]/\H l=some (.lst (bs.map V.bl))/\Q (.int (bs.countP (· ==b):Nat)) H)
theorem PN:MtR X "list.count" pK:=by
 rintro w s A H x B v C Q I m j ⟨l,rfl,h⟩
 cases m;rcases h with⟨o,z,rfl,d,q⟩|⟨bs,b,rfl,d,q⟩
 ·obtain⟨u,rfl,k,rfl⟩:=j.one;obtain⟨_,a,n,r,_,e⟩:=I.kE d
  let f:Value->Bool:=λy=>match y with|.str b _=>b==z|_=>false
  refine jp PySem.F.slot_list_count ⟨_,e,rfl⟩ PySem.F.entry_list_count (PySem.F.args_list_count_2 _ _) (list_countAt l a.toArray n none _ (.str z k) f) ⟨e,λy g=>?_,?_⟩
  ·obtain⟨b,t,rfl⟩:=GK r y (by simpa using g);exact EqAt.str_str b t z k
  ·have i:=GO (e:=f) (λ_ _=>rfl) r;refine⟨.int (o.countP (· ==z):Nat),H,I.tok _,⟨_,by rw[<-i]⟩,q⟩
 ·obtain⟨u,rfl,rfl⟩:=j.one;obtain⟨_,a,n,r,_,e⟩:=I.kE d;have p:=GN r;subst p
  let f:Value->Bool:=λy=>match y with|.bool c=>c==b|_=>false
  refine jp PySem.F.slot_list_count ⟨_,e,rfl⟩ PySem.F.entry_list_count (PySem.F.args_list_count_2 _ _) (list_countAt l _ n none _ (.bool b) f) ⟨e,λy g=>?_,?_⟩
  ·obtain⟨c,_,rfl⟩:=cr.mp (show y∈bs.map Value.bool by simpa using g);exact EqAt.bool_bool c b
  ·have i:(bs.map Value.bool).countP f=bs.countP (· ==b):=by rw[List.countP_map];rfl
   exact⟨.int (bs.countP (· ==b):Nat),H,I.tok _,⟨_,by rw[<-i]⟩,q⟩
end
inductive W where
 |aZ (c:C)|raw (i:Nat)|bin (op:mj) (a b:W)|vG (c a b:W)|tup (xs:W)|lst (xs:W)|gU|ix (a b:W)|len (a:W)|get (o k:W)|bI (o:W) (f:Str)|bZ (j:Nat) (as:W)|eY (o:W) (j:Nat) (as:W)|mk (j:Nat) (as:W)|tp (c:C)|tc (op:CmpOp) (a b:W)|vH (a:W)|not (a:W)|yf (a b:W)|fI (f:Str)|gi (j:Nat)|lv (o:W)|cnt (o k:W)|gf (j:Nat)|qN (i j:Nat) (as:W)|nil|cons (a r:W)
 deriving Inhabited
structure Wc where
 K:W.Frag
 mg:Str->Option Value
 Κ:List D
 Φ:List Fn
 E:XK
 fn:List Sp
 me:List (Addr×Str×Sp)
 cl:List (Addr×Sp)
 xf:Option V:=none
 gi:List Int:=[]
 hf:List (Addr×Sp):=[]
structure Gw where
 g:Gm
 fn:List (Str×Nat)
 me:List (Str×Nat)
 cl:List (Str×Nat)
 xf:Option Str:=none
 gi:List Str:=[]
 fld:List (Str×Str):=[]
 hf:List (Str×Nat):=[]
def eE:TE:=λ_ _ _=>False
def GP (K:W.Frag)(t:TE):TT:=λσ H Q=>t σ H λx H'=>∃k,oH K x H' k/\Q k H'
section
variable (Z:Wc)
mutual
def wE:W->TE
 |.aZ c=>tD Z.K (aG Z.Κ Z.Φ c)
 |.raw i=>um i
 |.bin op a b=>lH (oY Z.K (cL op)) (wE a) (wE b)
 |.vG c a b=>DJ (wT c) (wE a) (wE b)
 |.tup xs=>uC (wA xs)
 |.lst xs=>uD (wA xs)
 |.gU=>Ed
 |.ix a b=>lH (rU Z.K) (wE a) (wE b)
 |.len a=>oI (z6v Z.K (biD "len")) (mD (wE a) eO)
 |.get o k=>Ef (wE o) (wE k)
 |.bI o f=>rh Z.K (wE o) f
 |.bZ j as=>match Z.fn[j]? with|some sp=>jP sp [] Z.E (wA as)|none=>eE
 |.eY o j as=>match Z.me[j]? with|some r=>qv r.1 r.2.1 r.2.2 [] Z.E (wE o) (wA as)|none=>eE
 |.mk j as=>match Z.cl[j]? with|some r=>sV r.1 r.2 [] Z.E (wA as)|none=>eE
 |.fI _=>match Z.xf with|some v=>λ_ H Q=>Q v H|none=>eE
 |.lv o=>oI ye (mD (rA Z.K "dict" yd (wE o)) eO)
 |.cnt o k=>uL Z.K "list" pK (wE o) (mD (wE k) eO)
 |.gi j=>match Z.gi[j]? with|some n=>λ_ H Q=>Q (.int n) H|none=>eE
 |.gf j=>match Z.hf[j]? with|some r=>λ_ H Q=>Q (.ref r.1) H|none=>eE
 |.qN i j as=>match Z.hf[j]? with|some r=>λσ H Q=>σ[i]?=some (some (.ref r.1))/\jP r.2 [] Z.E (wA as) σ H Q|none=>eE
 |_=>eE
def wA:W->TA
 |.nil=>eO
 |.cons a r=>mD (wE a) (wA r)
 |_=>λ_ _ _=>False
def wT:W->TT
 |.tp c=>dQ Z.K (dY Z.Κ Z.Φ c)
 |.tc op a b=>uA (lH (lP Z.K (mB (cmpD op))) (wE a) (wE b))
 |.vH a=>GP Z.K (wE a)
 |.not a=>uq (wT a)
 |.yf a b=>DF (wT a) (wT b)
 |_=>λ_ _ _=>False
end
end
mutual
def cH (Γ:Gw):W->Expr->Bool
 |.aZ c,e=>chkE Γ.g c e
 |.raw i,e=>hT (gZ Γ.g i) e
 |.bin op a b,e=>(rL e).any λv=>decide (v.2.1=op)&&xr op&&cH Γ a v.1&&cH Γ b v.2.2
 |.vG c a b,e=>(uQ e).any λv=>pL Γ c v.1&&cH Γ a v.2.1&&cH Γ b v.2.2
 |.tup xs,e=>(mO e).any λes=>lT Γ xs es
 |.lst xs,e=>(rN e).any λes=>lT Γ xs es
 |.gU,e=>(Ao e).any λv=>v.1.isEmpty&&v.2.isEmpty
 |.ix a b,e=>(mP e).any λv=>z5d v.2&&cH Γ a v.1&&cH Γ b v.2
 |.len a,e=>(jC e).any λv=>(v.1==("len":Str))&&dI Γ.g v.1&&(bP v.2).any λy=>!isStar y&&cH Γ a y
 |.get o k,e=>(mR e).any λv=>((v.2.1==("get":Str))&&z0o v.1&&v.2.2.2)&&cH Γ o v.1&&(bP v.2.2.1).any λy=>!isStar y&&cH Γ k y
 |.bI o f,e=>(tj e).any λv=>(v.2.1==f)&&z0o v.1&&cH Γ o v.1
 |.bZ j as,e=>(jC e).any λv=>lO Γ.g v.1&&(Γ.fn[j]?==some (v.1,v.2.length))&&lT Γ as v.2&&(Γ.g.cm&& !v.2.isEmpty)
 |.eY o j as,e=>Γ.g.cm&&(mR e).any λv=>(z0o v.1&&v.2.2.2&&decide (v.2.2.1.length<20))&&(Γ.me[j]?==some (v.2.1,v.2.2.1.length))&&cH Γ o v.1&&lT Γ as v.2.2.1
 |.mk j as,e=>(jC e).any λv=>lO Γ.g v.1&&(Γ.cl[j]?==some (v.1,v.2.length))&&lT Γ as v.2&&(Γ.g.cm&& !v.2.isEmpty)
 |.fI f,e=>(tj e).any λv=>(v.2.1==f)&&z0o v.1&&(hT (λx=>Γ.g.xc.any λu=>u.1==x) v.1)&&(Γ.xf==some f)
 |.lv o,e=>Γ.g.cm&&(jC e).any λv=>(v.1==("list":Str))&&dI Γ.g v.1&&(bP v.2).any λy=>(mR y).any λm=>((m.2.1==("values":Str))&&z0o m.1&&m.2.2.2)&&cH Γ o m.1&&m.2.2.1.isEmpty
 |.cnt o k,e=>(mR e).any λv=>((v.2.1==("count":Str))&&z0o v.1&&v.2.2.2)&&cH Γ o v.1&&(bP v.2.2.1).any λy=>!isStar y&&cH Γ k y
 |.gi j,e=>hT (λx=>lO Γ.g x&&(Γ.gi[j]?==some x)) e
 |.gf j,e=>hT (λx=>lO Γ.g x&&(Γ.hf[j]?.any λu=>u.1==x)) e
 |.qN i j as,e=>(jC e).any λv=>gZ Γ.g i v.1&&(Γ.hf[j]?.any λu=>u.2==v.2.length)&&lT Γ as v.2&&(Γ.g.cm&& !v.2.isEmpty)
 |_,_=>false
def lT (Γ:Gw):W->List Expr->Bool
 |.nil,es=>es.isEmpty
 |.cons a r,es=>match es with|e::es=>!isStar e&&cH Γ a e&&lT Γ r es|_=>false
 |_,_=>false
def pL (Γ:Gw):W->Expr->Bool
 |.tp c,e=>eQ Γ.g c e
 |.tc op a b,e=>(rM e).any λv=>decide (v.2.1=[op])&&(bP v.2.2).any λr=>z2h op&& !(dq op r)&&cH Γ a v.1&&cH Γ b r
 |.vH a,e=>plainT e&&cH Γ a e
 |.not a,e=>(xq e).any λv=>decide (v.1=.Not)&&pL Γ a v.2
 |.yf a b,e=>(ti e).any λv=>decide (v.1=.Or)&&tm (λx=>pL Γ a x) (λx=>pL Γ b x) .Or v.2.2 v.2.1
 |_,_=>false
end
structure Zok (Γ:Gw)(Z:Wc)(CX:CXT)(P:cc)(w:World)(K:W.Frag)(mg:Str->Option Value)(base:Heap)(r:Nat):Prop where
 kk:Z.K=K
 mm:Z.mg=mg
 fn:∀(j:Nat) x n,Γ.fn[j]?=some (x,n)->∃sp f fd ps k,Z.fn[j]?=some sp/\k<=r/\FnOk P w K mg base CX k f fd ps sp/\mg x=some (.ref f)/\W.keepIn K (.ref f)=true/\Binds K fd ps []
 me:∀(j:Nat) m n,Γ.me[j]?=some (m,n)->∃C sp f fd ps k,Z.me[j]?=some (C,m,sp)/\k<=r/\FnOk P w K mg base CX k f fd ps sp/\Cls K C/\Meth K C m f/\Binds K fd ps []
 cl:∀(j:Nat) x n,Γ.cl[j]?=some (x,n)->∃C sp f fd ps k,Z.cl[j]?=some (C,sp)/\k+1<=r/\FnOk P w K mg base CX k f fd ps sp/\Mk K C f/\mg x=some (.ref C)/\Binds K fd ps []
 gi:∀(j:Nat) x,Γ.gi[j]?=some x->∃n t,Z.gi[j]?=some n/\mg x=some (.int n t)
 hf:∀(j:Nat) x n,Γ.hf[j]?=some (x,n)->∃sp f fd ps k,Z.hf[j]?=some (f,sp)/\k<=r/\FnOk P w K mg base CX k f fd ps sp/\mg x=some (.ref f)/\W.keepIn K (.ref f)=true/\Binds K fd ps []
structure Wok (Γ:Gw)(Z:Wc)(CX:CXT)(X:Cx)(r:Nat):Prop extends Zok Γ Z CX X.prog X.w X.K X.mg X.base r where
 ck:Cok Γ.g Z.Κ Z.Φ X r
 room:Γ.g.cm=true->Room r X.A
 px:z2l CX X Z.E
 xf:∀f,Γ.xf=some f->∃v,Z.xf=some v/\∀n c,Γ.g.xc=some (n,c)->∀p q,z0o (.Name n p)=true->PE X (.Attribute (.Name n p) f q) (λ_ H Q=>Q v H)
section
variable {X:Cx}
theorem z9w {C:Addr}(n:PE X o ta)(c:Cls X.K C)(hm:Meth X.K C m f)
  (i:z0o o=true) (j:(F.all λe=>!isStar e)=true) (p:F.length<20) (b:(apos.endLine==z.line)=true)
  (go:∀B s D H (Q:VK) a,Inv X B D H s->(t D H λvs r=>sp (.ref a::(vs++[])) r Q E)->wpAny (model X.prog X.w) X.A (callWith z (.ref f) [.ref a] (gy z (cn F X.env)) (o4 z (ku [] X.env))) (EP X B D Q) X.xe s):
  PE X (.Call (.Attribute o m apos) F [] z) (qv C m sp [] E ta t):=by
 intro B s D H Q I h;rw[arm_eval_Call,lK i];refine aa (aM (n B s D H _ I h) λu s1 ⟨x,G,k,v,a,J,fs,ex,y,l,q⟩=>?_);subst ex;obtain rfl:u=Value.ref a:=v;refine aa (gw ?_);have d:methodCallForm (F.length+([]:List lr).length) (gy z (cn F X.env)) (o4 z (ku [] X.env))=true:=z3i j p;have g:methodCallPos true o X.env apos z=pure z:=by unfold methodCallPos;simp[b]
 unfold methodCall;rw[d];refine aa (ei (zb7 k y c hm l ?_));exact aa (wpAny_of_eq g (go B s1 D G Q a k q))
variable {CX:CXT}{k:Nat}{f C:Addr}{fd:ef}{ps:List Str}{sp:Sp}{E:XK}{m:Str}{apos bV:Pos}{o e:Expr}{es:List Expr}{ta:TE}{t:TA}
theorem zf8 (i:PE X o ta)(c:Cls X.K C)(hm:Meth X.K C m f)(F:FnOk X.prog X.w X.K X.mg X.base CX k f fd ps sp)(j:Room k X.A)(l:Binds X.K fd ps [])(n:z2l CX X E)(p:PA X (e::es) t)
  (g:z0o o=true) (b:((e::es).all λe=>!isStar e)=true) (u:(e::es).length<20) (d:(apos.endLine==bV.line)=true):
  PE X (.Call (.Attribute o m apos) (e::es) [] bV) (qv C m sp [] E ta t):=
 z9w i c hm g b u d λpins s σ H Q a I q=>by rw[cj,au]at b;refine W.callWith_K I.ok.mod.sT hm.kp (aM (p bV pins s σ H _ I q) λus x ⟨vs,y,h,r,v⟩=>⟨h.cZ,?_⟩) (eA (by simpa using b.1)) (lL b.2);exact z9i (vs:=.ref a::vs) F j l .nil n h (.cons rfl r) v
theorem zbr (e:PE X o ta)(c:Cls X.K C)(hm:Meth X.K C m f)(F:FnOk X.prog X.w X.K X.mg X.base CX k f fd ps sp)(g:Room k X.A)(h:Binds X.K fd ps [])(i:z2l CX X E)
  (d:z0o o=true) (b:(apos.endLine==bV.line)=true):
  PE X (.Call (.Attribute o m apos) [] [] bV) (qv C m sp [] E ta eO):=
 z9w e c hm d rfl dc b λj s l H Q a I q=>W.callWith_K0 I.cZ hm.kp (z9i (vs:=[.ref a]) F g h .nil i I (.cons rfl .nil) q)
end
section
variable {Γ:Gw}{Z:Wc}{CX:CXT}{X:Cx}{r:Nat}
structure We (w:W):Prop where
 E:∀(Γ:Gw) (Z:Wc) (CX:CXT) (X:Cx) (r:Nat) (e:Expr),Wok Γ Z CX X r->cH Γ w e=true->PE X e (wE Z w)
 A:∀(Γ:Gw) (Z:Wc) (CX:CXT) (X:Cx) (r:Nat) (es:List Expr),Wok Γ Z CX X r->lT Γ w es=true->PA X es (wA Z w)
 T:∀(Γ:Gw) (Z:Wc) (CX:CXT) (X:Cx) (r:Nat) (e:Expr),Wok Γ Z CX X r->pL Γ w e=true->PT X e (wT Z w)/\((∃o l p,e=.BoolOp o l p)->PW X e (wT Z w))
theorem We.x (h:∀(Γ:Gw) (Z:Wc) (CX:CXT) (X:Cx) (r:Nat) (e:Expr),Wok Γ Z CX X r->cH Γ w e=true->PE X e (wE Z w))(a:∀Γ es,lT Γ w es=false)(b:∀Γ e,pL Γ w e=false):We w where
 E:=h
 A:=λΓ Z CX X r es k z=>ff (a Γ es) z
 T:=λΓ Z CX X r e k z=>ff (b Γ e) z
theorem We.t (h:∀Γ Z CX X r e,Wok Γ Z CX X r->pL Γ w e=true->PT X e (wT Z w)/\((∃o l p,e=.BoolOp o l p)->PW X e (wT Z w)))(a:∀Γ e,cH Γ w e=false)(b:∀Γ c,lT Γ w c=false):We w where
 E:=λΓ Z CX X r e k z=>ff (a Γ e) z
 A:=λΓ Z CX X r c k z=>ff (b Γ c) z
 T:=h
theorem zhf {i:Nat}{g a}(hN:X.N[i]?=some x)(m:Vis X.env.scope x)(hd:Ue x)(b:(x==("__classdict__":Str))=false)(F:FnOk X.prog X.w X.K X.mg X.base CX k f fd ps P)(n:Room k X.A)(hk:W.keepIn X.K (.ref f)=true)(o:Binds X.K fd ps g)(c:Vals a g)(y:z2l CX X E)
  (z:PA X (e::O) t) (B:cn (e::O) X.env=(false,eval e X.env)::cn O X.env) (d:(gy M (cn O X.env)).any (·.1)=false):
  PE X (.Call (.Name x p) (e::O) [] M) (λL H Q=>L[i]?=some (some (.ref f))/\jP P a E t L H Q):=by
 intro J s L H Q I h;refine ey (aM (oF hN m hd b J s L H (λv R=>v=.ref f/\jP P a E t L R Q) I ⟨_,h.1,rfl,h.2⟩) λu s1 ⟨v,S,j,r,C,h⟩=>?_);subst C;obtain rfl:u=Value.ref f:=r;refine W.callWith_K j.ok.mod.sT hk (aM (z M J s1 L S _ j h) λT D ⟨U,G,l,r,q⟩=>⟨l.cZ,?_⟩) B d;exact z9i F n o c y l r q
theorem vI:∀{w:W} {d:List Expr},lT Γ w d=true->(d.all λe=> !isStar e)=true
 |.nil,d,h=>by cases fL h;rfl
 |.cons a r,[],h=>by cases h
 |.cons a r,e::d,h=>by obtain⟨b,_,c⟩:=aP h;rw[cj,b,vI c];rfl
theorem Wok.rm (k:Wok Γ Z CX X r)(a:Γ.g.cm=true)(h:j<=r):Room j X.A:=(k.room a).mono h
theorem eqB {c:Type} [BEq c] [LawfulBEq c] {a b:c}(h:(a==b)=true):a=b:=eq_of_beq h
theorem PQ (h:((rM e).any λv=>decide (v.2.1=[c])&&(bP v.2.2).any λr=>z2h c&& !(dq c r)&&cH Γ a v.1&&cH Γ b r)=true):∃l r p,e=.Compare l [c] [r] p/\z2h c=true/\dq c r=false/\cH Γ a l=true/\cH Γ b r=true:=by obtain⟨⟨l,o,rs⟩,g,i⟩:=aL h;obtain⟨p,rfl⟩:=pB g;obtain⟨j,d⟩:=aC i;obtain⟨r,k,f⟩:=aL d;cases qj j;cases fR k;obtain⟨d,f,m,n⟩:=bJ f;exact⟨l,r,p,rfl,d,cN f,m,n⟩
theorem B9 (h:cH Γ (.eY o j f) e=true):Γ.g.cm=true/\∃b m a v c,e=.Call (.Attribute b m a) v [] c/\(a.endLine==c.line)=true/\z0o b=true/\v.length<20/\Γ.me[j]?=some (m,v.length)/\cH Γ o b=true/\lT Γ f v=true:=by obtain⟨d,h⟩:=aC h;obtain⟨⟨x,n,v,b⟩,i,k⟩:=aL h;obtain⟨a,c,rfl,l⟩:=fS i;obtain⟨h0,p,q,r⟩:=bJ k;obtain⟨s,t,u⟩:=aP h0;exact⟨d,x,n,a,v,c,rfl,l.symm.trans t,s,qj u,eqB p,q,r⟩
theorem PR (b:z0o o=true)(a:(!isStar e)=true)(c:(d.endLine==f.line)=true):M1 X o m d e f:=⟨lK b,z3i (by rw[cj,a];rfl) (show 1<20 by decide),c,by rw[eA (cN a)];rfl⟩
theorem dF (w:W):We w:=by
 induction w with
 |aZ c=>exact We.x (λΓ Z CX X r e k h=>by show PE X e (tD Z.K (aG Z.Κ Z.Φ c));rw[k.kk];exact(all c).E Γ.g X r e k.ck h) (λ_ _=>rfl) λ_ _=>rfl
 |raw i=>exact We.x (λΓ Z CX X r e k h=>by obtain⟨x,p,rfl,h⟩:=hD h;obtain⟨d,B,G,D⟩:=k.ck.aN h;exact oF d B G D) (λ_ _=>rfl) λ_ _=>rfl
 |bin op a b M Y=>exact We.x (λΓ Z CX X r e k h=>by obtain⟨v,J,L⟩:=aL h;obtain⟨p,rfl⟩:=FO J;obtain⟨d,B,G,D⟩:=bJ L;cases qj d;show PE X _ (lH (oY Z.K (cL _)) _ _);rw[k.kk];exact DU (EK _ B) (M.E Γ Z CX X r _ k G) (Y.E Γ Z CX X r _ k D)) (λ_ _=>rfl) λ_ _=>rfl
 |vG c a b ic M Y=>exact We.x (λΓ Z CX X r e k h=>by obtain⟨v,J,L⟩:=aL h;obtain⟨p,rfl⟩:=N7 J;obtain⟨d,B,G⟩:=aP L;exact JL (ic.T Γ Z CX X r _ k d).1 (M.E Γ Z CX X r _ k B) (Y.E Γ Z CX X r _ k G)) (λ_ _=>rfl) λ_ _=>rfl
 |tup xs M=>exact We.x (λΓ Z CX X r e k h=>by obtain⟨v,J,L⟩:=aL h;obtain⟨_,_,rfl⟩:=vk J;exact zM (M.A Γ Z CX X r _ k L)) (λ_ _=>rfl) λ_ _=>rfl
 |lst xs M=>exact We.x (λΓ Z CX X r e k h=>by obtain⟨v,J,L⟩:=aL h;obtain⟨_,rfl⟩:=FP J;exact D5 (M.A Γ Z CX X r _ k L)) (λ_ _=>rfl) λ_ _=>rfl
 |gU=>exact We.x (λΓ Z CX X r e k h=>by obtain⟨⟨a,b⟩,J,L⟩:=aL h;obtain⟨_,rfl⟩:=vm J;obtain⟨d,B⟩:=aC L;cases fL d;cases fL B;exact Ee) (λ_ _=>rfl) λ_ _=>rfl
 |ix a b M Y=>exact We.x (λΓ Z CX X r e k h=>by obtain⟨v,J,L⟩:=aL h;obtain⟨_,rfl⟩:=xU J;obtain⟨d,B,G⟩:=aP L;show PE X _ (lH (rU Z.K) _ _);rw[k.kk];exact Em (EY k.ck.hu) (M.E Γ Z CX X r _ k B) (Y.E Γ Z CX X r _ k G) (EZ d)) (λ_ _=>rfl) λ_ _=>rfl
 |len a M=>exact We.x (λΓ Z CX X r e k h=>by obtain⟨⟨x,es⟩,J,L⟩:=aL h;obtain⟨_,_,rfl⟩:=jH J;obtain⟨d,B,G⟩:=aP L;obtain⟨y,hy,D⟩:=aL G;cases fR hy;obtain⟨D,P⟩:=aC D;have d:=eqB d;subst d;obtain⟨U,g2,g3,g4⟩:=k.ck.blt B;show PE X _ (oI (z6v Z.K (biD "len")) _);rw[k.kk];exact xo E2 g2 (show cq "len"=_ by decide+kernel) (dN (M.E Γ Z CX X r _ k P) j' (cN D)) (by rw[cj,D];rfl) U g4 g3) (λ_ _=>rfl) λ_ _=>rfl
 |get o y io iy=>exact We.x (λΓ Z CX X r e k h=>by obtain⟨⟨x,n,es,b⟩,J,L⟩:=aL h;obtain⟨ap,cp,rfl,hb⟩:=fS J;obtain⟨h0,R,h7⟩:=aP L;obtain⟨d,B,G⟩:=aP h0;obtain⟨y,hy,D⟩:=aL h7;cases fR hy;obtain⟨D,P⟩:=aC D;have d:=eqB d;subst d;exact Ks (ki (m8 dc _) k.ck.hu) (io.E Γ Z CX X r _ k R) (iy.E Γ Z CX X r _ k P) (PR B D (hb.symm.trans G))) (λ_ _=>rfl) λ_ _=>rfl
 |bI o f io=>exact We.x (λΓ Z CX X r e k h=>by obtain⟨⟨x,n,p⟩,J,L⟩:=aL h;cases mW J;obtain⟨d,B,G⟩:=aP L;have d:=eqB d;subst d;show PE X _ (rh Z.K _ _);rw[k.kk];exact Kg (io.E Γ Z CX X r _ k G) (lK B)) (λ_ _=>rfl) λ_ _=>rfl
 |bZ j O M=>exact We.x (λΓ Z CX X r e k h=>by
  obtain⟨⟨x,es⟩,J,L⟩:=aL h;obtain⟨_,_,rfl⟩:=jH J;obtain⟨d,B,G,D⟩:=bJ L;obtain⟨N,D⟩:=aC D;obtain⟨y,es,rfl⟩:=qI D;obtain⟨U,g2⟩:=k.ck.gl d;obtain⟨sp,f,fd,ps,n,c1,c2,c3,c4,c5,c6⟩:=k.fn j _ _ (eqB B);obtain⟨s1,s2⟩:=cj.symm.trans (vI G) |> ba.mp;have S:wE Z (.bZ j O)=jP sp [] Z.E (wA Z O):=by show(match Z.fn[j]? with|some sp=>jP sp [] Z.E (wA Z O)|none=>eE)=_;rw[c1]
  rw[S];exact zdn c3 (k.rm N c2) U c4 c5 c6 .nil k.px (M.A Γ Z CX X r _ k G) g2 (eA (cN s1)) (lL s2)) (λ_ _=>rfl) λ_ _=>rfl
 |eY o j O io M=>exact We.x (λΓ Z CX X r e k h=>by
  obtain⟨N,b,m,ap,es,cp,rfl,d,B,G,D,P,R⟩:=B9 h;obtain⟨C,sp,f,fd,ps,n,c1,c2,c3,c4,c5,c6⟩:=k.me j _ _ D;have S:wE Z (.eY o j O)=qv C m sp [] Z.E (wE Z o) (wA Z O):=by show(match Z.me[j]? with|some r=>qv r.1 r.2.1 r.2.2 [] Z.E (wE Z o) (wA Z O)|none=>eE)=_;rw[c1]
  rw[S];have ho:=io.E Γ Z CX X r _ k P;cases es with
  |nil=>
   refine PE.imp (zbr ho c4 c5 c3 (k.rm N c2) c6 k.px B d) λσ H Q q=>?_;have:wA Z O=eO:=by cases O<;>first|rfl|(cases R;done)
   rw[this]at q;exact q
  |cons y es=>exact zf8 ho c4 c5 c3 (k.rm N c2) c6 k.px (M.A Γ Z CX X r _ k R) B (vI R) G d) (λ_ _=>rfl) λ_ _=>rfl
 |mk j O M=>exact We.x (λΓ Z CX X r e k h=>by
  obtain⟨⟨x,es⟩,J,L⟩:=aL h;obtain⟨_,_,rfl⟩:=jH J;obtain⟨d,B,G,D⟩:=bJ L;obtain⟨N,D⟩:=aC D;obtain⟨y,es,rfl⟩:=qI D;obtain⟨U,g2⟩:=k.ck.gl d;obtain⟨C,sp,f,fd,ps,n,c1,c2,c3,c4,c5,c6⟩:=k.cl j _ _ (eqB B);obtain⟨s1,s2⟩:=cj.symm.trans (vI G) |> ba.mp;have S:wE Z (.mk j O)=sV C sp [] Z.E (wA Z O):=by show(match Z.cl[j]? with|some r=>sV r.1 r.2 [] Z.E (wA Z O)|none=>eE)=_;rw[c1]
  rw[S];exact zka c4 c3 ((k.room N).mono c2) U c5 c6 .nil k.px (M.A Γ Z CX X r _ k G) g2 (eA (cN s1)) (lL s2)) (λ_ _=>rfl) λ_ _=>rfl
 |tp c=>exact We.t (λΓ Z CX X r e k h=>by show PT X e (dQ Z.K (dY Z.Κ Z.Φ c))/\(_->PW X e (dQ Z.K (dY Z.Κ Z.Φ c)));rw[k.kk];exact(all c).T Γ.g X r e k.ck h) (λ_ _=>rfl) λ_ _=>rfl
 |tc op a b M Y=>exact We.t (λΓ Z CX X r e k h=>by obtain⟨_,_,_,rfl,B,G,D,P⟩:=PQ h;refine⟨?_,λ⟨_,_,_,z⟩=>by cases z⟩;show PT X _ (uA (lH (lP Z.K (mB (cmpD _))) _ _));rw[k.kk];exact DW (rT k.ck.hu _ B) (M.E Γ Z CX X r _ k D) (Y.E Γ Z CX X r _ k P) G) (λ_ _=>rfl) λ_ _=>rfl
 |vH a M=>exact We.t (λΓ Z CX X r e k h=>by obtain⟨d,B⟩:=aC h;refine⟨?_,λ⟨_,_,_,z⟩=>by subst z;cases d⟩;show PT X _ (GP Z.K _);rw[k.kk];exact z9f (M.E Γ Z CX X r _ k B) (FR d _)) (λ_ _=>rfl) λ_ _=>rfl
 |not a M=>exact We.t (λΓ Z CX X r e k h=>by obtain⟨⟨o,x⟩,J,L⟩:=aL h;obtain⟨p,rfl⟩:=rV J;obtain⟨d,B⟩:=aC L;cases qj d;exact⟨DH (M.T Γ Z CX X r _ k B).1,λ⟨_,_,_,z⟩=>by cases z⟩) (λ_ _=>rfl) λ_ _=>rfl
 |yf a b M Y=>exact We.t (λΓ Z CX X r e k h=>by
  obtain⟨⟨o,xs,p⟩,J,L⟩:=aL h;cases mV J;obtain⟨d,B⟩:=aC L;cases qj d;rcases vq B with⟨x,y,rfl,G,D⟩|⟨x,y,z,t,rfl,G,D⟩
  ·have w:=zy (pos:=p) (M.T Γ Z CX X r _ k G).1 (DG (Y.T Γ Z CX X r _ k D).1);exact⟨w.pt,λ_=>w⟩
  ·have w:=zy (M.T Γ Z CX X r _ k G).1 ((Y.T Γ Z CX X r _ k D).2 ⟨_,_,_,rfl⟩);exact⟨w.pt,λ_=>w⟩) (λ_ _=>rfl) λ_ _=>rfl
 |fI f=>exact We.x (λΓ Z CX X r e k h=>by
  obtain⟨⟨x,n,p⟩,J,L⟩:=aL h;cases mW J;obtain⟨d,h0,B,G⟩:=bJ L;have d:=eqB d;subst d;obtain⟨y,q,rfl,D⟩:=hD B;obtain⟨⟨m,c⟩,P,R⟩:=aL D;have R:=eqB R;subst R;obtain⟨v,e1,e2⟩:=k.xf n (eqB G);have S:wE Z (.fI n)=λ_ H Q=>Q v H:=by show(match Z.xf with|some v=>(λ_ H Q=>Q v H:TE)|none=>eE)=_;rw[e1]
  rw[S];exact e2 m c P _ _ h0) (λ_ _=>rfl) λ_ _=>rfl
 |lv o io=>exact We.x (λΓ Z CX X r e k h=>by obtain⟨N,h⟩:=aC h;obtain⟨⟨x,es⟩,J,L⟩:=aL h;obtain⟨_,_,rfl⟩:=jH J;obtain⟨d,B,G⟩:=aP L;obtain⟨y,hy,D⟩:=aL G;cases fR hy;obtain⟨⟨b,n,es,l⟩,hm,h8⟩:=aL D;obtain⟨ap,cp,rfl,hb⟩:=fS hm;obtain⟨h0,R,h7⟩:=aP h8;obtain⟨P,PU,PV⟩:=aP h0;cases fL h7;have P:=eqB P;subst P;have d:=eqB d;subst d;obtain⟨U,g2,g3,g4⟩:=k.ck.blt B;show PE X _ (oI ye (mD (rA Z.K "dict" yd _) eO));rw[k.kk];exact z6 (PM (k.ck.calm N)) g2 (show cq "list"=_ by decide+kernel) (dN (zdj PySem.F.plainAttrs_dict PySem.F.slot_dict_values PySem.F.type_dict_values PK (io.E Γ Z CX X r _ k R) (lK PU) (hb.symm.trans PV)) j' rfl) rfl U g4 g3) (λ_ _=>rfl) λ_ _=>rfl
 |cnt o y io iy=>exact We.x (λΓ Z CX X r e k h=>by obtain⟨⟨x,n,es,b⟩,J,L⟩:=aL h;obtain⟨ap,cp,rfl,hb⟩:=fS J;obtain⟨h0,R,h7⟩:=aP L;obtain⟨d,B,G⟩:=aP h0;obtain⟨y,hy,D⟩:=aL h7;cases fR hy;obtain⟨D,P⟩:=aC D;have d:=eqB d;subst d;show PE X _ (uL Z.K "list" pK _ _);rw[k.kk];exact zb1 PySem.F.plainAttrs_list PySem.F.slot_list_count PySem.F.type_list_count PN (io.E Γ Z CX X r _ k R) (dN (iy.E Γ Z CX X r _ k P) j' (cN D)) (lK B) (z3i (by rw[cj,D];rfl) (show 1<20 by decide)) (hb.symm.trans G) (eA (cN D)) (lL rfl)) (λ_ _=>rfl) λ_ _=>rfl
 |gi j=>exact We.x (λΓ Z CX X r e k h=>by
  obtain⟨x,p,rfl,d⟩:=hD h;obtain⟨B,G⟩:=aC d;obtain⟨U,g2⟩:=k.ck.gl B;obtain⟨n,t,e1,e2⟩:=k.gi j x (eqB G);have S:wE Z (.gi j)=λ_ H Q=>Q (.int n) H:=by show(match Z.gi[j]? with|some n=>(λ_ H Q=>Q (.int n) H:TE)|none=>eE)=_;rw[e1]
  rw[S];exact λpins s σ H Q I h=>z2m I U e2 ⟨.int n,H,I,⟨t,rfl⟩,h⟩ g2) (λ_ _=>rfl) λ_ _=>rfl
 |gf j=>exact We.x (λΓ Z CX X r e k h=>by
  obtain⟨x,p,rfl,d⟩:=hD h;obtain⟨B,G⟩:=aC d;obtain⟨U,g2⟩:=k.ck.gl B;obtain⟨u,hu,D⟩:=aL G;obtain⟨sp,f,fd,ps,n,c1,c2,c3,c4,c5⟩:=k.hf j u.1 u.2 hu;cases qm D;have S:wE Z (.gf j)=λ_ H Q=>Q (V.ref f) H:=by show(match Z.hf[j]? with|some r=>(λ_ H Q=>Q (.ref r.1) H:TE)|none=>eE)=_;rw[c1]
  rw[S];exact λpins s σ H Q I h=>z2m I U c4 ⟨.ref f,H,I,rfl,h⟩ g2) (λ_ _=>rfl) λ_ _=>rfl
 |qN i j O M=>exact We.x (λΓ Z CX X r e k h=>by
  obtain⟨⟨x,es⟩,J,L⟩:=aL h;obtain⟨_,_,rfl⟩:=jH J;obtain⟨d,B,G,D⟩:=bJ L;obtain⟨N,D⟩:=aC D;obtain⟨y,es,rfl⟩:=qI D;obtain⟨v1,v2,v3,v4⟩:=k.ck.aN d;obtain⟨u,hu,P⟩:=aL B;obtain⟨sp,f,fd,ps,n,c1,c2,c3,c4,c5,c6⟩:=k.hf j u.1 u.2 hu;obtain⟨s1,s2⟩:=cj.symm.trans (vI G) |> ba.mp;have S:wE Z (.qN i j O)=λσ H Q=>σ[i]?=some (some (V.ref f))/\jP sp [] Z.E (wA Z O) σ H Q:=by show(match Z.hf[j]? with|some r=>(λσ H Q=>σ[i]?=some (some (V.ref r.1))/\jP r.2 [] Z.E (wA Z O) σ H Q:TE)|none=>eE)=_;rw[c1]
  rw[S];exact zhf v1 v2 v3 v4 c3 (k.rm N c2) c5 c6 .nil k.px (M.A Γ Z CX X r _ k G) (eA (cN s1)) (lL s2)) (λ_ _=>rfl) λ_ _=>rfl
 |nil=>exact⟨λ_ _ _ _ _ _ _ h=>ff rfl h,λΓ Z CX X r es k h=>by cases fL h;exact j',λ_ _ _ _ _ _ _ h=>ff rfl h⟩
 |cons a q M iq=>exact⟨λ_ _ _ _ _ _ _ h=>ff rfl h,λΓ Z CX X r es k h=>by
  cases es with
  |nil=>cases h
  |cons e es=>obtain⟨d,B,G⟩:=aP h;exact dN (M.E Γ Z CX X r _ k B) (iq.A Γ Z CX X r _ k G) (cN d),λ_ _ _ _ _ _ _ h=>ff rfl h⟩
end
def jS (X:Cx)(pn:List (Addr×Obj))(E:Value->aw->Prop):Cx:={X with pn:=pn,xe:=E}
theorem GQ (ok:X.Ok):(jS X pn E).Ok:=⟨ok.mod,ok.kind,ok.glob,ok.blt,ok.above,ok.inj,ok.has,ok.qY,ok.hd,ok.frames,ok.sU,ok.fI,ok.bs,ok.lF,ok.iV,ok.iW,ok.cU,ok.oE,ok.wO⟩
theorem PX (I:Inv X b c H s)(E:Value->aw->Prop):Inv (jS X (X.pn++b) E) [] c H s:=⟨GQ I.ok,I.os,I.bare,I.base,I.loc,I.cell,I.free,I.bH,λp a=>I.pin p (by simpa[Mi.jS]using a),I.hok,I.len,I.fx⟩
theorem Ca (ok:X.Ok)(I:Inv (jS X (X.pn++b) E) qu c H s):Inv X b c H s:=⟨ok,I.os,I.bare,I.base,I.loc,I.cell,I.free,I.bH,λp a=>I.pin p (db _ a),I.hok,I.len,I.fx⟩
theorem GR (k:Cok Γ Κ Φ X r)(a:Γ.xc=none)(pn:List (Addr×Obj))(E:Value->aw->Prop):Cok Γ Κ Φ (jS X pn E) r:=⟨k.hN,k.hs,k.nd,k.fn,k.kind,k.free,k.fns,k.cst,k.kR,k.room,k.calm,k.hu,k.mX,k.xW,λn c z=>(by rw[a]at z;cases z),k.xk⟩
section
variable {P:cc}{w:World}{A:e9}{E:Value->aw->Prop}{h:Heap}{g:Array pd}{d:Drawn}{t:Nat}{os:jv}
variable {nm q:Str}{C N:Addr}{bs bm bB:List Value}{hdct:Bool}{sn:List Str}{sub:List Value}{ab:Bool}{col:Option Bool}{dd:Option Addr}{k0 k1 k2 k3 k5:Option Value}{B newId initId:String}{mN:Str->Option Value}{us:List Value}{f:Addr}{o:Obj}
theorem zs3 (F:ExcBaseFacts B newId initId bB)(T:pc h bB bm){Q:Fin->aw->Prop}(a:h.get? C=some (ml nm q C N bs bm hdct sn sub ab col dd k0 k1 k2 k3 k5 newId))(hN:h.Ns N mN)(x:mN "__init__"=some (.ref f))(hf:h.get? f=some o)(n:o.cls=.type "function")
  (go:∀l e,h.objs.size<=e->ke h l e (.ref C) us->wpAny (model P w) A (call (.ref f) (.ref e::us)) (λr v=>r=.none/\Q (.done (.ret (.ref e))) v) E ⟨l,g,d,t,os⟩) (p:us.length<=av):
  wpAny (model P w) A (Builtin.«type.__call__» ⟨.ref C::us,[]⟩) Q E ⟨h,g,d,t,os⟩:=by
 repeat (first|(with_reducible refine wpAny_madeBy_exc a ?_)|(with_reducible refine bw a ?_)|wp_step)
 refine codeAny_call_builtin_code (Code.quiet_builtin _ F.quiet) (wpAny_check_new_subT F T a (codeAny_exc_new_subT F T a ?_ p));generalize m:({cls:=.type "tuple",data:=.seq us.toArray}:Obj)=c;generalize k:({cls:=.ref C,data:=.fields #[.ref h.objs.size,.none,.none,.none,.bool false,.none]}:Obj)=s;have keep:∀b u,h.get? b=some u->((h.push c).push s).get? b=some u:=λb u z=>af _ (af _ z);have i:((h.push c).push s).get? (h.objs.size+1)=some s:=kz (by rw[ma]) (by rw[<-k];rfl);have Cb:((h.push c).push s).get? h.objs.size=some c:=af _ (kz rfl (by rw[<-m];rfl));have j:s.cls=.ref C:=by rw[<-k]
 have self:(Value.ref C::bm).contains (.ref C)=true:=by simp
 show wpAny _ _ _ _ _ _;unfold kb
 repeat (first|(with_reducible refine bw i ?_;rw[j])|(with_reducible refine fq (keep _ _ a) ?_;rw[self])|wp_step)
 refine wpAny_typeLookup_tail (keep _ _ a) (hN.keeps keep) (T.keeps keep) F.mroIs F.init.lookup ?_;rw[x];apply ei;apply aa;unfold bindSpecial;refine aa (wpAny_typeOf (T:="function") ⟨o,keep _ _ hf,n⟩ ?_);rw[qe (show(_:Bool)=true from by decide)];have made:ke h ((h.push c).push s) (h.objs.size+1) (.ref C) us:=⟨keep,fi (gc _),h.objs.size,by rw[i,<-k],fi (ag _),by rw[Cb,<-m]⟩;refine am (aa (gk (go _ _ (gc _) made) (λr v z=>?_) λ_ _ z=>z));obtain⟨rfl,z⟩:=z
 wp_walk
 exact z
theorem zu0 (F:ExcBaseFacts B newId initId bB)(T:pc h bB bm)(a:h.get? C=some (ml nm q C N bs bm hdct sn sub ab col dd k0 k1 k2 k3 k5 newId))(hN:h.Ns N mN)(c:mN "__init__"=some (.ref f))(hf:h.get? f=some o)(i:o.cls=.type "function")
  (go:∀b e,h.objs.size<=e->ke h b e (.ref C) us->wpAny (model P w) (A.under (.builtin "type.__call__" ⟨.ref C::us,[]⟩)) (call (.ref f) (.ref e::us)) (λr j=>r=.none/\Q (.ref e) j) E ⟨b,g,d,t,os⟩) (k:us.length<=av):
  wpAny (model P w) A (call (.ref C) us) Q E ⟨h,g,d,t,os⟩:=by
 have l1:=tc_lookup;have l2:=tc_bind (.ref C);apply n9;apply codeAny_of_tree
 repeat (any_goals (first|(with_reducible refine bw a ?_)|assumption|wp_step))
 exact⟨rfl,codeAny_call_builtin_at (Code.quiet_builtin _ (by decide+kernel)) entry_typeCall (wpAny_check_type_call_sub a (zs3 F T a hN c hf i go k))⟩
end
section
open Builtin
open Builtin.ObjectAttr
structure XF (K:W.Frag)(C:Addr)(f:Str):Prop where
 ex:gG K C=true
 hd:∀dd cd sl,K.lookup C=some ⟨.type "type",dd,.cls cd,sl⟩->cd.hasDict=true
 sa:W.findIn K (.ref C) "__setattr__"=some (some (.builtin "object.__setattr__"))
 nf:W.findIn K (.ref C) f=some none
 ga:W.findIn K (.ref C) "__getattribute__"=some (some (.builtin "BaseException.__getattribute__"))
 gt:W.findIn K (.ref C) "__getattr__"=some none
 ob:W.subIn K (.ref C) (.type "object")=some true
 be:W.subIn K (.ref C) (.type "BaseException")=some true
theorem z4j:∀{l:List Value},pc h qH l->refuseLoop self what qH=pure ()->refuseLoop self what l=pure ()
 |_,.base,e=>e
 |_,.own _ _ _ T,e=>by rw[refuseLoop_ref];exact z4j T e
section
variable {prog:cc}{w:World}{A:e9}{E:Value->aw->Prop}{K:W.Frag}{h:Heap}{g:Array pd}{d:Drawn}{t:Nat}{os:jv}{C a:Addr}{ob:Obj}{vs:Array Value}{f:Str}{u:Value}
def GS (h:Heap)(a:Addr)(ob:Obj)(f:Str)(u:Value)(h':Heap):Prop:=∃dp,h.get? dp=none/\dp≠a/\h.objs.size<=dp/\h'.get? a=some {ob with dict:=some dp}/\h'.Ns1 dp (λy=>if y=f then some u else none)/\∀b o,b≠a->h.get? b=some o->h'.get? b=some o
theorem zg8 {D:Tok}{Q:Fin->aw->Prop}(X:K.In h)(x:XF K C f)(k:h.get? a=some ob)(O:ob.cls=.ref C)(hd:ob.dict=none)(P:ob.data=.fields vs)
  (go:∀l p,GS h a ob f u l->Q (.done (.ret .none)) ⟨l,g,d,p,os⟩):
  wpAny (model prog w) A (Builtin.«object.__setattr__» ⟨[.ref a,.str f D,u],[]⟩) Q E ⟨h,g,d,t,os⟩:=by
 obtain⟨bm,⟨N,nm,q,bs,j,sn,sub,ab,R,dd,k0,k1,k2,k3,k5,mN,F,hN,T⟩,_⟩:=XC.mk X x.ex;have r:j=true:=by obtain⟨S,cd,U,y0,y1,y2,y3,y5,G,_⟩:=vg x.ex;have V:=x.hd _ _ _ G;have H:=X _ _ G;rw[F]at H;cases H;exact V
 subst r;have c:=z4j (self:=.ref a) (what:="__setattr__") T (by kernel_rfl);have l0:=W.looks_findIn (M:=model prog w) X x.nf;unfold Builtin.«object.__setattr__»
 repeat (first|rw[refuse_eq]|(rw[refuseLoop_ref,c])|(with_reducible refine bw k ?_;rw[O])|with_reducible refine wpAny_mroOf_exc F ?_|with_reducible refine l0.at ?_|wp_step)
 rw[hd,qf (by simp[typeHasDict]),P];have I:(h.push {cls:=.type "dict",data:=.dict #[]}).get? a=some ob:=af _ k;have na:a≠h.objs.size:=b9 (bb k);refine aa (wpAny_alloc' (aa (wpAny_update' I (am ?_))));generalize hh:((h.push {cls:=.type "dict",data:=.dict #[]}).update a λo=>{cls:=o.cls,dict:=some h.objs.size,data:=o.data,slots:=o.slots})=m;have gd:m.get? h.objs.size=some {cls:=.type "dict",data:=.dict #[]}:=by rw[<-hh];exact(j3 _ _ _ _ (Ne.symm na)).trans (kz rfl rfl)
 have ga:m.get? a=some {ob with dict:=some h.objs.size}:=by rw[<-hh];refine eh _ I ?_;have fr:=(Heap.get?_some_iff.mp k).2;obtain⟨oc,od,s,Ew⟩:=ob;cases s<;>first|rfl|exact fr
 have keep:∀b o,b≠a->h.get? b=some o->m.get? b=some o:=λb o n e=>by rw[<-hh];exact(j3 _ _ _ _ n).trans (af _ e)
 have nd:m.Ns h.objs.size (λ_=>none):=⟨_,#[],_,gd,rfl,λe z=>absurd z (by simp),λ_=>rfl⟩;show wpAny _ _ (storeInDict h.objs.size (.str f D) f u) _ _ _
 delta storeInDict newKeyGuard
 refine aa (am (aa (wpAny_nsSet1 (ou nd) λl J L=>?_)));obtain⟨oD,T4,T5,v,y,B⟩:=J.count (Within.cons f u Within.nil);have i:[f].length<=av+1:=by rw[cb];exact(by decide:1<=16777216+1)
 have zO:=bp B i;refine aa (wpAny_lookBehind v (y▸pastItsLine_dict zO) ?_)
 wp_walk
 refine go l _ ⟨h.objs.size,fi (ag _),Ne.symm na,ag _,(L.2 a na).trans ga,J,λb o n e=>(L.2 b (b9 (bb e))).trans (keep b o n e)⟩
theorem zg7 {M:Model}{nameV:Value}{Q:Unit->aw->Prop}(X:K.In h)(x:XF K C f)(ge:h.get? a=some ob)(hc:ob.cls=.ref C)(hq:Q () ⟨h,g,d,t,os⟩):
  wpAny M A (jr "object.__setattr__" ⟨[.ref a,nameV,u],[]⟩) Q E ⟨h,g,d,t,os⟩:=by
 have z1:p4 "object.__setattr__"=some .slot:=by decide+kernel
 have z2:splitId "object.__setattr__"=some ("object","__setattr__"):=by decide+kernel
 have l1:=W.looks_subIn (M:=M) X x.ob;have ar:=PySem.F.args_object_setattr_3 (.ref a) nameV u;simp only[jr,z1,z2];refine aa ?_;unfold kb
 repeat (first|(with_reducible refine bw ge ?_;rw[hc])|with_reducible refine l1.at ?_|wp_step)
 exact hq
theorem zqb (X:K.In h)(x:XF K C f)(e:h.get? a=some ob)(i:ob.cls=.ref C)(hd:ob.dict=none)(j:ob.data=.fields vs)
  (go:∀c b,GS h a ob f u c->Q () ⟨c,g,d,b,os⟩):wpAny (model prog w) A (setAttr (.ref a) f u) Q E ⟨h,g,d,t,os⟩:=by
 have k:=W.looks_findIn (M:=model prog w) X x.sa;have f3:=PySem.F.slot_list_setattr.bind (.ref a)
 repeat (any_goals (first|assumption|(with_reducible refine bw e ?_;rw[i])|with_reducible refine k.at ?_|wp_step))
 refine ip PySem.F.slot_list_setattr.plain PySem.F.entry_object_setattr (zg7 X x e i (zg8 X x e i hd j λc b p=>?_))
 repeat (any_goals (first|assumption|wp_step))
 exact go c b p
theorem zk7 {n:Tok}{dp:Addr}{e:Str->Option Value}{Q:Fin->aw->Prop}(X:K.In h)(x:XF K C f)(i:h.get? a=some ob)(j:ob.cls=.ref C)(o:ob.data=.fields vs)(hd:ob.dict=some dp)(hn:h.Ns dp e)(p:e f=some u)
  (r:Q (.done (.ret u)) ⟨h,g,d,t,os⟩):wpAny (model prog w) A (Builtin.«object.__getattribute__» ⟨[.ref a,.str f n],[]⟩) Q E ⟨h,g,d,t,os⟩:=by
 obtain⟨D,⟨N,nm,q,bs,b,F,sub,G,s,H,I,J,L,O,P,R,k,hN,T⟩,_⟩:=XC.mk X x.ex;have c:b=true:=by obtain⟨v,cd,y,S,U,y2,y3,y5,l,_⟩:=vg x.ex;have z:=x.hd _ _ _ l;have m:=X _ _ l;rw[k]at m;cases m;exact z
 subst c;have B:=W.looks_findIn (M:=model prog w) X x.nf;unfold Builtin.«object.__getattribute__»
 repeat (first|(with_reducible refine bw i ?_;rw[j])|with_reducible refine B.at ?_|wp_step)
 rw[o];unfold instanceDict
 repeat (first|(with_reducible refine bw i ?_;rw[j])|with_reducible refine bw k ?_|wp_step)
 rw[hd]
 repeat (first|(with_reducible refine wpAny_nsGet hn ?_;rw[p])|wp_step)
 exact r
theorem zkd {b:Tok}{dp:Addr}{c:Str->Option Value}{R:Result->aw->Prop}(X:K.In h)(x:XF K C f)(e:h.get? a=some ob)(i:ob.cls=.ref C)(j:ob.data=.fields vs)(hd:ob.dict=some dp)(hn:h.Ns dp c)(k:c f=some u)
  (l:R (.ok (.ret u)) ⟨h,g,d,t,os⟩):jh (model prog w) A (.call (.builtin "BaseException.__getattribute__") ⟨[.ref a,.str f b],[]⟩) R ⟨h,g,d,t,os⟩:=by
 refine ip F.excAttr_ValueError.ga.plain F.entry_bexc_ga ?_;have l1:=W.looks_subIn (M:=model prog w) X x.be;have o:=F.args_bexc_ga (.ref a) (.str f b);have m:p4 "BaseException.__getattribute__"=some .slot:=by decide+kernel
 have n:splitId "BaseException.__getattribute__"=some ("BaseException","__getattribute__"):=by decide+kernel
 simp only[jr,m,n];refine aa ?_;unfold kb
 repeat (first|(with_reducible refine zk7 X x e i j hd hn k ?_;exact l)|(with_reducible refine bw e ?_;rw[i])|with_reducible refine l1.at ?_|wp_step)
theorem zts (X:K.In h)(x:XF K C f)(b:h.get? a=some ob)(c:ob.cls=.ref C)(e:ob.data=.fields vs)(hd:ob.dict=some dp)(hn:h.Ns dp m)(i:m f=some u)(hh:handedOut u=pure u)
  (j:Q u ⟨h,g,d,t,os⟩):wpAny (model prog w) A (getAttrBy (.ref a) (.str f k) true ex) Q E ⟨h,g,d,t,os⟩:=by
 have f3:=F.excAttr_ValueError.ga.bind (.ref a);have l:(ex&&onTheHeap (Value.builtin "BaseException.__getattribute__"))=false:=by cases ex<;>rfl
 repeat (any_goals (first|assumption|(with_reducible refine bw b ?_;rw[c])|with_reducible refine(W.looks_findIn (M:=model prog w) X x.ga).at ?_|with_reducible refine(W.looks_findIn (M:=model prog w) X x.gt).at ?_|wp_step))
 refine zkd X x b c e hd hn i ?_
 repeat' first|assumption|wp_step
theorem zr3 (X:K.In h)(x:XF K C f)(b:h.get? a=some ob)(c:ob.cls=.ref C)(e:ob.data=.fields vs)(hd:ob.dict=some dp)(hn:h.Ns dp k)(i:k f=some u)(hh:handedOut u=pure u)
  (j:Q u ⟨h,g,d,t+1,os⟩):wpAny (model prog w) A (qc (.ref a) f ex) Q E ⟨h,g,d,t,os⟩:=by
 repeat (any_goals (first|assumption|with_reducible apply zts X x b c e hd hn i hh|wp_step))
end
end
def exO (a:Addr)(ob:Obj):HO:=.ext λh=>h.get? a=some ob
def vJ:HO->Prop
 |.ext _=>True
 |.xd _=>True
 |_=>False
def jI (H:Hp)(a:Addr):Hp:=λb=>if b=a then none else H b
theorem yg:jI H a a=none:=by unfold jI;rw[qe rfl]
theorem pM (h:b≠a):jI H a b=H b:=by unfold jI;rw[qf h]
theorem GU (I:Inv X b c H s)(h:H a=some (exO a ob)):s.heap.get? a=some ob:=(I.hok a _ h).1
theorem GV (e:h.get? a=some ob):z1y P w H h a (exO a ob):=⟨e,⟨_,e⟩,λb c p k=>k _ p⟩
theorem Inv.jI (I:Inv X pins v H s)(g:H a=some o)(h:vJ o):Inv X pins v (jI H a) s:=by
 have ne:∀{b u},H b=some u->(vJ u->False)->b≠a:=λ{b u} e n z=>by subst z;rw[g]at e;cases e;exact n h
 have d:∀{b},H b=none->Mi.jI H a b=none:=λ{b} e=>by
  unfold Mi.jI;split
  ·rfl
  ·exact e
 refine⟨I.ok,I.os,I.bare,⟨I.base.keep,I.base.slot,λb o e n i=>d (I.base.free b o e n i),I.base.there,λb f e=>?_,λb o u e=>?_,λb ps e=>?_⟩,I.loc,I.cell,d I.free,λx c e=>d (I.bH x c e),λp j=>?_,λb o e=>?_,I.len,I.fx⟩
 ·have e:=I.base.cS b f e;rw[pM (ne e id)];exact e
 ·have e:=I.base.cO b o u e;rw[pM (ne e id)];exact e
 ·obtain⟨m,e⟩:=I.base.cT b ps e;exact⟨m,by rw[pM (ne e id)];exact e⟩
 ·obtain⟨k,l,r⟩:=I.pin p j;exact⟨k,d l,r⟩
 ·have t:b≠a:=by rintro rfl;rw[yg]at e;cases e
  rw[pM t]at e;refine(I.hok b o e).stay (λ_ _ _ q=>q) (λc q=>?_) λc f q=>?_
  ·rw[pM (ne q id)];exact q
  ·rw[pM (ne q id)];exact q
theorem zk0 (I:Inv X pins σ H s)(p:H a=some (exO a ob))(r:RelV y u)(h0:s.heap.get? dp=none)(t:s.heap.objs.size<=dp)(na:dp≠a)(ga:j.get? a=some {ob with dict:=some dp})(ns:j.Ns1 dp (fun g=>if g=f then some u else none))(k:∀b o,b≠a->s.heap.get? b=some o->j.get? b=some o):
  H dp=none/\Inv X pins σ (upd (upd H dp (.xd [(f,y)])) a (exO a {ob with dict:=some dp})) {s with heap:=j,toks:=tk}:=by
 have h:=I.hok.fresh t;have ne:∀{b u},H b=some u->(u=exO a ob->False)->b≠a:=λ{b u} e n z=>by subst z;rw[p]at e;cases e;exact n rfl
 have nd:∀{b u},H b=some u->b≠dp:=λ{b u} e z=>by subst z;rw[h]at e;cases e
 have up:∀{b u},H b=some u->(u=exO a ob->False)->upd (upd H dp (.xd [(f,y)])) a (exO a {ob with dict:=some dp}) b=some u:=λ{b u} e n=>by rw[aH (ne e n),aH (nd e)];exact e
 have i:∀{b o},s.heap.get? b=some o->H b=none->b≠a/\b≠dp:=λ{b o} e n=>⟨(by rintro rfl;rw[p]at n;cases n),(by rintro rfl;rw[h0]at e;cases e)⟩;refine⟨h,I.un ⟨λb o e n _ _=>k b o (i e n).1 e,λb o e n _ _=>⟨o.slots,k b o (i e n).1 e⟩,λb o e n _=>?_,λb o e _=>?_,λb w e=>up e nofun,λb o u e=>up e nofun,λb ps e=>⟨#[],by rw[Array.append_empty];exact up e nofun⟩⟩ λb o e=>?_⟩
 ·rw[aH (i e n).1,aH (i e n).2];exact n
 ·by_cases d:b=a
  ·subst d;exact⟨_,ga⟩
  ·exact⟨o,k b o d e⟩
 ·by_cases d:b=a
  ·subst d;rw[bG]at e;cases e;exact GV ga
  ·rw[aH d]at e;by_cases hd:b=dp
   ·subst hd;rw[bG]at e;cases e;refine⟨_,ns,λg=>?_⟩;by_cases l:g=f
    ·subst l;simp;exact r
    ·have :(g==f)=false:=by simpa using l
     simp only[cy,this,List.lookup_nil,qf l];exact True.intro
   ·rw[aH hd]at e;refine(I.hok b o e).stay (λc v m q=>k c v ?_ q) (λc q=>up q nofun) λc w q=>up q nofun;rcases m with rfl|m
    ·exact d
    ·exact ne m nofun
def Cc (K:W.Frag)(ta tv:TE)(f:Str):TS:=λD σ H=>tv σ H λy H1=>ta σ H1 λx H2=>∃a C ob vs,x=.ref a/\H2 a=some (exO a ob)/\ob.cls=.ref C/\ob.dict=none/\ob.data=.fields vs/\XF K C f/\∀dp,H2 dp=none->dp≠a->D.nx σ (upd (upd H2 dp (.xd [(f,y)])) a (exO a {ob with dict:=some dp}))
theorem PY (i:PE X o P)(j:PE X value tv)(hs:iu value (some (.Attribute o f b)) N.line X.env=pure false):PS X (.Assign [.Attribute o f b] value N) (Cc X.K P tv f):=by intro M s O H D I h;refine jn (aM (j M s O H _ I h) λu s1 ⟨y,Q,l,m,q⟩=>aM (i M s1 O Q _ l q) λn p ⟨x,G,c,r,a,C,ob,R,ex,e,v,hd,w,xf,z⟩=>?_) hs;subst ex;obtain rfl:n=Value.ref a:=r;obtain⟨J,g,d,t,os⟩:=p;refine zqb c.cZ xf (GU c e) v hd w λL A ⟨dp,h0,na,B,ga,ns,k⟩=>?_;obtain⟨E,F⟩:=zk0 c e m h0 B na ga ns k;exact⟨O,_,F,z dp E na⟩
def kU (K:W.Frag)(f:Str):Sp:=λvs H Q _=>∃a C ob ws y,vs=[.ref a,y]/\H a=some (exO a ob)/\ob.cls=.ref C/\ob.dict=none/\ob.data=.fields ws/\XF K C f/\∀dp,H dp=none->dp≠a->Q .non (upd (upd H dp (.xd [(f,y)])) a (exO a {ob with dict:=some dp}))
structure XI (K:W.Frag)(C f:Addr):Prop where
 PZ:∀dd cd sl,K.lookup C=some ⟨.type "type",dd,.cls cd,sl⟩->W.nsIn K cd.ns "__init__"=some (some (.ref f))
 fn:W.isFn K (.ref f)=true
theorem P0 {K:W.Frag}(X:K.In h)(G:h.Ns N m)(e:W.nsIn K N n=some (some v)):m n=some v:=by
 obtain⟨o,d,c,a,hd,_,hf⟩:=G;unfold W.nsIn at e;split at e
 ·rename_i q;have z:=X _ _ q;rw[a]at z;cases z;cases hd;split at e
  ·rename_i b;cases e;rw[<-hf];unfold nsFind findBy;rw[<-n7,b];rfl
  ·split at e<;>cases e
 ·cases e
theorem XI.at {K:W.Frag}{C:Addr}(X:K.In h)(q:gG K C=true)(x:XI K C f):∃bm N nm c bs hdct sn sub ab col dd k0 k1 k2 k3 k5 mN o,h.get? C=some (ml nm c C N bs bm hdct sn sub ab col dd k0 k1 k2 k3 k5 "ValueError.__new__")/\h.Ns N mN/\mN "__init__"=some (.ref f)/\pc h qH bm/\h.get? f=some o/\o.cls=.type "function":=by
 obtain⟨dd,cd,bm,k0,k1,k2,k3,k5,a,hm,hd,d,hk⟩:=vg q;have hN:h.Ns cd.ns (h.nsMap cd.ns):=.of_isNs (W.isNs_of_in X hk);have e:=qm x.fn;obtain⟨o,g,i⟩:=cw.mp e;refine⟨bm,cd.ns,cd.name,cd.qualname,cd.bases,cd.hasDict,cd.slotNames,cd.subclasses,cd.abstract,cd.collection,dd,k0,k1,k2,k3,k5,h.nsMap cd.ns,o,?_,hN,P0 X hN (x.PZ _ _ _ a),W.tail_of_in X d,X _ _ g,i⟩;have b:=X _ _ a;cases cd
 dsimp only at hm hd
 rw[hm,hd]at b;exact b
def yh (X:Cx)(E:XK):Prop:=∀pins σ H s a C ob vs,Inv X pins σ H s->H a=none->(∃H1 s1,Inv X pins σ H1 s1/\s1.heap.get? a=none)->s.heap.get? a=some ob->ob.cls=.ref C->ob.data=.fields vs->vs[1]?=some .none->E (.ref C) ob.dict H->X.xe (.ref a) s
theorem zhc {M:Model}{A:e9}{E:Value->aw->Prop}{env:Env}{s:aw}{x:Sem Value}{Q:Flow->aw->Prop}{C:Addr}(hh:A.handled=none)
  (h:wpAny M A x (λv s1=>∃e ob t c,v=.ref e/\XC C s1.heap c/\s1.heap.get? e=some ob/\ob.cls=.ref C/\ob.data=.fields #[.ref t,.none,.none,.none,.bool false,.none]/\E (.ref e) s1) E s):wpAny M A (raiseStmt env (some x) none) Q E s:=by
 unfold raiseStmt;refine aa (gk h (λv s1 l=>?_) λ_ _ x=>x);obtain⟨e,ob,t,c,rfl,⟨N,nm,q,bs,i,o,sub,p,m,r,u,w,y,z,B,D,b,hN,T⟩,j,k,f,n⟩:=l;have a:(Value.ref C::c).contains (.type "BaseException")=true:=by rw[ka,FF T,pe]
 obtain⟨F,g,d,G,os⟩:=s1
 repeat (first|(with_reducible refine bw j ?_;first|rw[k]|rw[f])|with_reducible refine bw b ?_|(with_reducible refine fq b ?_;rw[a])|wp_step)
 rw[f]
 repeat (first|(with_reducible refine bw j ?_;first|rw[k]|rw[f])|with_reducible refine bw b ?_|(with_reducible refine fq b ?_;rw[a])|wp_step)
 exact m7 hh n
theorem zdq {C:Addr}(W:Room (k+1) X.A)(hg:Gl X x)(hm:X.mg x=some (.ref C))(L:Ue x)(xf:XF X.K C fl)(xi:XI X.K C f)
  (F:FnOk X.prog X.w X.K X.mg X.base (CXE X.prog X.w X.base) k f fd ps (kU X.K fl)) (j:Binds X.K fd ps []) (he:PE X e te) (i:isStar e=false) (rs:yh X E):
  PS X (.Raise (some (.Call (.Name x np) [e] [] cp)) none pos) (λ_ σ H=>te σ H λy Y=>∀dp,Y dp=none->E (.ref C) (some dp) (upd Y dp (.xd [(fl,y)]))):=by
 intro Z s σ H D I hq;have M:(gy cp (cn [e] X.env)).any (·.1)=false:=by rw[eA i];rfl
 have hA:=dN he j' i;refine aa (gw (zhc (C:=C) W.hd (aa (gk (wpAny_Call_ofName (z2m I hg hm ?_ L)) (λv s3 h3=>aa (gw (am h3))) λ_ _ z=>z))));have m:=hA cp Z s σ H (λvs Y=>match vs with| [y]=>∀dp,Y dp=none->E (.ref C) (some dp) (upd Y dp (.xd [(fl,y)]))|_=>False) I hq;have O:cn [e] X.env=(false,eval e X.env)::cn [] X.env:=eA i;rw[O]at m M ⊢;refine aa (ei (jw (aM m λus s1 zz=>aa (gw ?_))));obtain⟨vs,Y,G,r,P⟩:=zz
 obtain⟨y,rfl⟩:∃y,vs=[y]:=by
  rcases vs with _|⟨y,_|⟨z,l⟩⟩
  ·exact P.elim
  ·exact⟨y,rfl⟩
  ·exact P.elim
 cases r with
 |cons ry rn=>
  cases rn;rename_i u;obtain⟨hp,g,d,t,os⟩:=s1;obtain⟨bm,N,nm,qn,bs,hdct,sn,sub,ab,col,dd,k0,k1,k2,k3,k5,mN,o,oC,hN,hi,T,hf,hc⟩:=xi.at G.cZ xf.ex;refine aa (wpAny_keeperOf_exc oC ?_);refine aa (zu0 PySem.F.excBase_ValueError T oC hN hi hf hc (λh' a hz made=>?_) (show 1<=av by rw[cb];decide));obtain⟨tp,ga,_,_⟩:=made.there;generalize c:({cls:=.ref C,data:=.fields #[.ref tp,.none,.none,.none,.bool false,.none]}:Obj)=ob at ga;have Q:=G.laid (t':=t) made.keeps hz (GV ga);have n:=G.hok.fresh hz
  let Q2:VK:=λv H3=>v=.non/\∃dp,Y dp=none/\dp≠a/\H3=upd (upd (upd Y a (exO a ob)) dp (.xd [(fl,y)])) a (exO a {ob with dict:=some dp})
  have p:kU X.K fl [.ref a,y] (upd Y a (exO a ob)) Q2 (λ_ _ _=>False):=⟨a,C,ob,#[.ref tp,.none,.none,.none,.bool false,.none],y,rfl,bG,by rw[<-c],by rw[<-c],by rw[<-c],xf,λdp J q=>⟨rfl,dp,by rw[aH q]at J;exact J,q,rfl⟩⟩;have r2:Vals [V.ref a,y] [Value.ref a,u]:=.cons rfl (.cons ry .nil);have hl:[Value.ref a,u].length=ps.length:=r2.length▸F.len _ _ _ _ p;have R:=j ⟨h',g,d,t,os⟩ [Value.ref a,u] Q.cZ (by rw[bx];exact hl);refine n9 (iw (F.run _ X.stack _ _ ⟨[Value.ref a,u],[]⟩ [Value.ref a,u] [V.ref a,y] Q2 (λ_ _ _=>False) (W.make C [u] []) (Q.rj.make C [u] []) R r2 p) λrr s' h=>?_);cases rr with
  |error e'=>obtain⟨_,_,_,_,_,_,z⟩:=h;exact z.elim
  |ok S=>
   cases S with
   |next=>exact h.elim
   |brk=>exact h.elim
   |cont=>exact h.elim
   |ret w=>
    obtain⟨v,H3,U,rv,rfl,dp,J,q,rfl⟩:=Q.after h;refine⟨rv,aa (ei (wpAny_point (am ?_)))⟩;have B:=GU U bG;have I4:=Mi.Inv.jI U bG True.intro
    have eH:Mi.jI (upd (upd (upd Y a (exO a ob)) dp (.xd [(fl,y)])) a (exO a {ob with dict:=some dp})) a=upd Y dp (.xd [(fl,y)]):=by
     funext b
     by_cases j:b=a
     ·subst j;rw[yg,aH (Ne.symm q),n]
     ·rw[pM j,aH j];by_cases hd:b=dp
      ·subst hd;rw[bG,bG]
      ·rw[aH hd,aH hd,aH j]
    rw[eH]at I4;obtain⟨xT,xc,_⟩:=XC.mk U.cZ xf.ex;refine⟨a,_,tp,xT,rfl,xc,B,by rw[<-c],by rw[<-c],rs Z σ _ s' a C _ _ I4 ?_ ⟨Y,_,G,made.new⟩ B (by rw[<-c]) (by rw[<-c]) rfl (P dp J)⟩;rw[aH (Ne.symm q)];exact n
theorem zoc {C:Addr}(j:X.fx=some (n,.ref a))(k:X.env.scope.names.lookup n=some .local)(hd:Ue n)(c:z0o (.Name n p)=true)(l:Xh X a oe)(m:oe.cls=.ref C)(o:oe.data=.fields ws)(e:oe.dict=some dp)(r:Xh X dp od)(hm:∀h:Heap,h.get? dp=some od->h.Ns dp E)(x:E f=some u)(i:RelV v u)(xf:XF X.K C f):
  PE X (.Attribute (.Name n p) f q) (λ_ H Q=>Q v H):=by
 intro B s F H Q I h;refine zds (lK c) (aM (FN j k hd B s F H (λw D=>w=.ref a/\D=H) I ⟨rfl,rfl⟩) λw s1 y=>?_);obtain⟨A,D,b,z,rfl,rfl⟩:=y;obtain rfl:w=Value.ref a:=z;obtain⟨hh,g,d,t,os⟩:=s1;exact zr3 b.cZ xf (l _ _ _ _ b) m o e (hm _ (r _ _ _ _ b)) x (W.handedOut_of (D4 i)) ⟨v,D,b.tok (t+1),i,h⟩
theorem zmt {C D:Addr}(I:Inv X Z σ H1 s1)(H:Fly X.prog X.w X.base X.stack H1 s1 C a H' s' (some dp))(hy:H' dp=some (.xd [(fl,y)]))(hs:X.stack=X.env::X.outer)(hf:X.env.frame=some X.env.locals)(hx:X.fx=none)(nd:X.N.Nodup)(hi:X.N[i]?=some n)(hv:X.env.scope.names.lookup ("":Str)=none)(hl:X.env.scope.names.lookup n=some .local)
  (hB:X.mg B=some (.ref D)) (xC:gG X.K C=true) (xD:gG X.K D=true) (sb:W.subIn X.K (.ref C) (.ref D)=some true) (L:Gl X B) (M:Ue B)
  (O:∀od mA u oe ws,(∀h:Heap,h.get? dp=some od->h.Ns dp mA)->mA fl=some u->RelV y u->oe.cls=.ref C->oe.dict=some dp->oe.data=.fields ws->PSs (jG (jS X ((dp,od)::X.pn) X.xe) i n a oe) (b0::iH) T) (q:T ⟨λP Q=>Dn.nx (P.set i none) Q,Dn.rt,λ_ _=>False,λ_ _=>False⟩ (bd σ.length none) (jI H' dp)):
  wpAny (model X.prog X.w) X.A (gx (.ref a) X.env) (λ_ t=>wpAny (model X.prog X.w) X.A (jc (.ref a) none) (λ_ s3=>wpAny (model X.prog X.w) X.A (mn (.ref a) X.env [.ExceptHandler (some (.Name B np)) (some n) (b0::iH) m]) (SP X Z Dn) X.xe s3) X.xe t) X.xe s':=by
 obtain⟨B0,R,x,S,w0⟩:=H.hh;have k:=w0;rw[hs]at k;obtain⟨mA,E,U⟩:=x dp _ hy;obtain⟨od,es,ep,l,⟨F,Y⟩⟩:=id E;have rf:=U fl;simp at rf;obtain⟨u,hu,ru⟩:=cJ.some_of rf;have P4:=λh e=>(E.at (h':=h) λo z=>by rw[l]at z;cases z;exact e).ns
 have e0:(bd σ.length (none:Option V)).set i none=bd σ.length none:=by
  apply ky;intro j;rw[dk];split
  ·rename_i h;subst h;split<;>simp_all
  ·rfl
 have back:∀{p2:List (Addr×Obj)} {c:L2.St} {g:Hp} {t:aw},Inv (jS X ((dp,od)::X.pn) X.xe) Z c g t->Inv X Z c g t:=λ{p2 c g t} J=>⟨I.ok,J.os,J.bare,J.base,J.loc,J.cell,J.free,J.bH,λp m=>J.pin p (by exact ai _ m),J.hok,J.len,J.fx⟩;refine zei (pins:=Z) (X:=jS X ((dp,od)::X.pn) X.xe) (λh6 w6 up=>?_) k ?_ hs hf hx nd hi hv hl hB (λA=>vh (X:=jS X ((dp,od)::X.pn) X.xe) xC xD sb A) L M (λf s h=>?_) (λoe ws h1 h2 h3=>O od mA u oe ws P4 hu ru h1 h2 h3) (e0▸q)
 ·have J:=Fly.land I H R x S (hs▸w6) up;have J2:=Mi.Inv.jI J hy True.intro;have d:Inv X Z (bd σ.length none) (jI H' dp) {s' with heap:=h6}:=J2.weak (by rw[cu]) λj v e=>by rw[ci]at e;split at e<;>cases e
  have P5:=w6.1 _ _ l;refine⟨GQ d.ok,d.os,d.bare,d.base,d.loc,d.cell,d.free,d.bH,λp m=>?_,d.hok,d.len,d.fx⟩;rcases aq.mp m with rfl|m
  ·have G:∀b∈(X.env::X.outer).filterMap (·.frame),dp≠b:=fun b hb z=>by
    have:=(k.2.2.1.mem hb).1;rw[<-z,l]at this;cases this
   refine⟨P5,yg,G _ ?_,λz=>G dp ?_ rfl,λv z=>?_⟩
   ·rw[dj,hf];exact aj
   ·rw[dj,hf];exact ai _ z
   ·have z:od.data=.cell v:=z;rw[F]at z;cases z
  ·exact d.pin p m
 ·have :=FK H;by_cases e:a=dp
  ·rw[e];exact yg
  ·rw[pM e];exact this
 ·cases f with
  |next=>obtain⟨c,g,J,z⟩:=h;exact⟨c,g,back (p2:=Z) J,z⟩
  |brk=>obtain⟨c,g,J,z⟩:=h;exact⟨c,g,back (p2:=Z) J,z⟩
  |cont=>obtain⟨c,g,J,z⟩:=h;exact⟨c,g,back (p2:=Z) J,z⟩
  |ret u=>obtain⟨v,c,g,J,r,z⟩:=h;exact⟨v,c,g,back (p2:=Z) J,r,z⟩
inductive WS where
 |nil|seq (a b:WS)|asg (i:Nat) (e:W)|fld (o:W) (f:Str) (e:W)|put (o k v:W)|exp (e:W)|app (o v:W)|ret (e:W)|aT (c:W) (a b:WS)|vK (c:W) (b:WS)|bO (t:Tg) (it:C) (b:WS)|se (s:S)|yi (o:W) (f:Str) (e:W)|pN (c fl:Str) (e:W)|mZ (t:Tg) (it:W) (b:WS)|tR (b hs:WS) (i n:Nat)|hn (c:Str) (f:Option Str) (h rest:WS)
 deriving Inhabited
def rz:WS->Bool
 |.seq a b=>rz a||rz b
 |.pN _ _ _=>true
 |.aT _ a b=>rz a||rz b
 |.vK _ _=>true
 |.bO _ _ _=>true
 |.mZ _ _ _=>true
 |.se _=>true
 |_=>false
mutual
def wS:Wc->WS->TS
 |_,.nil=>DK
 |Z,.seq a b=>uu (wS Z a) (wS Z b)
 |Z,.asg i e=>oG (wE Z e) (wU i)
 |Z,.fld o f e=>ri Z.K (wE Z o) (wE Z e) f
 |Z,.put o k v=>vc (wE Z o) (wE Z k) (wE Z v)
 |Z,.exp e=>uv (wE Z e)
 |Z,.app o v=>uv (uL Z.K "list" xg (wE Z o) (mD (wE Z v) eO))
 |Z,.ret e=>uw (wE Z e)
 |Z,.aT c a b=>ux (wT Z c) (wS Z a) (wS Z b)
 |Z,.vK c b=>DP (wT Z c) (wS Z b)
 |Z,.bO t it b=>iX (tDW Z.K (evW Z.Κ Z.Φ it)) (tDG Z.K t) (wS Z b)
 |Z,.se s=>tDS Z.K (aK Z.Κ Z.Φ s)
 |Z,.yi o f e=>Cc Z.K (wE Z o) (wE Z e) f
 |Z,.pN c fl e=>λ_ σ H=>∀C,Z.mg c=some (.ref C)->wE Z e σ H λy H1=>∀dp,H1 dp=none->Z.E (.ref C) (some dp) (upd H1 dp (.xd [(fl,y)]))
 |Z,.mZ t it b=>iX (uz Z.K (wE Z it)) (tDG Z.K t) (wS Z b)
 |Z,.tR b hs i n=>λD σ H=>wS {Z with E:=wX Z hs D i n} b ⟨D.nx,D.rt,λ_ _=>False,λ_ _=>False⟩ σ H
 |_,.hn _ _ _ _=>λ_ _ _=>False
def wX:Wc->WS->Ends->Nat->Nat->XK
 |Z,.hn c f h rest,D,i,n=>fun v dd H'=>(∃C,Z.mg c=some (.ref C)/\v=.ref C/\match f with
   |none=>wS {Z with E:=λ_ _ _=>False,xf:=none} h ⟨λbN Cd=>D.nx (bN.set i none) Cd,D.rt,λ_ _=>False,λ_ _=>False⟩ (bd n none) H'
   |some fl=>∃dp y,dd=some dp/\H' dp=some (.xd [(fl,y)])/\wS {Z with E:=λ_ _ _=>False,xf:=some y} h ⟨λbN Cd=>D.nx (bN.set i none) Cd,D.rt,λ_ _=>False,λ_ _=>False⟩ (bd n none) (jI H' dp))
  \/wX Z rest D i n v dd H'
 |_,_,_,_,_=>λ_ _ _=>False
end
def Ce:Stmt->Option (List Stmt×Str×Str×List Stmt)
 |.Try b [h] [] [] _=>(AA h).map λu=>(b,u)
 |_=>none
theorem Cf (e:Ce s=some v):∃a b d,s=.Try v.1 [.ExceptHandler (some (.Name v.2.1 a)) (some v.2.2.1) v.2.2.2 b] [] [] d:=by
 unfold Ce at e;split at e
 ·obtain⟨x,c,rfl⟩:=cw.mp e;obtain⟨a,b,rfl⟩:=Bz c;exact⟨_,_,_,rfl⟩
 ·cases e
def Cg (Γ:Gw)(i:Nat)(nm c:Str)(f:Option Str):Gw:={Γ with g:={Γ.g with N:=Γ.g.N.set i "",cm:=false,xc:=some (nm,c),fns:=[]},xf:=f}
mutual
def yj:Gw->WS->Stmt->Bool
 |Γ,.asg i e,s=>(rS s).any λu=>(bP u.1).any λx=>rO Γ.g (.nm i) x&& !nO u.2&&cH Γ e u.2
 |Γ,.fld o f e,s=>(rS s).any λu=>(bP u.1).any λx=>(tj x).any λv=>(v.2.1==f)&& !nO u.2&&cH Γ o v.1&&cH Γ e u.2
 |Γ,.put o k v,s=>(rS s).any λu=>(bP u.1).any λx=>(mP x).any λw=>!nO u.2&&cH Γ o w.1&&cH Γ k w.2&&cH Γ v u.2
 |Γ,.exp e,s=>(uW s).any λv=>!nO v&&cH Γ e v
 |Γ,.app o e,s=>(uW s).any λc=>(mR c).any λv=>((v.2.1==("append":Str))&&z0o v.1&&v.2.2.2)&&cH Γ o v.1&&(bP v.2.2.1).any λy=>!isStar y&&cH Γ e y
 |Γ,.ret e,s=>(Aw s).any λo=>o.any λv=>cH Γ e v
 |Γ,.aT c a b,s=>(Ax s).any λv=>pL Γ c v.1&&wkL Γ a v.2.1&&wkL Γ b v.2.2
 |Γ,.vK c b,s=>(Ay s).any λv=>pL Γ c v.1&&wkL Γ b v.2.1&&v.2.2.isEmpty
 |Γ,.bO t it b,s=>Γ.g.cm&&(xv s).any λv=>(rO Γ.g t v.1&&xu it v.1&&tf v.2.1)&&jD Γ.g it v.2.1&&wkL Γ b v.2.2.1&&v.2.2.2.isEmpty
 |Γ,.se x,s=>oW Γ.g x s
 |Γ,.yi o f e,s=>(rS s).any λu=>(bP u.1).any λx=>(tj x).any λv=>(v.2.1==f)&& !nO u.2&&cH Γ o v.1&&cH Γ e u.2
 |Γ,.pN c fl e,s=>(Az s).any λv=>(v.1==c)&&lO Γ.g c&&Γ.fld.contains (c,fl)&&Γ.g.cm&&(bP v.2).any λy=>!isStar y&&cH Γ e y
 |Γ,.mZ t it b,s=>Γ.g.cm&&(xv s).any λv=>(rO Γ.g t v.1&&tf v.2.1)&&cH Γ it v.2.1&&wkL Γ b v.2.2.1&&v.2.2.2.isEmpty
 |Γ,.tR b hs i n,s=>decide (Γ.g.N.length=n)&&(Ce s).any λv=>(Γ.g.cm&&(Γ.g.xc.isNone&& !Γ.g.blk)&&(Γ.g.N[i]?==some v.2.2.1)&&(Γ.g.sc.names.lookup v.2.2.1==some .local)&&decide (Γ.g.N.set i "").Nodup)&&((Γ.g.sc.names.lookup ("":Str)).isNone&&lO Γ.g v.2.1&& !rz b&&wkL Γ b v.1&&Γ.xf.isNone)&&(!v.2.2.2.isEmpty&& !(v.2.2.1==("__debug__":Str))&&wkH Γ hs i v.2.2.1 v.2.1 v.2.2.2)
 |_,_,_=>false
def wkH:Gw->WS->Nat->Str->Str->List Stmt->Bool
 |_,.nil,_,_,_,_=>true
 |Γ,.hn c f h rest,i,nm,B,su=>Γ.g.fK.contains (c,B)&&(match f with|none=>true|some fl=>Γ.fld.contains (c,fl))&&wkL (Cg Γ i nm c f) h su&&wkH Γ rest i nm B su
 |_,_,_,_,_,_=>false
def wkL:Gw->WS->List Stmt->Bool
 |_,.nil,l=>l.isEmpty
 |Γ,.seq a b,l=>match l with|s::l=>yj Γ a s&&wkL Γ b l|_=>false
 |_,_,_=>false
end
def Wfk (Γ:Gw)(X:Cx)(r:Nat):Prop:=∀c fl,Γ.fld.contains (c,fl)=true->∃C f fd ps k,X.mg c=some (.ref C)/\XF X.K C fl/\XI X.K C f/\k+1<=r/\FnOk X.prog X.w X.K X.mg X.base (CXE X.prog X.w X.base) k f fd ps (kU X.K fl)/\Binds X.K fd ps []
structure Wz (s:WS):Prop where
 R:∀(Γ:Gw) (Z:Wc) (X:Cx) (r:Nat) (st:Stmt),Wok Γ Z (CXE X.prog X.w X.base) X r->Wfk Γ X r->(rz s=true->ej (model X.prog X.w) X.A X.env X.xe)->(rz s=true->yh X Z.E)->yj Γ s st=true->PS X st (wS Z s)
 L:∀(Γ:Gw) (Z:Wc) (X:Cx) (r:Nat) (st:List Stmt),Wok Γ Z (CXE X.prog X.w X.base) X r->Wfk Γ X r->(rz s=true->ej (model X.prog X.w) X.A X.env X.xe)->(rz s=true->yh X Z.E)->wkL Γ s st=true->PSs X st (wS Z s)
 H:∀(Γ:Gw) (Z:Wc) (X:Cx) (r i:Nat) (nm B:Str) (b0:Stmt) (su:List Stmt) (np hp:Pos) (pins:List (Addr×Obj)) (Dn:Ends),Wok Γ Z (CXE X.prog X.w X.base) X r->Wfk Γ X r->Γ.g.xc=none->X.stack=X.env::X.outer->X.env.frame=some X.env.locals->X.N[i]?=some nm->X.env.scope.names.lookup ("":Str)=none->X.env.scope.names.lookup nm=some .local->Ue nm->(Γ.g.N.set i "").Nodup->Gl X B->Ue B->wkH Γ s i nm B (b0::su)=true->∀σ H1 s1 C a H' s' dd,Inv X pins σ H1 s1->Fly X.prog X.w X.base X.stack H1 s1 C a H' s' dd->wX Z s Dn i σ.length (.ref C) dd H'->wpAny (model X.prog X.w) X.A (gx (.ref a) X.env) (λ_ s2=>wpAny (model X.prog X.w) X.A (jc (.ref a) none) (λ_ s3=>wpAny (model X.prog X.w) X.A (mn (.ref a) X.env [.ExceptHandler (some (.Name B np)) (some nm) (b0::su) hp]) (SP X pins Dn) X.xe s3) X.xe s2) X.xe s'
theorem Wz.x (h:∀(Γ:Gw) (Z:Wc) (X:Cx) (r:Nat) (st:Stmt),Wok Γ Z (CXE X.prog X.w X.base) X r->Wfk Γ X r->(rz s=true->ej (model X.prog X.w) X.A X.env X.xe)->(rz s=true->yh X Z.E)->yj Γ s st=true->PS X st (wS Z s))(b:∀Γ st,wkL Γ s st=false)(c:∀Z D i n v dd H',¬wX Z s D i n v dd H'):Wz s:=⟨h,λΓ Z X r st k d e j z=>ff (b Γ st) z,λΓ Z X r i nm B l m o e pins p k d q t u y F G H J K f g σ H1 s1 C a H' s' dd I fl z=>(c _ _ _ _ _ _ _ z).elim⟩
theorem pO (h:a=true):(a||b)=true:=by rw[h];rfl
theorem pP (h:b=true):(a||b)=true:=by rw[h,pe]
theorem zku {C D:Addr}(I:Inv X Z σ H1 s1)(c:Fly X.prog X.w X.base X.stack H1 s1 C a H' s' dd)(hs:X.stack=X.env::X.outer)(hf:X.env.frame=some X.env.locals)(s:X.fx=none)(nd:X.N.Nodup)(hi:X.N[i]?=some n)(t:X.env.scope.names.lookup ("":Str)=none)(u:X.env.scope.names.lookup n=some .local)
  (x:X.mg B=some (.ref D)) (xC:gG X.K C=true) (y:gG X.K D=true) (E:W.subIn X.K (.ref C) (.ref D)=some true) (d:Gl X B) (f:Ue B)
  (g:∀oe,oe.cls=.ref C->PSs (jG X i n a oe) (F::iH) T) (q:T ⟨λk l=>r.nx (k.set i none) l,r.rt,λ_ _=>False,λ_ _=>False⟩ (bd σ.length none) H'):
  wpAny (model X.prog X.w) X.A (gx (.ref a) X.env) (λ_ G=>wpAny (model X.prog X.w) X.A (jc (.ref a) none) (λ_ H=>wpAny (model X.prog X.w) X.A (mn (.ref a) X.env [.ExceptHandler (some (.Name B P)) (some n) (F::iH) Q]) (SP X Z r) X.xe H) X.xe G) X.xe s':=by
 obtain⟨R,m,o,p,J⟩:=c.hh;have b:=J;rw[hs]at b
 have L:(bd σ.length (none:Option V)).set i none=bd σ.length none:=by
  apply ky;intro j;rw[dk];split
  ·rename_i h;subst h;split<;>simp_all
  ·rfl
 refine zei (λS M up=>?_) b (FK c) hs hf s nd hi t u x (vh xC y E) d f (λ_ _ z=>z) (λoe ws O U Y=>g oe O) (L▸q);exact(Fly.land I c m o p (hs▸M) up).weak (by rw[cu]) λj v e=>by rw[ci]at e;split at e<;>cases e
theorem w_hn {rest:WS}(O:Wz h)(ir:Wz rest):∀(Y:Gw) (Z:Wc) (X:Cx) (r i:Nat) (nm B:Str) (n:Stmt) (o:List Stmt) (x E:Pos) (W:List (Addr×Obj)) (s:Ends),Wok Y Z (CXE X.prog X.w X.base) X r->Wfk Y X r->Y.g.xc=none->X.stack=X.env::X.outer->X.env.frame=some X.env.locals->X.N[i]?=some nm->X.env.scope.names.lookup ("":Str)=none->X.env.scope.names.lookup nm=some .local->Ue nm->(Y.g.N.set i "").Nodup->Gl X B->Ue B->wkH Y (.hn c f h rest) i nm B (n::o)=true->
  ∀σ H1 s1 C a H' s' dd,Inv X W σ H1 s1->Fly X.prog X.w X.base X.stack H1 s1 C a H' s' dd->wX Z (.hn c f h rest) s i σ.length (.ref C) dd H'->wpAny (model X.prog X.w) X.A (gx (.ref a) X.env) (λ_ s2=>wpAny (model X.prog X.w) X.A (jc (.ref a) none) (λ_ s3=>wpAny (model X.prog X.w) X.A (mn (.ref a) X.env [.ExceptHandler (some (.Name B x)) (some nm) (n::o) E]) (SP X W s) X.xe s3) X.xe s2) X.xe s':=by
 intro Y Z X r i nm B n o x E W s k t b hs hf hi F v l fK d j G σ H1 s1 C a H' s' dd I K z;obtain⟨c1,c2,P,c4⟩:=bJ G;rcases z with⟨C0,m0,e0,z⟩|z
 ·cases e0;obtain⟨C',D,m1,Q,R,S,T⟩:=k.ck.xk.fK c B c1;rw[k.mm,m1]at m0;cases m0;have m:X.N.Nodup:=k.ck.hN▸k.ck.nd;have U:=k.ck.xW b;cases f with
  |none=>refine zku I K hs hf U m hi F v Q R S T d j (λoe hc=>?_) z;exact O.L (Cg Y i nm c none) _ (jG X i nm a oe) r _ ⟨⟨k.kk,k.mm,k.fn,k.me,k.cl,k.gi,k.hf⟩,k.ck.jG fK hc m1,(λz=>by cases z),(λ_ _ _ _ _ _ _ z=>by obtain⟨_,_,_,_,_,_,z⟩:=z;exact z),λf z=>by cases z⟩ t (λ_=>PassesOwn.never) (λ_ _ _ _ _ _ _ _ _ _ _ _ _ _ _ _ z=>z.elim) P
  |some fl=>obtain⟨dp,y,rfl,hy,z⟩:=z;obtain⟨C2,f2,fd2,T6,k2,V,xf,_⟩:=t c fl c2;rw[m1]at V;cases V;refine zmt I K hy hs hf U m hi F v Q R S T d j (λod mA u oe ws q1 q2 q3 q4 q5 q6=>?_) z;refine O.L (Cg Y i nm c (some fl)) _ (jG (jS X ((dp,od)::X.pn) X.xe) i nm a oe) r _ ⟨⟨k.kk,k.mm,k.fn,k.me,k.cl,k.gi,k.hf⟩,(GR k.ck b ((dp,od)::X.pn) X.xe).jG fK q4 m1,(λz=>by cases z),(λ_ _ _ _ _ _ _ z=>by obtain⟨_,_,_,_,_,_,z⟩:=z;exact z),λf z=>?_⟩ t (λ_=>PassesOwn.never) (λ_ _ _ _ _ _ _ _ _ _ _ _ _ _ _ _ z=>z.elim) P;cases z;refine⟨y,rfl,λn' c' e p q M=>?_⟩;cases e;exact zoc (X:=jG (jS X ((dp,od)::X.pn) X.xe) i nm a oe) rfl v l M (λ_ _ _ _ J=>(J.pin (a,oe) (db _ aj)).1) q4 q6 q5 (λ_ _ _ _ J=>(J.pin (dp,od) (db _ (ai _ aj))).1) q1 q2 q3 xf
 ·exact ir.H Y Z X r i nm B n o x E W s k t b hs hf hi F v l fK d j c4 σ H1 s1 C a H' s' dd I K z
theorem P6 {st:Stmt}(Q:Wz b)(R:Wz hs)(k:Wok Y Z (CXE X.prog X.w X.base) X r)(M:Wfk Y X r)(h:yj Y (.tR b hs i n) st=true):PS X st (wS Z (.tR b hs i n)):=by
 obtain⟨hn,h⟩:=aC h;obtain⟨⟨S,B,nm,y⟩,T,U⟩:=aL h;obtain⟨N,l,pos,rfl⟩:=Cf T;obtain⟨C,d,V⟩:=aP U;obtain⟨a1,a2,a3,a4,a5⟩:=eS C;obtain⟨b1,b2,b3,b4,b5⟩:=eS d;obtain⟨c1,c2,c3⟩:=aP V;obtain⟨a6,a7⟩:=aC a2;obtain⟨O,y,rfl⟩:=qI c1;obtain⟨g3,g4⟩:=k.ck.gl b2;obtain⟨s1,P⟩:=k.ck.mX (cN a7);have m:=ee.mp a6;have D:=ee.mp b5;have o:=cN b3;intro W s σ H g I hq;refine wpAny_Try_except ?_;generalize hE:(λ(e:Value) (p:aw)=>wpAny (model X.prog X.w) X.A (gx e X.env) (λ_ t=>wpAny (model X.prog X.w) X.A (jc e none) (λ_ x=>wpAny (model X.prog X.w) X.A (mn e X.env [.ExceptHandler (some (.Name B N)) (some nm) (O::y) l]) (SP X W g) X.xe x) X.xe t) X.xe p)=E
 have px:z2l (CXE X.prog X.w X.base) (jS X (X.pn++W) E) (wX Z hs g i n):=λF c H1 G e s' I1 zz=>by
  obtain⟨a,C',dd,H',rfl,fl,q⟩:=zz;rw[<-hE];have j:=Ca I.ok I1;have J:n=c.length:=by rw[j.len,k.ck.hN];simp_all
  rw[J]at q;exact R.H Y Z X r i nm B O y N l W g k M m s1 P (k.ck.hN▸qm a3) (k.ck.hs▸ee.mp b1) (k.ck.hs▸qm a4) (cN c2) (qj a5) g3 g4 c3 c H1 G C' a H' s' dd j fl q
 have wk:Wok Y {Z with E:=wX Z hs g i n} (CXE X.prog X.w X.base) (jS X (X.pn++W) E) r:=⟨⟨k.kk,k.mm,k.fn,k.me,k.cl,k.gi,k.hf⟩,GR k.ck m _ E,k.room,px,λf z=>by rw[D]at z;cases z⟩;have C:=Q.L Y _ (jS X (X.pn++W) E) r S wk M (λz=>by rw[o]at z;cases z) (λz=>by rw[o]at z;cases z) b4;refine aM (C [] s σ H ⟨g.nx,g.rt,λ_ _=>False,λ_ _=>False⟩ (PX I E) hq) λK P d=>?_;cases K with
 |next=>obtain⟨c,H',j,z⟩:=d;exact jz ⟨c,H',Ca I.ok j,z⟩
 |brk=>obtain⟨_,_,_,z⟩:=d;exact z.elim
 |cont=>obtain⟨_,_,_,z⟩:=d;exact z.elim
 |ret u=>obtain⟨v,c,H',j,rv,z⟩:=d;exact⟨v,c,H',Ca I.ok j,rv,z⟩
theorem P7 (s:WS):Wz s:=by
 induction s with
 |nil=>exact⟨λ_ _ _ _ _ _ _ _ _ h=>ff rfl h,λΓ Z X r st k l j m h=>by cases fL h;exact DL,λΓ Z X r i nm B b0 su np j pins Dn k l a1 a2 a3 a4 a5 a6 a7 a8 a9 P8 P9 σ H1 s1 C a H' s' dd I fl z=>z.elim⟩
 |seq a b ia O=>exact⟨λ_ _ _ _ _ _ _ _ _ h=>ff rfl h,λΓ Z X r st k l j m h=>by
  cases st with
  |nil=>cases h
  |cons s st=>obtain⟨d,u⟩:=aC h;exact DM (ia.R Γ Z X r _ k l (λz=>j (pO z)) (λz=>m (pO z)) d) (O.L Γ Z X r _ k l (λz=>j (pP z)) (λz=>m (pP z)) u),λΓ Z X r i nm B b0 su np j pins Dn k l a1 a2 a3 a4 a5 a6 a7 a8 a9 P8 P9 σ H1 s1 C a H' s' dd I fl z=>z.elim⟩
 |asg i e=>exact Wz.x (λΓ Z X r st k l j m h=>by obtain⟨⟨ts,v⟩,A,G⟩:=aL h;obtain⟨p,rfl⟩:=kS A;obtain⟨x,S,P⟩:=aL G;cases fR S;obtain⟨d,u,J⟩:=aP P;obtain⟨y,q,rfl,Q⟩:=hD d;obtain⟨l1,l2,l3⟩:=k.ck.loc Q;exact uP (k.ck.hN▸k.ck.nd) l1 l2 ((dF e).E Γ Z _ X r _ k J) (cN u) l3) (λ_ _=>rfl) λ_ _ _ _ _ _ _ z=>z
 |fld o f e=>exact Wz.x (λΓ Z X r st k l j m h=>by obtain⟨⟨ts,v⟩,A,G⟩:=aL h;obtain⟨p,rfl⟩:=kS A;obtain⟨x,S,P⟩:=aL G;cases fR S;obtain⟨⟨o',f',p'⟩,Y,N⟩:=aL P;cases mW Y;obtain⟨d,u,J,M⟩:=bJ N;have d:=eqB d;subst d;show PS X _ (ri Z.K _ _ _);rw[k.kk];exact Kh ((dF o).E Γ Z _ X r _ k J) ((dF e).E Γ Z _ X r _ k M) (rC (cN u) _ _ _)) (λ_ _=>rfl) λ_ _ _ _ _ _ _ z=>z
 |put o y v=>exact Wz.x (λΓ Z X r st k l j m h=>by obtain⟨⟨ts,v⟩,A,G⟩:=aL h;obtain⟨p,rfl⟩:=kS A;obtain⟨x,S,P⟩:=aL G;cases fR S;obtain⟨w,Y,N⟩:=aL P;obtain⟨_,rfl⟩:=xU Y;obtain⟨d,u,J,M⟩:=bJ N;exact M5 (ki (m8 dc _) k.ck.hu) ((dF o).E Γ Z _ X r _ k u) ((dF y).E Γ Z _ X r _ k J) ((dF _).E Γ Z _ X r _ k M) (rC (cN d) _ _ _)) (λ_ _=>rfl) λ_ _ _ _ _ _ _ z=>z
 |exp e=>exact Wz.x (λΓ Z X r st k l j m h=>by obtain⟨v,A,G⟩:=aL h;obtain⟨p,rfl⟩:=pC A;obtain⟨d,u⟩:=aC G;exact oK ((dF e).E Γ Z _ X r _ k u) (cN d)) (λ_ _=>rfl) λ_ _ _ _ _ _ _ z=>z
 |app o e=>exact Wz.x (λΓ Z X r st k l j m h=>by obtain⟨c,A,G⟩:=aL h;obtain⟨p,rfl⟩:=pC A;obtain⟨⟨x,n,es,b⟩,hm,P⟩:=aL G;obtain⟨ap,cp,rfl,hb⟩:=fS hm;obtain⟨h0,U,N⟩:=aP P;obtain⟨d,u,J⟩:=aP h0;obtain⟨y,hy,M⟩:=aL N;cases fR hy;obtain⟨M,Q⟩:=aC M;have d:=eqB d;subst d;show PS X _ (uv (uL Z.K "list" xg _ _));rw[k.kk];exact oK (zb1 PySem.F.plainAttrs_list PySem.F.slot_list_append PySem.F.type_list_append xh ((dF o).E Γ Z _ X r _ k U) (dN ((dF e).E Γ Z _ X r _ k Q) j' (cN M)) (lK u) (z3i (by rw[cj,M];rfl) (show 1<20 by decide)) (hb.symm.trans J) (eA (cN M)) (lL rfl)) rfl) (λ_ _=>rfl) λ_ _ _ _ _ _ _ z=>z
 |ret e=>exact Wz.x (λΓ Z X r st k l j m h=>by obtain⟨o,A,G⟩:=aL h;obtain⟨p,rfl⟩:=vr A;obtain⟨v,rfl,P⟩:=aL G;exact zC ((dF e).E Γ Z _ X r _ k P)) (λ_ _=>rfl) λ_ _ _ _ _ _ _ z=>z
 |aT c a b ia O=>exact Wz.x (λΓ Z X r st k l j m h=>by obtain⟨v,A,G⟩:=aL h;obtain⟨p,rfl⟩:=vt A;obtain⟨d,u,J⟩:=aP G;exact DN ((dF c).T Γ Z _ X r _ k d).1 (ia.L Γ Z X r _ k l (λz=>j (pO z)) (λz=>m (pO z)) u) (O.L Γ Z X r _ k l (λz=>j (pP z)) (λz=>m (pP z)) J)) (λ_ _=>rfl) λ_ _ _ _ _ _ _ z=>z
 |vK c b O=>exact Wz.x (λΓ Z X r st k l j m h=>by obtain⟨⟨t,B,o⟩,A,G⟩:=aL h;obtain⟨p,rfl⟩:=vx A;obtain⟨d,u,J⟩:=aP G;cases fL J;exact DQ (j rfl) ((dF c).T Γ Z _ X r _ k d).1 (O.L Γ Z X r _ k l (λ_=>j rfl) (λ_=>m rfl) u)) (λ_ _=>rfl) λ_ _ _ _ _ _ _ z=>z
 |bO t it b O=>exact Wz.x (λΓ Z X r st k l j m h=>by obtain⟨V,h⟩:=aC h;obtain⟨⟨t',i,B,o⟩,A,G⟩:=aL h;obtain⟨p,rfl⟩:=rX A;obtain⟨d,u,J,M⟩:=bJ G;obtain⟨Q,U,N⟩:=aP d;cases fL M;show PS X _ (iX (tDW Z.K _) (tDG Z.K _) _);rw[k.kk];exact zcu (j rfl) (k.ck.calm V) ((all it).W Γ.g X r _ _ k.ck U u) (vo k.ck Q) (O.L Γ Z X r _ k l (λ_=>j rfl) (λ_=>m rfl) J) (xX N _)) (λ_ _=>rfl) λ_ _ _ _ _ _ _ z=>z
 |se s=>exact Wz.x (λΓ Z X r st k l j m h=>by show PS X _ (tDS Z.K _);rw[k.kk];exact(F7 s).R Γ.g X r st k.ck (j rfl) h) (λ_ _=>rfl) λ_ _ _ _ _ _ _ z=>z
 |yi o f e=>exact Wz.x (λΓ Z X r st k l j m h=>by obtain⟨⟨ts,v⟩,A,G⟩:=aL h;obtain⟨p,rfl⟩:=kS A;obtain⟨x,S,P⟩:=aL G;cases fR S;obtain⟨⟨o',f',p'⟩,Y,N⟩:=aL P;cases mW Y;obtain⟨d,u,J,M⟩:=bJ N;have d:=eqB d;subst d;show PS X _ (Cc Z.K _ _ _);rw[k.kk];exact PY ((dF o).E Γ Z _ X r _ k J) ((dF e).E Γ Z _ X r _ k M) (rC (cN u) _ _ _)) (λ_ _=>rfl) λ_ _ _ _ _ _ _ z=>z
 |pN c fl e=>exact Wz.x (λΓ Z X r st k l j m h=>by obtain⟨⟨x,es⟩,A,G⟩:=aL h;obtain⟨np,cp,pos,rfl⟩:=BA A;obtain⟨d,u,J,M,Q⟩:=eS G;obtain⟨y,hy,U⟩:=aL Q;cases fR hy;obtain⟨U,N⟩:=aC U;cases qm d;obtain⟨g1,g2⟩:=k.ck.gl u;obtain⟨C,f,fd,ps,n,m1,xf,xi,hn,F,hb⟩:=l _ _ J;exact PS.imp (zdq ((k.room M).mono hn) g1 m1 g2 xf xi F hb ((dF e).E Γ Z _ X r _ k N) (cN U) (m rfl)) λD σ H q=>q C (k.mm▸m1)) (λ_ _=>rfl) λ_ _ _ _ _ _ _ z=>z
 |mZ t it b O=>exact Wz.x (λΓ Z X r st k l j m h=>by obtain⟨V,h⟩:=aC h;obtain⟨⟨t',i,B,o⟩,A,G⟩:=aL h;obtain⟨p,rfl⟩:=rX A;obtain⟨d,u,J,M⟩:=bJ G;obtain⟨Q,N⟩:=aC d;cases fL M;show PS X _ (iX (uz Z.K _) (tDG Z.K _) _);rw[k.kk];exact zcu (j rfl) (k.ck.calm V) (JT ((dF it).E Γ Z _ X r _ k u)) (vo k.ck Q) (O.L Γ Z X r _ k l (λ_=>j rfl) (λ_=>m rfl) J) (xX N _)) (λ_ _=>rfl) λ_ _ _ _ _ _ _ z=>z
 |tR b hs i n O ih=>exact Wz.x (λΓ Z X r st k l j m h=>P6 O ih k l h) (λ_ _=>rfl) λ_ _ _ _ _ _ _ z=>z
 |hn c f h rest ih ir=>exact⟨λ_ _ _ _ _ _ _ _ _ h=>ff rfl h,λ_ _ _ _ _ _ _ _ _ h=>ff rfl h,w_hn ih ir⟩
section
variable {P:cc}{w:World}{K:W.Frag}{mg:Str->Option Value}{base:Heap}
theorem w_fn {Z:Wc}{st:Stmt}(t:Fun K x b st f fd)(i:FnScope Γ.g.N ps (z09 st))(hs:Γ.g.sc=z09 st)(j:Γ.g.xc=none)(d:Dok Γ.g Z.Κ Z.Φ P w K mg base k)(u:∀E,Zok Γ {Z with E:=E} (CXE P w base) P w K mg base k)(l:Γ.xf=none)(kf:Γ.fld=[]\/∀X:Cx,X.prog=P->X.w=w->X.K=K->X.mg=mg->X.base=base->Wfk Γ X k)(v:wkL Γ s (z0l st)=true)
  (len:∀Y H Q E,sp Y H Q E->Y.length=ps.length) (run:∀Y H Q E,sp Y H Q E->wS {Z with E:=E} s {nx:=λ_ H'=>Q .non H',rt:=Q} (start Γ.g.N Y) H):
  FnOk P w K mg base (CXE P w base) (k+1) f fd ps sp:=by
 obtain⟨oc,od,kV,y,pm,an,h,ct,B,rfl,lk,m⟩:=t.ex;refine zm2 lk m i len λA outer s1 H Y Q E n p=>⟨_,(P7 s).L Γ {Z with E:=E} (iC (CXE P w base) P w K mg base Γ.g.N b (z09 st) f h A outer s1 H E) k _ ⟨u E,⟨rfl,hs.symm,i.nd,λ_ _=>rfl,by rw[hs];exact i.kind,d.free,d.fns,d.cst,d.kR,λ_=>n,λ_=>rfl,n.units,λ_=>⟨rfl,rfl⟩,λ_=>rfl,λ_ _ z=>(by rw[j]at z;cases z),d.xk⟩,λ_=>n,λpins σ H1 D e s' I F=>?_,λf z=>by rw[l]at z;cases z⟩ (kf.elim (λe c fl z=>by rw[e]at z;cases z) λg=>g _ rfl rfl rfl rfl rfl) (λ_=>PassesOwn.leaving) (λ_ pins σ H1 D a C ob Y I G J M O R S T=>?_) v,run Y H Q E p⟩
 ·obtain⟨a,C,dd,H',rfl,fl,q⟩:=F;exact fl.leave (outer:=[]) I rfl rfl rfl λU fl=>⟨a,C,dd,H',rfl,fl,q⟩
 ·obtain⟨H2,s4,V,W⟩:=J;refine zdk I ?_ G M O R S rfl rfl rfl λU fl=>⟨a,C,ob.dict,H1,rfl,fl,T⟩;cases e:(iC (CXE P w base) P w K mg base Γ.g.N b (z09 st) f h A outer s1 H E).s₀.heap.get? a with
  |none=>rfl
  |some o=>obtain⟨o',r⟩:=V.base.there a o e (by show a∉ [];simp);rw[W]at r;cases r
end
abbrev aJ:Ad->Prop:=λ_=>True
abbrev F0 (H:Hp):Fm:=⟨H,λ_=>True,λ_=>none,True⟩
section
variable {K:W.Frag}{H:Hp}
theorem Rep.old (r:Rep K H B v d):Rep K H (fQ (F0 H)) v d:=(Rep.there _ r).weak λa h=>by
 cases a with
 |none=>exact trivial
 |some a=>exact⟨λz=>h.2 z,trivial⟩
theorem jT (b:f.length=j.length)(h:∀(i:Nat) (g:G) (d:D),j[i]?=some (some (g,d))->g=G.od/\∃v B,f[i]?=some (some v)/\Rep K H B v d):StOk K (F0 H) H f j where
 ext:=Same.refl H
 aN:=λ_ _=>trivial
 own:=λa i e=>by cases e
 len:=b
 sl:=λi g d e=>by obtain⟨rfl,v,B,c,r⟩:=h i g d e;exact⟨v,c,r.old⟩
def yk:D->Bool
 |.str _=>true
 |_=>false
end
section
variable {Z:Wc}{H:Hp}{x dx:Addr}{es:iZ}
theorem P' {x:V}{dx:D}(a:Rep Z.K H B x dx)(c:Rep Z.K H B' y (.dict es))(hk:qA dx=true)(q:∀H',Same H H'->Q (.bl (gT es dx).isSome) H'):lP Z.K (mB (cmpD .In)) x y H Q:=⟨B,B',dx,.dict es,.bool (gT es dx).isSome,a,c,by show((if qA dx=true then Res.ok (gT es dx).isSome else Res.no)>>=λb=>Res.ok (PyData.bool b))=_;rw[qe hk];rfl,λw H' s r=>by cases r;exact q H' s⟩
theorem Qa (h:a[i]?=some (some (.od,c))):aG Κ Φ (.eP (.var i) ["str"]) a=.ok (.fr,.bool (yk c)):=by show(rG a[i]?>>=λx=>Res.ok (G.fr,PyData.bool (["str"].any λT=>i' (gY x.2) T)))=_;rw[h];cases c<;>rfl
theorem tS {C:Addr}(h:Z.me[j]?=some (C,m,b)):wE Z (.eY o j a)=qv C m b [] Z.E (wE Z o) (wA Z a):=by show(match Z.me[j]? with|some r=>qv r.1 r.2.1 r.2.2 [] Z.E (wE Z o) (wA Z a)|none=>eE)=_;rw[h]
end
namespace Rd
abbrev PL:W:=.bI (.raw 0) "place"
abbrev WD:W:=.bI (.raw 0) "words"
abbrev NB:W:=.bI (.raw 0) "number"
abbrev KD:W:=.bI (.raw 0) "kinds"
abbrev SD:W:=.bI (.raw 0) "said"
abbrev RN:WS:=.seq (.pN "NoRow" "row" NB) .nil
def init:WS:=.seq (.fld (.raw 0) "number" (.raw 1)) (.seq (.fld (.raw 0) "words" (.aZ (.qC (.var 2) (.str " ")))) (.seq (.fld (.raw 0) "place" (.aZ (.int 0))) (.seq (.fld (.raw 0) "kinds" (.raw 3)) (.seq (.fld (.raw 0) "said" (.lst .nil)) .nil))))
def peek:WS:=.seq (.ret (.vG (.tc .Lt PL (.len WD)) (.ix WD PL) (.aZ (.str "")))) .nil
def take:WS:=.seq (.asg 1 (.eY (.raw 0) 0 .nil)) (.seq (.fld (.raw 0) "place" (.bin .Add PL (.aZ (.int 1)))) (.seq (.ret (.raw 1)) .nil))
def takeWord:WS:=.seq (.aT (.tc .NotEq (.eY (.raw 0) 1 .nil) (.raw 1)) RN .nil) .nil
def iI:WS:=.seq (.asg 1 (.eY (.raw 0) 1 .nil)) (.seq (.aT (.not (.tp (.tv (.call 0 "is_name" (.cons (.var 1) .nil))))) RN .nil) (.seq (.ret (.raw 1)) .nil))
def takeEnd:WS:=.seq (.aT (.tc .Lt PL (.len WD)) RN .nil) .nil
end Rd
def eV (n:Int)(wl:Addr)(p:Nat)(kd sl:Addr):List (Str×V):=[("number",.int n),("words",.ref wl),("place",.int p),("kinds",.ref kd),("said",.ref sl)]
def okS (s:Str):Prop:=PyData.strOk s=true/\s.length<=LIM
structure Rw (K:W.Frag)(CR:Addr)(H:Hp)(x dx wl kd sl:Addr)(n:Int)(ws:List Str)(p:Nat):Prop where
 ins:H x=some (.ins CR dx (eV n wl p kd sl))
 sf:H wl=some (.lst (ws.map V.str))
 eB:∀s∈ws,okS s
structure RowK (K:W.Frag)(CR:Addr):Prop where
 cls:Cls K CR
 na:∀f∈(["number","words","place","kinds","said"]:List Str),z3e K CR f
section
variable {K:W.Frag}{H H':Hp}{CR x dx wl kd sl:Addr}{n:Int}{ws:List Str}{p:Nat}
theorem Rw.same (r:Rw K CR H x dx wl kd sl n ws p)(s:Same H H'):Rw K CR H' x dx wl kd sl n ws p:=⟨s _ _ r.ins,s _ _ r.sf,r.eB⟩
theorem yl:∀{a:List Str},(∀s∈a,PyData.strOk s=true)->Reps K H B (a.map V.str) (a.map PyData.str)
 | [],_=>rfl
 |s::a,h=>⟨_,_,rfl,⟨rfl,h s aj⟩,yl λt b=>h t (ai _ b)⟩
theorem Rw.vL (r:Rw K CR H x dx wl kd sl n ws p):Rep K H aJ (.ref wl) (.list (ws.map PyData.str)):=⟨wl,_,rfl,.inl ⟨r.sf,trivial⟩,yl λs h=>(r.eB s h).1⟩
theorem Rw.move (r:Rw K CR H x dx wl kd sl n ws p)(k:∀b o,b≠x->H b=some o->H' b=some o)(e:H' x=some (.ins CR dx (eV n wl a kd sl))):Rw K CR H' x dx wl kd sl n ws a:=⟨e,k _ _ (λz=>by have:=r.ins;rw[<-z,r.sf]at this;cases this) r.sf,r.eB⟩
end
section
variable {Z:Wc}{H:Hp}{σ:L2.St}{CR x dx wl kd sl:Addr}{n:Int}{ws:List Str}{p:Nat}
theorem lU (a:RowK Z.K CR)(r:Rw Z.K CR H x dx wl kd sl n ws p)(h0:σ[0]?=some (some (.ref x)))(hf:f∈(["number","words","place","kinds","said"]:List Str))(b:(eV n wl p kd sl).lookup f=some v)(q:Q v H):wE Z (.bI (.raw 0) f) σ H Q:=⟨.ref x,h0,x,CR,dx,_,v,rfl,r.ins,a.cls,a.na f hf,b,q⟩
theorem GW (d:RowK Z.K CR)(r:Rw Z.K CR H x dx wl kd sl n ws p)(h0:σ[0]?=some (some (.ref x)))(q:∀h,Same H h->Q (decide (p<ws.length)) h):wT Z (.tc .Lt Rd.PL (.len Rd.WD)) σ H Q:=by
 refine lU (Q:=λa i=>(wE Z (.len Rd.WD)) σ i λb c=>lP Z.K (mB (cmpD .Lt)) a b c _) d r h0 dc rfl ?_;refine lU (Q:=λa i=>z6v Z.K (biD "len") [a] i λb c=>lP Z.K (mB (cmpD .Lt)) (.int p) b c λx h=>∃k,x=V.bl k/\Q k h) d r h0 dc rfl ?_;refine⟨aJ,[.list (ws.map PyData.str)],.int ws.length,⟨_,_,rfl,r.vL,rfl⟩,by show Res.ok (PyData.int _)=_;simp,λw i s1 e=>?_⟩;cases e;refine⟨aJ,aJ,.int p,.int ws.length,.bool (decide (p<ws.length)),rfl,rfl,?_,λw c f g=>?_⟩
 ·show Res.ok (PyData.bool _)=_;simp
 ·cases g;exact⟨_,rfl,q c (s1.trans f)⟩
theorem Qb {a:List Str}(h:p<a.length):iD (.list (a.map PyData.str)) (.int p)=.ok (.str (a.getD p "")):=by
 show Res.fJ (cK (a.map PyData.str) p)=_;have:cK (a.map PyData.str) p=some (.str (a.getD p "")):=by unfold cK kB;simp[h]
 rw[this];rfl
theorem fU {K:W.Frag}:StOk K (F0 H) H σ (bd σ.length none):=jT (by rw[cu]) λi g a e=>by rw[ci]at e;split at e<;>cases e
def pk (ws:List Str)(p:Nat):Str:=ws.getD p ""
theorem dR (h:∀s∈ws,okS s):okS (pk ws p):=by
 unfold pk;by_cases e:p<ws.length
 ·rw[ao,bo e];simp_all
 ·rw[ao,gz (by omega)];exact⟨by decide+kernel,by decide+kernel⟩
def z1g (K:W.Frag)(CR:Addr):Sp:=λvs H Q _=>∃x dx wl kd sl n ws p,vs=[.ref x]/\Rw K CR H x dx wl kd sl n ws p/\∀H',Same H H'->Q (.str (pk ws p)) H'
theorem Qc (a:RowK Z.K CR)(r:Rw Z.K CR H x dx wl kd sl n ws p)(q:∀h,Same H h->b.rt (.str (pk ws p)) h):wS Z Rd.peek b [some (.ref x)] H:=by
 refine GW a r rfl λi s1=>?_;by_cases e:p<ws.length
 ·rw[qk e];refine bA ?_;show lH _ _ _ _ _ _;refine lU a (r.same s1) rfl dc rfl ?_;refine lU a (r.same s1) rfl dc rfl ?_;refine⟨aJ,aJ,_,.int p,.str (pk ws p),(r.same s1).vL,rfl,Qb e,λw rw=>?_⟩;obtain⟨rfl,_⟩:=rw;exact q i s1
 ·rw[ql e];refine aX ⟨_,F0 i,_,fU,rfl,λv c d f=>?_⟩;have g:pk ws p="":=by unfold pk;rw[ao,gz (by omega)];rfl
  rw[g]at q;obtain⟨rfl,_⟩:=f;exact q c (s1.trans d)
def z1b (K:W.Frag)(CR:Addr):Sp:=λvs H Q _=>∃x dx wl kd sl n ws p,vs=[.ref x]/\Rw K CR H x dx wl kd sl n ws p/\∀H',(∀b o,b≠x->H b=some o->H' b=some o)->H' x=some (.ins CR dx (eV n wl (p+1) kd sl))->Q (.str (pk ws p)) H'
theorem Qd (c:RowK Z.K CR)(hm:Z.me[0]?=some (CR,("peek":Str),z1g Z.K CR))(r:Rw Z.K CR H x dx wl kd sl n ws p)(q:∀t,(∀b o,b≠x->H b=some o->t b=some o)->t x=some (.ins CR dx (eV n wl (p+1) kd sl))->j.rt (.str (pk ws p)) t):wS Z Rd.take j [some (.ref x),none] H:=by show wE Z (.eY _ 0 _) _ _ _;rw[tS hm];refine⟨.ref x,rfl,x,dx,_,rfl,r.ins,rfl,x,dx,wl,kd,sl,n,ws,p,rfl,r,λu s1=>?_⟩;have d:=r.same s1;refine lU (Q:=λa f=>(wE Z (.aZ (.int 1))) _ f λb g=>oY Z.K (cL .Add) a b g _) c d rfl dc rfl ?_;refine⟨_,F0 u,_,fU,rfl,λv f h k=>?_⟩;cases k;refine⟨aJ,aJ,.int p,.int 1,.int (p+1),rfl,rfl,rfl,λw g i l _=>?_⟩;cases l;have m:=(d.same h).same i;refine⟨.ref x,rfl,x,CR,dx,_,rfl,m.ins,c.cls,c.na _ dc,(show 5<1000 by decide),?_⟩;refine⟨.str (pk ws p),rfl,q _ (λb o s e=>by rw[aH s];exact i b o (h b o (s1 b o e))) ?_⟩;rw[bG];rfl
def pQ (mg:Str->Option Value)(c fl:Str)(y:V)(x:Addr)(H:Hp)(E:XK):Prop:=∀C H' dp,mg c=some (.ref C)->H dp=none->H' dp=some (.xd [(fl,y)])->(∀b o,b≠x->H b=some o->H' b=some o)->E (.ref C) (some dp) H'
theorem ym (a:RowK Z.K CR)(r:Rw Z.K CR g x dx wl kd sl n ws p)(h0:σ[0]?=some (some (.ref x)))(k:∀b o,b≠x->H b=some o->g b=some o)(ex:pQ Z.mg "NoRow" "row" (.int n) x H Z.E):wS Z Rd.RN f σ g:=by
 intro C c;refine lU a r h0 dc rfl λdp hd=>?_;have nx:dp≠x:=by rintro rfl;rw[r.ins]at hd;cases hd
 have h0:H dp=none:=by
  cases e:H dp with
  |none=>rfl
  |some o=>rw[k dp o nx e]at hd;cases hd
 exact ex C _ dp c h0 bG λb o d e=>by rw[aH (by rintro rfl;rw[h0]at e;cases e)];exact k b o d e
theorem Ci (hm:Z.me[1]?=some (CR,("take":Str),z1b Z.K CR))(r:Rw Z.K CR H x dx wl kd sl n ws p)(h0:σ[0]?=some (some (.ref x)))(q:∀a,(∀b o,b≠x->H b=some o->a b=some o)->a x=some (.ins CR dx (eV n wl (p+1) kd sl))->Q (.str (pk ws p)) a):wE Z (.eY (.raw 0) 1 .nil) σ H Q:=by rw[tS hm];exact⟨.ref x,h0,x,dx,_,rfl,r.ins,rfl,x,dx,wl,kd,sl,n,ws,p,rfl,r,q⟩
theorem jU (a b:Str):cC (.str a) (.str b)=decide (a=b):=by
 show(a==b)=_;by_cases h:a=b
 ·subst h;simp
 ·rw[ql h];simpa using h
def spTW (K:W.Frag)(CR:Addr)(mg:Str->Option Value):Sp:=λvs H Q E=>∃x dx wl kd sl n ws p w,vs=[.ref x,.str w]/\Rw K CR H x dx wl kd sl n ws p/\PyData.strOk w=true/\if pk ws p=w then ∀H',(∀b o,b≠x->H b=some o->H' b=some o)->H' x=some (.ins CR dx (eV n wl (p+1) kd sl))->Q .non H' else pQ mg "NoRow" "row" (.int n) x H E
theorem zqn (f:RowK Z.K CR)(hm:Z.me[1]?=some (CR,("take":Str),z1b Z.K CR))(r:Rw Z.K CR H x dx wl kd sl n ws p)(g:PyData.strOk w=true)
  (q:if pk ws p=w then ∀k,(∀b o,b≠x->H b=some o->k b=some o)->k x=some (.ins CR dx (eV n wl (p+1) kd sl))->h.nx [some (.ref x),some (.str w)] k else pQ Z.mg "NoRow" "row" (.int n) x H Z.E):wS Z Rd.takeWord h [some (.ref x),some (.str w)] H:=by
 refine Ci hm r rfl λm l i=>?_;refine⟨.str w,rfl,aJ,aJ,.str (pk ws p),.str w,.bool (!decide (pk ws p=w)),⟨rfl,(dR r.eB).1⟩,⟨rfl,g⟩,?_,λv j c a=>?_⟩
 ·show(Res.ok (!cC (.str (pk ws p)) (.str w))>>=λb=>Res.ok (PyData.bool b))=_;rw[jU];rfl
 cases a;refine⟨_,rfl,?_⟩;have a:=(r.move l i).same c;by_cases e:pk ws p=w
 ·rw[qe e]at q;rw[qk e];refine aX ?_;exact q j (λb o d z=>c b o (l b o d z)) a.ins
 ·rw[qf e]at q;rw[ql e];refine bA (ym f a rfl (λb o d z=>c b o (l b o d z)) q)
def NmOk (Z:Wc)(j:Nat)(nb:Str->Bool):Prop:=∃m,Z.Φ[j]?=some m/\∀s,okS s->m [.str s]=.ok (.fr,.bool (nb s))
def spTN (K:W.Frag)(CR:Addr)(mg:Str->Option Value)(nb:Str->Bool):Sp:=λvs H Q E=>∃x dx wl kd sl n ws p,vs=[.ref x]/\Rw K CR H x dx wl kd sl n ws p/\if nb (pk ws p)=true then ∀H',(∀b o,b≠x->H b=some o->H' b=some o)->H' x=some (.ins CR dx (eV n wl (p+1) kd sl))->Q (.str (pk ws p)) H' else pQ mg "NoRow" "row" (.int n) x H E
theorem zov (h:RowK Z.K CR)(hm:Z.me[1]?=some (CR,("take":Str),z1b Z.K CR))(hn:NmOk Z 0 nb)(r:Rw Z.K CR H x dx wl kd sl n ws p)
  (q:if nb (pk ws p)=true then ∀u,(∀b o,b≠x->H b=some o->u b=some o)->u x=some (.ins CR dx (eV n wl (p+1) kd sl))->j.rt (.str (pk ws p)) u else pQ Z.mg "NoRow" "row" (.int n) x H Z.E):wS Z Rd.iI j [some (.ref x),none] H:=by
 refine Ci hm r rfl λw v k=>?_;have l:=r.move v k;have ok:=dR (p:=p) r.eB;obtain⟨m,c,hn⟩:=hn;refine⟨[none,some (.od,.str (pk ws p))],F0 w,nb (pk ws p),jT rfl λi g t e=>?_,?_,λs d=>?_⟩
 ·rcases i with _|_|i<;>cases e;exact⟨rfl,_,aJ,rfl,rfl,ok.1⟩
 ·show(((match Z.Φ[0]? with|some m=>m [.str (pk ws p)]>>=λr=>Res.ok (gJ r.2 (iP r.1),r.2)|none=>.no):Res GD)>>=λx=>gD x.2)=_;rw[c];show((m [.str (pk ws p)]>>=λr=>Res.ok (gJ r.2 (iP r.1),r.2))>>=λx=>gD x.2)=_;rw[hn _ ok];rfl
 have f:=l.same d;cases a:nb (pk ws p)with
 |true=>rw[qe a]at q;refine aX ?_;exact⟨.str (pk ws p),rfl,q s (λb o a z=>d b o (v b o a z)) f.ins⟩
 |false=>rw[qf (by rw[a];decide)]at q;exact bA (ym h f rfl (λb o a z=>d b o (v b o a z)) q)
def yn (K:W.Frag)(CR:Addr)(mg:Str->Option Value):Sp:=λvs H Q E=>∃x dx wl kd sl n ws p,vs=[.ref x]/\Rw K CR H x dx wl kd sl n ws p/\if p<ws.length then pQ mg "NoRow" "row" (.int n) x H E else ∀H',Same H H'->Q .non H'
theorem Qe (a:RowK Z.K CR)(r:Rw Z.K CR H x dx wl kd sl n ws p)(q:if p<ws.length then pQ Z.mg "NoRow" "row" (.int n) x H Z.E else ∀H',Same H H'->c.nx [some (.ref x)] H'):wS Z Rd.takeEnd c [some (.ref x)] H:=by
 refine GW a r rfl λH1 s1=>?_;by_cases e:p<ws.length
 ·rw[qe e]at q;rw[qk e];exact bA (ym a (r.same s1) rfl (λb o _ z=>s1 b o z) q)
 ·rw[qf e]at q;rw[ql e];exact aX (q H1 s1)
theorem GX:∀(d:List Nat),∀l∈aU c d,l.length<=d.length
 | [],l,h=>by rw[ah.mp h];simp_all
 |a::r,l,h=>by
  have b:=GX (c:=c) r;unfold aU at h;by_cases e:a=c
  ·rw[qe e]at h;rcases aq.mp h with rfl|h
   ·exact c7 _
   ·exact bp (b l h) (gc _)
  ·rw[qf e]at h;cases hs:aU c r with
   |nil=>rw[hs]at h;rw[ah.mp h,ay];simp_all
   |cons q t=>
    rw[hs]at h b;rcases aq.mp h with rfl|h
    ·exact d3 (b q aj)
    ·exact bp (b l (ai _ h)) (gc _)
def spW (c:Nat)(t:Str):List Str:=(aU c t.cps.toList).map toS
theorem Cj:∀s∈spW c t,s.length<=t.length:=λs h=>by obtain⟨l,a,rfl⟩:=cr.mp h;exact GX _ l a
theorem GY {K:W.Frag}:∀{a:List Str} {b:List V},Reps K H B b (a.map PyData.str)->b=a.map V.str/\∀s∈a,PyData.strOk s=true
 | [],b,r=>⟨r,λ_ h=>nomatch h⟩
 |s::a,b,r=>by obtain⟨v,t,rfl,⟨rfl,ok⟩,r⟩:=r;obtain⟨rfl,h⟩:=GY r;exact⟨rfl,λu hu=>(aq.mp hu).elim (λe=>e▸ok) (h u)⟩
theorem Qf (k:c=⟨#[a]⟩)(o:σ[i]?=some (some (.str t)))(ok:okS t)(q:∀n l,Same H n->H l=none->n l=some (.lst ((spW a t).map V.str))->(∀s∈spW a t,okS s)->Q (.ref l) n):wE Z (.aZ (.qC (.var i) (.str c))) σ H Q:=by
 subst k;have b:=(bg.mp o).1;refine⟨(bd σ.length none).set i (some (.od,.str t)),F0 H,(.fr,.list ((spW a t).map PyData.str)),jT (by simp) λj g d e=>?_,?_,λv p s1 m=>?_⟩
 ·by_cases h:i=j
  ·subst h;rw[cg (by simpa using b)]at e;cases e;exact⟨rfl,_,aJ,o,rfl,ok.1⟩
  ·rw[bz h,ci]at e;split at e<;>cases e
 ·show((rG _>>=λx=>Res.ok (G.fr,PyData.str ⟨#[a]⟩)>>=λy=>gX x.2 y.2>>=λd=>Res.ok (G.fr,d)):Res GD)=_;rw[cg (by simpa using b)];show(gX (.str t) (.str ⟨#[a]⟩)>>=λd=>Res.ok (G.fr,d))=_;have:gX (.str t) (.str ⟨#[a]⟩)=.ok (.list ((spW a t).map PyData.str)):=by show(if decide (t.length<=LIM)=true then Res.ok (PyData.list ((aU a t.cps.toList).map λl=>PyData.str (toS l)))else .no)=_;rw[qe (qk ok.2)];unfold spW;rw[dv];rfl
  rw[this];rfl
 ·obtain⟨l,r,rfl,f,rs⟩:=m;obtain⟨rfl,oks⟩:=GY rs;rcases f with⟨f,hn⟩|⟨_,hn⟩
  ·exact q p l s1 hn f λs h=>⟨oks s h,bp (Cj s h) ok.2⟩
  ·exact hn.elim
def spRI (K:W.Frag)(CR:Addr):Sp:=λvs H Q _=>∃x dx kd n t,vs=[.ref x,.int n,.str t,.ref kd]/\H x=some (.ins CR dx [])/\okS t/\∀H' wl sl,(∀b o,b≠x->H b=some o->H' b=some o)->Rw K CR H' x dx wl kd sl n (spW 32 t) 0->H' sl=some (.lst [])->H sl=none->wl≠sl->Q .non H'
theorem zpi (g:RowK Z.K CR)(s:H x=some (.ins CR dx []))(ok:okS t)(q:∀C wl sl,(∀b o,b≠x->H b=some o->C b=some o)->Rw Z.K CR C x dx wl kd sl n (spW 32 t) 0->C sl=some (.lst [])->H sl=none->wl≠sl->u.nx [some (.ref x),some (.int n),some (.str t),some (.ref kd)] C):
  wS Z Rd.init u [some (.ref x),some (.int n),some (.str t),some (.ref kd)] H:=by
 refine⟨.int n,rfl,.ref x,rfl,x,CR,dx,_,rfl,s,g.cls,g.na _ dc,by decide,?_⟩;refine Qf (a:=32) (by decide+kernel) rfl ok λB wl m i r eB=>?_;have w:=m _ _ bG;have d:wl≠x:=by rintro rfl;rw[bG]at i;cases i
 refine⟨.ref x,rfl,x,CR,dx,_,rfl,w,g.cls,g.na _ dc,(show 1<1000 by decide),?_⟩;refine⟨_,F0 _,_,fU,rfl,λv y j z=>?_⟩;cases z;have A:=j _ _ bG;refine⟨.ref x,rfl,x,CR,dx,_,rfl,A,g.cls,g.na _ dc,(show 2<1000 by decide),?_⟩;refine⟨.ref kd,rfl,.ref x,rfl,x,CR,dx,_,rfl,bG,g.cls,g.na _ dc,(show 3<1000 by decide),?_⟩;refine⟨c7 _,λsl c=>?_⟩;have f:sl≠x:=by rintro rfl;rw[bG]at c;cases c
 refine⟨.ref x,rfl,x,CR,dx,[("number",.int n),("words",.ref wl),("place",.int 0),("kinds",.ref kd)],rfl,(aH (Ne.symm f)).trans bG,g.cls,g.na _ dc,(show 4<1000 by decide),?_⟩
 have k:wl≠sl:=by
  rintro rfl
  rw[aH d,aH d]at c;rw[j _ _ (by rw[aH d];exact r)]at c;cases c
 have p:H sl=none:=by
  cases e:H sl with
  |none=>rfl
  |some o=>have l:=j sl o (aH f▸m sl o (aH f▸e));rw[aH f,aH f,l]at c;cases c
 refine q _ wl sl (λb o h e=>?_) ⟨?_,?_,eB⟩ ?_ p k
 ·have l:y b=some o:=j b o (aH h▸m b o (aH h▸e))
  have nb:b≠sl:=by
   rintro rfl
   rw[aH h,aH h,l]at c;cases c
  rw[aH h,aH nb,aH h,aH h];exact l
 ·rw[bG];rfl
 ·rw[aH d,aH k,aH d,aH d];exact j _ _ (aH d▸r)
 ·rw[aH f,bG]
end
namespace Rd
abbrev TK:W:=.eY (.raw 0) 1 .nil
abbrev TN:W:=.eY (.raw 0) 3 .nil
def fE:WS:=.seq (.aT (.tc .In (.raw 1) KD) (.seq (.pN "Twice" "name" (.raw 1)) .nil) .nil) (.seq (.mZ (.tp [2,3]) SD (.seq (.aT (.tc .NotIn (.get KD (.raw 2)) (.raw 3)) (.seq (.pN "Unknown" "name" (.raw 2)) .nil) .nil) .nil)) .nil)
def readRow:WS:=.seq (.asg 1 TK)
 (.seq (.aT (.tc .Eq (.raw 1) (.aZ (.str "fact"))) (.seq (.asg 2 (.tup (.cons (.aZ (.str "fact")) (.cons TN .nil)))) .nil)
  (.seq (.aT (.tc .Eq (.raw 1) (.aZ (.str "open"))) (.seq (.asg 2 (.bZ 0 (.cons (.raw 0) .nil))) .nil)
   (.seq (.aT (.tc .Eq (.raw 1) (.aZ (.str "word"))) (.seq (.asg 2 (.tup (.cons (.aZ (.str "word")) (.cons (.bZ 1 (.cons (.raw 0) .nil)) (.cons (.bZ 2 (.cons (.raw 0) (.cons (.gi 2) .nil))) .nil))))) .nil)
    (.seq (.aT (.tc .Eq (.raw 1) (.aZ (.str "claim"))) (.seq (.asg 2 (.tup (.cons (.aZ (.str "claim")) (.cons (.bZ 1 (.cons (.raw 0) .nil)) (.cons (.bZ 3 (.cons (.raw 0) (.cons (.gi 2) .nil))) .nil))))) .nil) RN) .nil)) .nil)) .nil))
 (.seq (.exp (.eY (.raw 0) 4 .nil)) (.seq (.ret (.raw 2)) .nil)))
def iJ:WS:=.seq (.asg 1 TN) (.seq (.exp (.eY (.raw 0) 2 (.cons (.aZ (.str "if")) .nil))) (.seq (.ret (.raw 1)) .nil))
def readOpen:WS:=.seq (.aT (.tc .Eq (.cnt (.lv KD) (.aZ (.str "open"))) (.gi 1)) RN .nil)
 (.seq (.asg 1 TN) (.seq (.exp (.eY (.raw 0) 2 (.cons (.aZ (.str "for")) .nil))) (.seq (.asg 2 (.bZ 0 (.cons (.raw 0) .nil))) (.seq (.exp (.eY (.raw 0) 2 (.cons (.aZ (.str "against")) .nil)))
 (.seq (.ret (.tup (.cons (.aZ (.str "open")) (.cons (.raw 1) (.cons (.raw 2) (.cons (.bZ 0 (.cons (.raw 0) .nil)) .nil)))))) .nil)))))
def readBody:WS:=.seq (.aT (.tc .Eq (.raw 3) (.gi 0)) (.seq (.pN "NoRow" "row" (.raw 3)) .nil) .nil)
 (.seq (.asg 5 (.mk 0 (.cons (.raw 3) (.cons (.raw 4) (.cons (.raw 2) .nil)))))
 (.seq (.asg 6 (.bZ 0 (.cons (.raw 5) .nil)))
 (.seq (.exp (.bZ 1 (.cons (.raw 5) (.cons (.ix (.raw 6) (.aZ (.int 1))) .nil))))
 (.seq (.put (.raw 2) (.ix (.raw 6) (.aZ (.int 1))) (.ix (.raw 6) (.aZ (.int 0))))
 (.seq (.app (.raw 1) (.raw 6)) .nil)))))
def readAct:WS:=.seq (.aT (.not (.tp (.tv (.eP (.var 0) ["str"])))) (.seq (.pN "NoRow" "row" (.aZ (.int 0))) .nil) .nil) (.seq (.asg 1 (.lst .nil)) (.seq (.asg 2 .gU) (.seq (.bO (.tp [3,4]) (.enum (.qC (.var 0) (.str "\n"))) readBody) (.seq (.ret (.raw 1)) .nil))))
end Rd
theorem Qg (a b:Str):eqK (.str a) (.str b)=decide (a=b):=by
 show(a==b)=_;by_cases h:a=b
 ·subst h;simp
 ·rw[ql h];simpa using h
section
variable {Z:Wc}{H:Hp}{σ:L2.St}{CR x dx wl kd sl:Addr}{n:Int}{ws:List Str}{p:Nat}{nb:Str->Bool}
theorem zqy (hm:Z.me[3]?=some (CR,("take_name":Str),spTN Z.K CR Z.mg nb))(r:Rw Z.K CR H x dx wl kd sl n ws p)(h0:σ[0]?=some (some (.ref x)))
  (q:if nb (pk ws p)=true then ∀a,(∀b o,b≠x->H b=some o->a b=some o)->a x=some (.ins CR dx (eV n wl (p+1) kd sl))->Q (.str (pk ws p)) a else pQ Z.mg "NoRow" "row" (.int n) x H Z.E):wE Z Rd.TN σ H Q:=by
 rw[tS hm];exact⟨.ref x,h0,x,dx,_,rfl,r.ins,rfl,x,dx,wl,kd,sl,n,ws,p,rfl,r,q⟩
theorem kW (h:Z.fn[j]?=some b):wE Z (.bZ j a)=jP b [] Z.E (wA Z a):=by show(match Z.fn[j]? with|some b=>jP b [] Z.E (wA Z a)|none=>eE)=_;rw[h]
theorem vM (hi:σ[i]?=some (some (.str a)))(c:PyData.strOk a=true)(q:∀H',Same H H'->Q (decide (a=b)) H'):wT Z (.tc .Eq (.raw i) (.aZ (.str b))) σ H Q:=by
 refine⟨.str a,hi,_,F0 H,_,fU,rfl,λv H1 s1 d=>?_⟩;refine⟨aJ,_,.str a,.str b,.bool (decide (a=b)),⟨rfl,c⟩,d,?_,λw e f g=>?_⟩
 ·show(Res.ok (cC (.str a) (.str b))>>=λb=>Res.ok (PyData.bool b))=_;rw[jU];rfl
 ·cases g;exact⟨_,rfl,q e (s1.trans f)⟩
end
def kY (mg:Str->Option Value)(c fl:Str)(y:V)(H:Hp)(E:XK):Prop:=∀C H' dp,mg c=some (.ref C)->H dp=none->H' dp=some (.xd [(fl,y)])->Same H H'->E (.ref C) (some dp) H'
theorem GZ:∀(a:List D) (k i:Nat),(z17 k a)[i]?=(a[i]?).map λx=>.tuple [.int ((k+i:Nat):Int),x]
 | [],_,i=>by simp[z17]
 |x::a,k,0=>by simp[z17]
 |x::a,k,i+1=>by
  unfold z17;rw[f9,GZ a (k+1) i,f9]
  congr 2
  funext y
  have:k+1+i=k+(i+1):=by omega
  rw[this]
theorem G0:∀a k,(z17 k a).length=a.length
 | [],_=>rfl
 |_::a,k=>by unfold z17;rw[ay,ay,G0 a]
section
variable {Z:Wc}{H:Hp}
theorem Qh {C:Addr}(h:Z.cl[j]?=some (C,b)):wE Z (.mk j a)=sV C b [] Z.E (wA Z a):=by show(match Z.cl[j]? with|some r=>sV r.1 r.2 [] Z.E (wA Z a)|none=>eE)=_;rw[h]
theorem yo (a b:Int):cC (.int a) (.int b)=decide (a=b):=by
 show(a==b)=_;by_cases h:a=b
 ·subst h;simp
 ·rw[ql h];simpa using h
theorem G1 {C:Addr}(ex:kY Z.mg c fl y H Z.E)(s:Same H H1)(a:Z.mg c=some (.ref C))(hd:H1 dp=none):Z.E (.ref C) (some dp) (upd H1 dp (.xd [(fl,y)])):=ex C _ dp a (s.none hd) bG (s.trans (Same.upd hd))
theorem Qi (h:l.length=7):∃a b c d e f g,l=[a,b,c,d,e,f,g]:=by rcases l with _|⟨a,_|⟨b,_|⟨c,_|⟨d,_|⟨e,_|⟨f,_|⟨g,_|⟨i,l⟩⟩⟩⟩⟩⟩⟩⟩<;>first|exact⟨_,_,_,_,_,_,_,rfl⟩|(simp at h;done)|(simp at h;omega)
theorem Qj (ok:okS t)(b:(spW 10 t).length<=1000)(h0:c[0]?=some (some (.od,.str t))):evW Z.Κ Z.Φ (.enum (.qC (.var 0) (.str "\n"))) c=.ok (.al,z17 0 ((spW 10 t).map PyData.str)):=by
 show(((rG c[0]?>>=λx=>Res.ok (G.fr,PyData.str "\n")>>=λy=>gX x.2 y.2>>=λd=>Res.ok (G.fr,d)):Res GD)>>=λx=>seqR x.2>>=λa=>Res.ok (G.al,z17 0 a))=_;rw[h0];show((gX (.str t) (.str "\n")>>=λd=>Res.ok (G.fr,d))>>=λx=>seqR x.2>>=λa=>Res.ok (G.al,z17 0 a))=_;have:gX (.str t) (.str "\n")=.ok (.list ((spW 10 t).map PyData.str)):=by show(if decide (t.length<=LIM)=true then Res.ok (PyData.list ((aU 10 t.cps.toList).map λl=>PyData.str (toS l)))else .no)=_;rw[qe (qk ok.2)];unfold spW;rw[dv];rfl
 rw[this];show(seqR (.list ((spW 10 t).map PyData.str))>>=λa=>Res.ok (G.al,z17 0 a))=_;have:seqR (.list ((spW 10 t).map PyData.str))=.ok ((spW 10 t).map PyData.str):=by show(if decide (((spW 10 t).map PyData.str).length<=LIM)=true then _ else _)=_;rw[qe (qk (by rw[ak];unfold LIM;omega))]
 rw[this];rfl
end
namespace Rd
abbrev PE:W:=.eY (.raw 0) 0 .nil
abbrev OF:W:=.aZ (.glob 0 "OF_A_THING")
abbrev RM:W:=.bin .Sub (.raw 1) (.aZ (.int 1))
def Qk:WS:=.seq (.asg 2 TK) (.seq (.aT (.tc .In (.raw 2) (.raw 1)) RN .nil) (.seq (.app (.raw 1) (.raw 2)) (.seq (.app SD (.tup (.cons (.raw 2) (.cons OF .nil)))) .nil)))
def readNames:WS:=.seq (.asg 1 (.lst .nil)) (.seq (.vK (.vH (.bZ 0 (.cons PE .nil))) Qk) (.seq (.ret (.aZ (.mJ "tuple" (.tv (.var 1))))) .nil))
def jV:WS:=.seq (.asg 2 TN)
 (.seq (.aT (.tc .Eq PE (.aZ (.str ">="))) (.seq (.ret (.tup (.cons (.aZ (.str "at")) (.cons (.raw 2) (.cons (.bZ 2 (.cons (.raw 0) (.cons (.raw 2) .nil))) .nil))))) .nil) .nil)
 (.seq (.app SD (.tup (.cons (.raw 2) (.cons OF .nil))))
 (.seq (.ret (.vG (.tc .Eq (.get KD (.raw 2)) (.aZ (.str "fact"))) (.tup (.cons (.aZ (.str "at")) (.cons (.raw 2) (.cons (.aZ (.int 1)) .nil)))) (.tup (.cons (.aZ (.str "is")) (.cons (.raw 2) .nil))))) .nil)))
def fF:WS:=.seq (.aT (.tc .Lt (.raw 1) (.aZ (.int 1))) RN .nil)
 (.seq (.aT (.tc .Eq PE (.aZ (.str "not"))) (.seq (.exp TK) (.seq (.ret (.tup (.cons (.aZ (.str "not")) (.cons (.bZ 0 (.cons (.raw 0) (.cons RM .nil))) .nil)))) .nil)) .nil)
 (.seq (.aT (.tc .Eq PE (.aZ (.str "("))) (.seq (.ret (.bZ 1 (.cons (.raw 0) (.cons (.gf 0) (.cons RM .nil))))) .nil) .nil) jV))
def fG:WS:=.seq (.aT (.tc .Lt (.raw 1) (.aZ (.int 1))) RN .nil)
 (.seq (.aT (.tc .Eq PE (.aZ (.str "("))) (.seq (.ret (.bZ 1 (.cons (.raw 0) (.cons (.gf 0) (.cons RM .nil))))) .nil) .nil)
 (.seq (.asg 2 TK)
 (.seq (.aT (.tc .Eq (.raw 2) (.aZ (.str "not"))) (.seq (.ret (.tup (.cons (.aZ (.str "not")) (.cons (.bZ 0 (.cons (.raw 0) (.cons RM .nil))) .nil)))) .nil) .nil)
 (.seq (.aT (.tc .NotIn (.raw 2) (.aZ (.tup (.cons (.str "some") (.cons (.str "all") .nil))))) RN .nil)
 (.seq (.ret (.tup (.cons (.raw 2) (.cons (.bZ 2 (.cons (.raw 0) (.cons RM .nil))) .nil)))) .nil)))))
def fH:WS:=.seq (.exp (.eY (.raw 0) 2 (.cons (.aZ (.str "(")) .nil)))
 (.seq (.asg 3 (.qN 1 0 (.cons (.raw 0) (.cons (.raw 2) .nil))))
 (.seq (.asg 4 TK)
 (.seq (.aT (.tc .NotIn (.raw 4) (.aZ (.tup (.cons (.str "and") (.cons (.str "or") .nil))))) RN .nil)
 (.seq (.asg 5 (.qN 1 0 (.cons (.raw 0) (.cons (.raw 2) .nil))))
 (.seq (.exp (.eY (.raw 0) 2 (.cons (.aZ (.str ")")) .nil)))
 (.seq (.ret (.tup (.cons (.raw 4) (.cons (.raw 3) (.cons (.raw 5) .nil))))) .nil))))))
def readBound:WS:=.seq (.exp (.eY (.raw 0) 2 (.cons (.aZ (.str ">=")) .nil)))
 (.seq (.asg 2 (.bZ 0 (.cons TK .nil)))
 (.seq (.aT (.tp (.or (.tv (.mI false (.var 2))) (.not (.tv (.chain .LtE .LtE (.int 1) (.var 2) (.bin .Pow (.int 10) (.int 30))))))) RN .nil)
 (.seq (.app SD (.tup (.cons (.raw 1) (.cons (.aZ (.tup (.cons (.str "fact") .nil))) .nil))))
 (.seq (.ret (.raw 2)) .nil))))
end Rd
def gI (ks:List (Str×Str)):List (Key×V):=ks.map λy=>(.inr y.1,V.str y.2)
def yp (ks:List (Str×Str)):iZ:=ks.map λy=>(PyData.str y.1,PyData.str y.2)
theorem G2 {K:W.Frag}:∀{b:List (Str×Str)},(∀y∈b,PyData.strOk y.1=true/\PyData.strOk y.2=true)->cQ K H B (gI b) (yp b)
 | [],_=>rfl
 |y::b,h=>⟨.inr y.1,.str y.2,gI b,rfl,rfl,(h y aj).1,⟨rfl,(h y aj).2⟩,G2 λt a=>h t (ai _ a)⟩
def Fr (x sl:Addr)(H H':Hp):Prop:=∀b o,b≠x->b≠sl->H b=some o->H' b=some o
theorem Fr.of_same (s:Same H a):Fr x sl H a:=λb o _ _ e=>s b o e
theorem Fr.trans (f:Fr x sl H H1)(g:Fr x sl H1 d):Fr x sl H d:=λb o a c e=>g b o a c (f b o a c e)
theorem Fr.fV (k:∀b o,b≠x->H b=some o->a b=some o):Fr x sl H a:=λb o h _ e=>k b o h e
def vN (d:D):Prop:=∃(nm:Str) (ts:List Str),d=.tuple [.str nm,.tuple (ts.map PyData.str)]
structure Rg (K:W.Frag)(CR:Addr)(H:Hp)(x dx wl kd sl:Addr)(n:Int)(ws:List Str)(ks:List (Str×Str))(p:Nat)(sd:List D):Prop where
 rw:Rw K CR H x dx wl kd sl n ws p
 kk:H kd=some (.dK (gI ks))
 lV:∀y∈ks,PyData.strOk y.1=true/\PyData.strOk y.2=true
 sq:∃vs,H sl=some (.lst vs)/\Reps K H aJ vs sd
 im:imms sd=true
 wf:∀d∈sd,vN d
 ne:wl≠sl
 len:sd.length<=p
 nU:ws.length<=LIM
section
variable {K:W.Frag}{H H':Hp}{CR x dx wl kd sl:Addr}{n:Int}{ws:List Str}{ks:List (Str×Str)}{p:Nat}{sd:List D}
theorem Rg.same (r:Rg K CR H x dx wl kd sl n ws ks p sd)(s:Same H H'):Rg K CR H' x dx wl kd sl n ws ks p sd:=by obtain⟨vs,a,b⟩:=r.sq;exact⟨r.rw.same s,s _ _ r.kk,r.lV,⟨vs,s _ _ a,b.same s λ_ h=>h⟩,r.im,r.wf,r.ne,r.len,r.nU⟩
theorem Rg.nx (r:Rg K CR H x dx wl kd sl n ws ks p sd):kd≠x/\sl≠x/\kd≠sl:=by
 obtain⟨b,a,_⟩:=r.sq;refine⟨?_,?_,?_⟩
 ·rintro rfl;have:=r.rw.ins;rw[r.kk]at this;cases this
 ·rintro rfl;have:=r.rw.ins;rw[a]at this;cases this
 ·rintro rfl;have:=r.kk;rw[a]at this;cases this
theorem Rg.move (r:Rg K CR H x dx wl kd sl n ws ks p sd)(k:∀b o,b≠x->H b=some o->H' b=some o)(e:H' x=some (.ins CR dx (eV n wl d kd sl)))(f:p<=d):Rg K CR H' x dx wl kd sl n ws ks d sd:=by obtain⟨l,g,h⟩:=r.sq;obtain⟨i,j,_⟩:=r.nx;exact⟨r.rw.move k e,k _ _ i r.kk,r.lV,⟨l,k _ _ j g,Reps.bW (λa o c fx=>k a o (by rintro rfl;rw[r.rw.ins]at c;cases c;exact fx.elim) c) _ r.im h⟩,r.im,r.wf,r.ne,bp r.len f,r.nU⟩
theorem Rg.say (r:Rg K CR H x dx wl kd sl n ws ks p sd)(f:H sl=some (.lst B))(g:Reps K H aJ B sd)(i:Rep K H aJ v d)(c:imm d=true)(j:vN d)(k:sd.length<p):Rg K CR (upd H sl (.lst (B++[v]))) x dx wl kd sl n ws ks p (sd++[d]):=by
 obtain⟨A,l,m⟩:=r.nx;have fx:∀a o,H a=some o->Fix o->upd H sl (.lst (B++[v])) a=some o:=λa o e fx=>by rw[aH (by rintro rfl;rw[f]at e;cases e;exact fx.elim)];exact e
 have pR:∀(a b:List D),imms a=true->imms b=true->imms (a++b)=true:=λa b q s=>by
  induction a with
  |nil=>exact s
  |cons y a t=>obtain⟨u,w⟩:=aC q;show(imm y&&imms (a++b))=true;rw[u,t w];rfl
 refine⟨⟨?_,?_,r.rw.eB⟩,?_,r.lV,⟨B++[v],bG,?_⟩,pR sd [d] r.im (by show(imm d&&true)=true;rw[c];rfl),(λe z=>(bh.mp z).elim (r.wf e) λh=>ah.mp h▸j),r.ne,by rw[ax];exact k,r.nU⟩
 ·rw[aH (Ne.symm l)];exact r.rw.ins
 ·rw[aH r.ne];exact r.rw.sf
 ·rw[aH m];exact r.kk
 ·exact(Reps.bW fx _ r.im g).append ⟨v,[],rfl,Rep.bW fx _ c i,rfl⟩
theorem Rg.fx (r:Rg K CR H x dx wl kd sl n ws ks p sd)(f:Fr x sl H H'):∀a o,H a=some o->Fix o->H' a=some o:=λa o e fx=>by obtain⟨c,b,_⟩:=r.sq;exact f a o (by rintro rfl;rw[r.rw.ins]at e;cases e;exact fx.elim) (by rintro rfl;rw[b]at e;cases e;exact fx.elim) e
theorem nT:∀(ns:List Str),imms (ns.map PyData.str)=true
 | []=>rfl
 |s::ns=>by show(imm (.str s)&&imms (ns.map PyData.str))=true;rw[nT ns];rfl
theorem Ck (ns:List Str):imm (.tuple (ns.map PyData.str):D)=true:=nT ns
def iK (mg:Str->Option Value)(c fl:Str)(y:V)(x sl:Addr)(H:Hp)(E:XK):Prop:=∀C H' dp,mg c=some (.ref C)->H dp=none->H' dp=some (.xd [(fl,y)])->Fr x sl H H'->E (.ref C) (some dp) H'
theorem Ql (ex:iK mg c fl y x sl H E)(k:Fr x sl H g)(d:g x≠none)(hs:g sl≠none):iK mg c fl y x sl g E:=λC H' dp f a hd h=>by
 refine ex C H' dp f ?_ hd (k.trans h);cases e:H dp with
 |none=>rfl
 |some o=>
  by_cases z:dp=x
  ·subst z;exact absurd a d
  ·by_cases b:dp=sl
   ·subst b;exact absurd a hs
   ·rw[k dp o z b e]at a;cases a
theorem vO (ex:iK mg c fl y x sl H E):pQ mg c fl y x H E:=λC H' dp a b hd k=>ex C H' dp a b hd (Fr.fV k)
theorem Rg.gK (r:Rg K CR H x dx wl kd sl n ws ks p sd)(ex:iK mg c fl y x sl H0 E)(k:Fr x sl H0 H):iK mg c fl y x sl H E:=by obtain⟨b,a,_⟩:=r.sq;exact Ql ex k (by rw[r.rw.ins];nofun) (by rw[a];nofun)
end
section
variable {Z:Wc}{H H0:Hp}{σ:L2.St}{CR x dx wl kd sl:Addr}{n:Int}{ws:List Str}{ks:List (Str×Str)}{p:Nat}{sd:List D}
theorem G3 (m0:Z.me[0]?=some (CR,("peek":Str),z1g Z.K CR))(r:Rg Z.K CR H x dx wl kd sl n ws ks p sd)(h0:σ[0]?=some (some (.ref x)))(q:∀a,Same H a->Q (.str (pk ws p)) a):wE Z Rd.PE σ H Q:=by rw[tS m0];exact⟨.ref x,h0,x,dx,_,rfl,r.rw.ins,rfl,x,dx,wl,kd,sl,n,ws,p,rfl,r.rw,q⟩
theorem yq (m0:Z.me[0]?=some (CR,("peek":Str),z1g Z.K CR))(r:Rg Z.K CR H x dx wl kd sl n ws ks p sd)(h0:σ[0]?=some (some (.ref x)))(q:∀i,Same H i->Q (decide (pk ws p=b)) i):wT Z (.tc .Eq Rd.PE (.aZ (.str b))) σ H Q:=by
 refine G3 (Q:=λa j=>(wE Z (.aZ (.str b))) σ j λd c=>lP Z.K (mB (cmpD .Eq)) a d c λx i=>∃k,x=V.bl k/\Q k i) m0 r h0 λH0 e=>?_;refine⟨_,F0 H0,_,fU,rfl,λv j s1 f=>?_⟩;refine⟨aJ,_,.str (pk ws p),.str b,.bool (decide (pk ws p=b)),⟨rfl,(dR r.rw.eB).1⟩,f,?_,λw c g h=>?_⟩
 ·show(Res.ok (cC (.str (pk ws p)) (.str b))>>=λb=>Res.ok (PyData.bool b))=_;rw[jU];rfl
 ·cases h;exact⟨_,rfl,q c ((e.trans s1).trans g)⟩
theorem tT (m1:Z.me[1]?=some (CR,("take":Str),z1b Z.K CR))(r:Rg Z.K CR H x dx wl kd sl n ws ks p sd)(h0:σ[0]?=some (some (.ref x)))(q:∀a,(∀b o,b≠x->H b=some o->a b=some o)->Rg Z.K CR a x dx wl kd sl n ws ks (p+1) sd->Q (.str (pk ws p)) a):wE Z Rd.TK σ H Q:=Ci m1 r.rw h0 λa k e=>q a k (r.move k e (gc p))
theorem pS (a:RowK Z.K CR)(r:Rg Z.K CR H x dx wl kd sl n ws ks p sd)(h0:σ[0]?=some (some (.ref x)))(k:Fr x sl H0 H)(ex:iK Z.mg "NoRow" "row" (.int n) x sl H0 Z.E):wS Z Rd.RN b σ H:=ym a r.rw h0 (λ_ _ _ e=>e) (vO (r.gK ex k))
theorem zby (w:RowK Z.K CR)(r:Rg Z.K CR H x dx wl kd sl n ws ks p sd)(h0:σ[0]?=some (some (.ref x)))(hi:σ[i]?=some (some (.str nm)))(c:PyData.strOk nm=true)(y:sd.length<p)(z:p<=LIM)(f:imm d=true)(hd:∃g:List Str,d=.tuple (g.map PyData.str))
  (A:∀(H:Hp) (Q:VK),(∀v H',Same H H'->Rep Z.K H' aJ v d->Q v H')->wE Z e σ H Q)
  (q:∀H',Fr x sl H H'->Rg Z.K CR H' x dx wl kd sl n ws ks p (sd++[.tuple [.str nm,d]])->m.nx σ H'):wS Z (.app Rd.SD (.tup (.cons (.raw i) (.cons e .nil)))) m σ H:=by
 obtain⟨vs,j,s⟩:=r.sq;have go:∀Q:VK,Q (.ref sl) H->wE Z Rd.SD σ H Q:=λQ q=>lU w r.rw h0 dc rfl q;show wE Z Rd.SD σ H λl H1=>tyV Z.K "list" l H1/\(mD (wE Z (.tup (.cons (.raw i) (.cons e .nil)))) eO) σ H1 λB C=>xg l B C λ_ H'=>m.nx σ H';refine go _ ⟨.inl ⟨rfl,_,.inl (.inl j)⟩,?_⟩;refine⟨.str nm,hi,A H _ λv H1 s1 D=>⟨(show 2<=av by rw[cb];decide),λt u=>?_⟩⟩;have a:=s1.trans (Same.upd (o:=.tup [.str nm,v]) u);have E:=r.same a;have rt:Rep Z.K (upd H1 t (.tup [.str nm,v])) aJ (.ref t) (.tuple [.str nm,d]):=⟨t,_,rfl,.inl (.inl bG),⟨_,_,rfl,⟨rfl,c⟩,_,_,rfl,D.same (Same.upd u) (λ_ h=>h),rfl⟩⟩;refine⟨sl,vs,.ref t,rfl,rfl,a _ _ j,?_,?_⟩
 ·have:=s.length;rw[cb];unfold LIM at z;omega
 ·refine q _ (λb o F k e=>by rw[aH k];exact a b o e) ?_;exact E.say (a _ _ j) (s.same a λ_ h=>h) rt (by show(true&&(imm d&&true))=true;rw[f];rfl) (by obtain⟨g,rfl⟩:=hd;exact⟨nm,g,rfl⟩) y
end
def OFT:D:=.tuple [.str "fact",.str "open",.str "word"]
def cR (nm:Str)(t:D):D:=.tuple [.str nm,t]
def si (nb:Str->Bool)(ws:List Str):Nat->Nat->List Str->List D->Option (List Str×Nat×List D)
 |0,p,ns,sd=>some (ns,p,sd)
 |k+1,p,ns,sd=>if nb (pk ws p)=true then(if pk ws p∈ns then none else si nb ws k (p+1) (ns++[pk ws p]) (sd++[cR (pk ws p) OFT]))else some (ns,p,sd)
def z1c (nb:Str->Bool)(ws:List Str)(p:Nat)(sd:List D):Option (List Str×Nat×List D):=si nb ws (ws.length-p) p [] sd
theorem Cm (h:ws.length<=p):pk ws p="":=by unfold pk;rw[ao,gz h];rfl
def OfK (Z:Wc):Prop:=Z.Κ[0]?=some OFT
def vP (K:W.Frag)(CR:Addr)(mg:Str->Option Value)(x dx wl kd sl:Addr)(n:Int)(ws:List Str)(ks:List (Str×Str))(H:Hp)(Q:VK)(E:XK):Option (List Str×Nat×List D)->Prop
 |some (ns,p',yr)=>∀H' v,Fr x sl H H'->Rg K CR H' x dx wl kd sl n ws ks p' yr->Rep K H' aJ v (.tuple (ns.map .str))->Q v H'
 |none=>iK mg "NoRow" "row" (.int n) x sl H E
def spNs (K:W.Frag)(CR:Addr)(mg:Str->Option Value)(nb:Str->Bool):Sp:=λvs H Q E=>∃x dx wl kd sl n ws ks p sd,vs=[.ref x]/\Rg K CR H x dx wl kd sl n ws ks p sd/\nb ""=false/\vP K CR mg x dx wl kd sl n ws ks H Q E (z1c nb ws p sd)
def NmSp (Z:Wc)(j:Nat)(nb:Str->Bool):Prop:=∃m,Z.fn[j]?=some (spD Z.K 1 m)/\∀s,okS s->m [.str s]=.ok (.fr,.bool (nb s))
section
variable {Z:Wc}{H:Hp}{σ:L2.St}{CR x dx wl kd sl:Addr}{n:Int}{ws:List Str}{ks:List (Str×Str)}{p:Nat}{sd:List D}{nb:Str->Bool}
theorem Qm (m0:Z.me[0]?=some (CR,("peek":Str),z1g Z.K CR))(hn:NmSp Z 0 nb)(r:Rg Z.K CR H x dx wl kd sl n ws ks p sd)(h0:σ[0]?=some (some (.ref x)))(q:∀d,Same H d->Q (nb (pk ws p)) d):wT Z (.vH (.bZ 0 (.cons Rd.PE .nil))) σ H Q:=by obtain⟨m,hm,hn⟩:=hn;show wE Z (.bZ 0 (.cons Rd.PE .nil)) σ H _;rw[kW hm];refine G3 m0 r h0 λe s1=>?_;have ok:=dR (p:=p) r.rw.eB;refine⟨aJ,[.str (pk ws p)],(.fr,.bool (nb (pk ws p))),rfl,⟨_,_,rfl,⟨rfl,ok.1⟩,rfl⟩,hn _ ok,λv a b c=>?_⟩;cases c;exact⟨_,rfl,q a (s1.trans b)⟩
theorem Cn:∀(ns:List Str),iO 40 (ns.map PyData.str)=true
 | []=>rfl
 |s::ns=>by show(cE 40 (.str s)&&iO 40 (ns.map PyData.str))=true;rw[Cn ns];rfl
theorem G4 (s:Str):∀(ns:List Str),((ns.map PyData.str).any λy=>cC y (.str s))=decide (s∈ns)
 | []=>by simp
 |t::ns=>by
  rw[br,i5,G4 s ns,jU];by_cases h:t=s
  ·subst h;simp
  ·rw[ql h];have:s≠t:=λz=>h z.symm;simp[this]
theorem Qn (s:Str)(ns:List Str):inD (.str s) (.list (ns.map PyData.str))=.ok (decide (s∈ns)):=by show(if(cE 40 (.str s)&&iO 40 (ns.map PyData.str))=true then Res.ok ((ns.map PyData.str).any λy=>cC y (.str s))else .no)=_;rw[Cn,G4];rfl
theorem z82 (hk:OfK Z)(H:Hp)(Q:VK)(q:∀v b,Same H b->Rep Z.K b aJ v OFT->Q v b):wE Z Rd.OF σ H Q:=by refine⟨_,F0 H,(.fr,OFT),fU,?_,λv c s1 a=>q v c s1 (Rep.weak (λ_ _=>trivial) a)⟩;show((match Z.Κ[0]? with|some d=>if imm d=true then Res.ok (G.fr,d)else .no|none=>.no):Res GD)=_;rw[hk];rfl
theorem zn8 (rk:RowK Z.K CR)(m0:Z.me[0]?=some (CR,("peek":Str),z1g Z.K CR))(m1:Z.me[1]?=some (CR,("take":Str),z1b Z.K CR))(hn:NmSp Z 0 nb)(hk:OfK Z)(n0:nb ""=false)(r:Rg Z.K CR H x dx wl kd sl n ws ks p sd)
  (q:vP Z.K CR Z.mg x dx wl kd sl n ws ks H D0.rt Z.E (z1c nb ws p sd)):wS Z Rd.readNames D0 [some (.ref x),none,none] H:=by
 refine⟨c7 _,λd f=>?_⟩;obtain⟨T7,T,_⟩:=r.sq;have G:d≠sl:=by rintro rfl;rw[T]at f;cases f
 have U:d≠wl:=by rintro rfl;rw[r.rw.sf]at f;cases f
 have B:d≠x:=by rintro rfl;rw[r.rw.ins]at f;cases f
 have s0:Same H (upd H d (.lst [])):=Same.upd f;refine⟨λm I H'=>∃c ns l J,m=ws.length-c/\I=[some (.ref x),some (.ref d),J]/\Rg Z.K CR H' x dx wl kd sl n ws ks c l/\H' d=some (.lst (ns.map V.str))/\(∀s∈ns,PyData.strOk s=true)/\ns.length<=c/\Fr x sl H H'/\si nb ws (ws.length-c) c ns l=z1c nb ws p sd,⟨_,p,[],sd,none,rfl,rfl,r.same s0,bG,(λ_ h=>by cases h),c7 _,Fr.of_same s0,rfl⟩,?_⟩
 rintro m I H' ⟨c,ns,l,J,rfl,rfl,r',hl,oks,L,fr,A⟩
 refine Qm m0 hn r' rfl λH1 s1=>?_;have W:=r'.same s1;have M:=fr.trans (Fr.of_same s1);cases S:nb (pk ws c)with
 |false=>
  refine aX ?_
  have e:z1c nb ws p sd=some (ns,c,l):=by
   rw[<-A];cases hk:ws.length-c with
   |zero=>rfl
   |succ k=>show(if nb (pk ws c)=true then _ else _)=_;rw[qf (by rw[S];decide)]
  rw[e]at q;refine⟨[none,some (.od,.list (ns.map PyData.str)),none],F0 H1,(gJ (.tuple (ns.map PyData.str)) (if imms (ns.map PyData.str)then .fr else agG .od),.tuple (ns.map PyData.str)),jT rfl λi g d' e=>?_,rfl,λv C s2 N=>q C v (M.trans (Fr.of_same s2)) (W.same s2) (Rep.weak (λ_ _=>trivial) N)⟩;rcases i with _|_|_|i<;>cases e;exact⟨rfl,_,aJ,rfl,d,_,rfl,.inl ⟨s1 _ _ hl,trivial⟩,yl oks⟩
 |true=>
  refine bA ?_
  have T8:c<ws.length:=by
   cases pi c ws.length with
   |inl h=>exact h
   |inr h=>rw[Cm h,n0]at S;cases S
  have e:z1c nb ws p sd=if pk ws c∈ns then none else si nb ws (ws.length-(c+1)) (c+1) (ns++[pk ws c]) (l++[cR (pk ws c) OFT]):=by
   rw[<-A];have:ws.length-c=(ws.length-(c+1))+1:=by omega
   rw[this];show(if nb (pk ws c)=true then _ else _)=_;rw[qe S]
  have D:=(dR (p:=c) r.rw.eB).1;refine⟨λO C=>∃J,∃t,O=[some (.ref x),some (.ref d),J]/\Rg Z.K CR C x dx wl kd sl n ws ks (c+1) t/\C d=some (.lst ((ns++[pk ws c]).map V.str))/\Fr x sl H C/\si nb ws (ws.length-(c+1)) (c+1) (ns++[pk ws c]) t=z1c nb ws p sd,?_,?_⟩
  ·rintro O C ⟨b3,t,rfl,N,u,F,P⟩
   refine⟨ws.length-(c+1),by omega,c+1,_,t,b3,rfl,rfl,N,u,λs hs=>?_,by rw[ax];exact d3 L,F,P⟩;rcases bh.mp hs with h|h
   ·exact oks s h
   ·cases ah.mp h;exact D
  ·show wE Z Rd.TK [some (.ref x),some (.ref d),J] H1 _;refine tT m1 W rfl λC k2 N=>?_;have F:=M.trans (Fr.fV k2);have u:=k2 _ _ B (s1 _ _ hl);refine⟨.str (pk ws c),rfl,.ref d,rfl,aJ,aJ,.str (pk ws c),.list (ns.map PyData.str),.bool (decide (pk ws c∈ns)),⟨rfl,D⟩,⟨d,_,rfl,.inl ⟨u,trivial⟩,yl oks⟩,?_,λw H3 X j=>?_⟩
   ·show(inD (.str (pk ws c)) (.list (ns.map PyData.str))>>=λb=>Res.ok (PyData.bool b))=_;rw[Qn];rfl
   cases j;refine⟨_,rfl,?_⟩;have j:=N.same X;have Q:=F.trans (Fr.of_same X);by_cases y:pk ws c∈ns
   ·rw[qe y]at e;rw[e]at q;rw[qk y];exact bA (pS rk j rfl Q q)
   ·rw[qf y]at e;rw[ql y];refine aX ?_;have z:=X _ _ u;refine⟨.ref d,rfl,.inl ⟨rfl,_,.inl (.inl z)⟩,.str (pk ws c),rfl,d,_,.str (pk ws c),rfl,rfl,z,?_,?_⟩
    ·rw[ak,cb];have:=r.nU;unfold LIM at this;omega
    have r4:Rg Z.K CR (upd H3 d (.lst (ns.map V.str++[.str (pk ws c)]))) x dx wl kd sl n ws ks (c+1) l:=by
     obtain⟨vs,Y,h2⟩:=j.sq;have Qo:kd≠d:=by rintro rfl;have:=j.kk;rw[z]at this;cases this
     exact⟨⟨by rw[aH (Ne.symm B)];exact j.rw.ins,by rw[aH (Ne.symm U)];exact j.rw.sf,j.rw.eB⟩,by rw[aH Qo];exact j.kk,j.lV,⟨vs,by rw[aH (Ne.symm G)];exact Y,Reps.bW (λa o P fx=>by rw[aH (by rintro rfl;rw[z]at P;cases P;exact fx.elim)];exact P) _ j.im h2⟩,j.im,j.wf,j.ne,j.len,j.nU⟩
    refine zby rk r4 rfl rfl D ?_ ?_ rfl ⟨["fact","open","word"],rfl⟩ (z82 hk) λH5 R r5=>?_
    ·have:=W.len;omega
    ·have:=r.nU;omega
    refine⟨some (.str (pk ws c)),_,rfl,r5,?_,?_,e.symm⟩
    ·rw[R d (.lst (ns.map V.str++[.str (pk ws c)])) B G bG,b8];rfl
    ·refine Fr.trans (λb o Y h2 e=>?_) R;rw[aH (by rintro rfl;rw[f]at e;cases e)];exact Q b o Y h2 e
end
abbrev Ro:=Option (D×Nat×List D)
def lkG (ks:List (Str×Str))(nm:Str):Option Str:=(ks.find? λy=>decide (y.1=nm)).map (·.2)
def kZ (nf:Str->Option Int)(ws:List Str)(nm:Str)(p:Nat)(sd:List D):Ro:=
 if pk ws p=">="then match nf (pk ws (p+1))with
  |some k=>if 1<=k/\k<=10 ^ 30 then some (.int k,p+2,sd++[cR nm (.tuple [.str "fact"])])else none
  |none=>none
 else none
def jW (ws:List Str)(f:Nat->List D->Ro)(p:Nat)(sd:List D):Ro:=
 if pk ws p="("then match f (p+1) sd with
  |none=>none
  |some (d1,p1,s1)=>if pk ws p1="and"\/pk ws p1="or"then match f (p1+1) s1 with
    |none=>none
    |some (d2,p2,s2)=>if pk ws p2=")"then some (.tuple [.str (pk ws p1),d1,d2],p2+1,s2)else none
   else none
 else none
def dS (s:Str):Ro->Ro
 |some (d,p,sd)=>some (.tuple [.str s,d],p,sd)
 |none=>none
def jJ (s t:Str):Ro->Ro
 |some (d,p,sd)=>some (.tuple [.str s,.str t,d],p,sd)
 |none=>none
def fW (nb:Str->Bool)(nf:Str->Option Int)(ws:List Str)(ks:List (Str×Str))(p:Nat)(sd:List D):Ro:=
 if nb (pk ws p)=true then(if pk ws (p+1)=">="then jJ "at" (pk ws p) (kZ nf ws (pk ws p) (p+1) sd) else some (if lkG ks (pk ws p)=some ("fact":Str)then .tuple [.str "at",.str (pk ws p),.int 1]else .tuple [.str "is",.str (pk ws p)],p+1,sd++[cR (pk ws p) OFT]))
 else none
def z0u (nb:Str->Bool)(nf:Str->Option Int)(ws:List Str)(ks:List (Str×Str)):Nat->Nat->List D->Ro
 |0,_,_=>none
 |r+1,p,sd=>if pk ws p="not"then dS "not" (z0u nb nf ws ks r (p+1) sd)
  else if pk ws p="("then jW ws (z0u nb nf ws ks r) p sd
  else fW nb nf ws ks p sd
def z1f (nb:Str->Bool)(nf:Str->Option Int)(ws:List Str)(ks:List (Str×Str)):Nat->Nat->List D->Ro
 |0,_,_=>none
 |r+1,p,sd=>if pk ws p="("then jW ws (z1f nb nf ws ks r) p sd
  else if pk ws p="not"then dS "not" (z1f nb nf ws ks r (p+1) sd)
  else if pk ws p="some"\/pk ws p="all"then dS (pk ws p) (z0u nb nf ws ks r (p+1) sd)
  else none
def RdOk (K:W.Frag)(CR:Addr)(mg:Str->Option Value)(x dx wl kd sl:Addr)(n:Int)(ws:List Str)(ks:List (Str×Str))(H:Hp)(Q:VK)(E:XK):Ro->Prop
 |some (d,p',yr)=>∀H' v,Fr x sl H H'->Rg K CR H' x dx wl kd sl n ws ks p' yr->Rep K H' aJ v d->imm d=true->Q v H'
 |none=>iK mg "NoRow" "row" (.int n) x sl H E
def spR (K:W.Frag)(CR:Addr)(mg:Str->Option Value)(r:Nat)(f:List Str->List (Str×Str)->Nat->List D->Ro):Sp:=λvs H Q E=>∃x dx wl kd sl n ws ks p sd,vs=[.ref x,.int r]/\Rg K CR H x dx wl kd sl n ws ks p sd/\RdOk K CR mg x dx wl kd sl n ws ks H Q E (f ws ks p sd)
def jK (K:W.Frag)(CR:Addr)(mg:Str->Option Value)(fa:Addr)(r:Nat)(f:List Str->List (Str×Str)->Nat->List D->Ro):Sp:=λvs H Q E=>∃x dx wl kd sl n ws ks p sd,vs=[.ref x,.ref fa,.int r]/\Rg K CR H x dx wl kd sl n ws ks p sd/\RdOk K CR mg x dx wl kd sl n ws ks H Q E (jW ws (f ws ks) p sd)
def spBd (K:W.Frag)(CR:Addr)(mg:Str->Option Value)(nf:Str->Option Int):Sp:=λvs H Q E=>∃x dx wl kd sl n ws ks p sd nm,vs=[.ref x,.str nm]/\Rg K CR H x dx wl kd sl n ws ks p sd/\PyData.strOk nm=true/\RdOk K CR mg x dx wl kd sl n ws ks H Q E (kZ nf ws nm p sd)
section
variable {Z:Wc}{H:Hp}{σ:L2.St}{CR x dx wl kd sl:Addr}{n:Int}{ws:List Str}{ks:List (Str×Str)}{p:Nat}{sd:List D}
theorem RdOk.up {K:W.Frag}(q:RdOk K CR mg x dx wl kd sl n ws ks H Q E o)(fr:Fr x sl H e)(r:Rg K CR e x dx wl kd sl n ws ks d a):RdOk K CR mg x dx wl kd sl n ws ks e Q E o:=by
 cases o with
 |none=>exact r.gK q fr
 |some z=>exact λf v f2 b c im=>q f v (fr.trans f2) b c im
theorem z4v (b:Z.me[2]?=some (CR,("take_word":Str),spTW Z.K CR Z.mg))(r:Rg Z.K CR H x dx wl kd sl n ws ks p sd)(h0:σ[0]?=some (some (.ref x)))(c:PyData.strOk w=true)
  (q:if pk ws p=w then ∀H',Fr x sl H H'->Rg Z.K CR H' x dx wl kd sl n ws ks (p+1) sd->Q .non H' else iK Z.mg "NoRow" "row" (.int n) x sl H Z.E):wE Z (.eY (.raw 0) 2 (.cons (.aZ (.str w)) .nil)) σ H Q:=by
 rw[tS b];refine⟨.ref x,h0,x,dx,_,rfl,r.rw.ins,rfl,_,F0 H,_,fU,rfl,λv H1 s1 a=>?_⟩;obtain⟨rfl,_⟩:=a;have a:=r.same s1;refine⟨x,dx,wl,kd,sl,n,ws,p,w,rfl,a.rw,c,?_⟩;by_cases h:pk ws p=w
 ·rw[qe h]at q ⊢;exact λH' k e=>q H' ((Fr.of_same s1).trans (Fr.fV k)) (a.move k e (gc p))
 ·rw[qf h]at q ⊢;exact vO (a.gK q (Fr.of_same s1))
theorem G5 (p:σ[i]?=some (some (.str a)))(e:PyData.strOk a=true)(q:∀o,Same H o->Q (!decide (a=c\/a=d)) o):wT Z (.tc .NotIn (.raw i) (.aZ (.tup (.cons (.str c) (.cons (.str d) .nil))))) σ H Q:=by
 refine⟨.str a,p,_,F0 H,_,fU,rfl,λv r s1 h=>?_⟩;refine⟨aJ,_,.str a,.tuple [.str c,.str d],.bool (!decide (a=c\/a=d)),⟨rfl,e⟩,h,?_,λw j k l=>?_⟩
 ·show((Res.ok (cC (.str c) (.str a)||(cC (.str d) (.str a)||false))>>=λb=>Res.ok (!b))>>=λb=>Res.ok (PyData.bool b))=_;rw[jU,jU]
  have:(decide (c=a)||(decide (d=a)||false))=decide (a=c\/a=d):=by
   by_cases f:a=c
   ·subst f;simp
   ·by_cases g:a=d
    ·subst g;simp
    ·have m:c≠a:=λz=>f z.symm;have n:d≠a:=λz=>g z.symm;simp[f,g,m,n]
  rw[this];rfl
 ·cases l;exact⟨_,rfl,q j (s1.trans k)⟩
theorem zex (hf:Z.hf[0]?=some (c,spR Z.K CR Z.mg r f))(g:Rg Z.K CR H x dx wl kd sl n ws ks p sd)(h0:σ[0]?=some (some (.ref x)))(a:σ[1]?=some (some (.ref c)))(b:σ[2]?=some (some (.int r)))
  (q:RdOk Z.K CR Z.mg x dx wl kd sl n ws ks H Q Z.E (f ws ks p sd)):wE Z (.qN 1 0 (.cons (.raw 0) (.cons (.raw 2) .nil))) σ H Q:=by
 have e:wE Z (.qN 1 0 (.cons (.raw 0) (.cons (.raw 2) .nil)))=λσ H Q=>σ[1]?=some (some (V.ref c))/\jP (spR Z.K CR Z.mg r f) [] Z.E (wA Z (.cons (.raw 0) (.cons (.raw 2) .nil))) σ H Q:=by show(match Z.hf[0]? with|some r=>(λσ H Q=>σ[1]?=some (some (V.ref r.1))/\jP r.2 [] Z.E (wA Z (.cons (.raw 0) (.cons (.raw 2) .nil))) σ H Q:TE)|none=>eE)=_;rw[hf]
 rw[e];exact⟨a,.ref x,h0,.int r,b,x,dx,wl,kd,sl,n,ws,ks,p,sd,rfl,g,q⟩
theorem zgu (U:RowK Z.K CR)(m1:Z.me[1]?=some (CR,("take":Str),z1b Z.K CR))(O:Z.me[2]?=some (CR,("take_word":Str),spTW Z.K CR Z.mg))(hf:Z.hf[0]?=some (fa,spR Z.K CR Z.mg r f))(g:Rg Z.K CR H x dx wl kd sl n ws ks p sd)
  (q:RdOk Z.K CR Z.mg x dx wl kd sl n ws ks H m.rt Z.E (jW ws (f ws ks) p sd)):wS Z Rd.fH m [some (.ref x),some (.ref fa),some (.int r),none,none,none] H:=by
 refine z4v O g rfl (by decide+kernel) ?_;by_cases h:¬(pk ws p="(")
 ·unfold jW at q;rw[qf h]at q ⊢;exact q
 have h:=qi h;unfold jW at q;rw[qe h]at q ⊢;intro H1 f1 P;refine zex hf P rfl rfl rfl ?_;cases Q:f ws ks (p+1) sd with
 |none=>rw[Q]at q;exact P.gK q f1
 |some z=>
 obtain⟨d,p1,s1⟩:=z;rw[Q]at q;intro H2 s f2 g2 B b;refine tT m1 g2 rfl λV k3 W=>?_;have C:Rep Z.K V aJ s d:=Rep.bW (λa o e fx=>k3 a o (by rintro rfl;rw[g2.rw.ins]at e;cases e;exact fx.elim) e) _ b B;have i:=(dR (p:=p1) g.rw.eB).1;refine G5 rfl i λX D=>?_;have j:=W.same D;have u:=((f1.trans f2).trans (Fr.fV k3)).trans (Fr.of_same D);by_cases c:¬(pk ws p1="and"\/pk ws p1="or")
 ·rw[ql c];have q:RdOk Z.K CR Z.mg x dx wl kd sl n ws ks H m.rt Z.E none:=by simpa only[qf c]using q
  exact bA (pS U j rfl u q)
 have c:=qi c;rw[qk c];refine aX ?_;refine zex hf j rfl rfl rfl ?_
 have q:RdOk Z.K CR Z.mg x dx wl kd sl n ws ks H m.rt Z.E (match f ws ks (p1+1) s1 with
  |none=>none
  |some (v,p2,F)=>if pk ws p2=")"then some (.tuple [.str (pk ws p1),d,v],p2+1,F)else none):=by simpa only[qe c]using q
 cases R:f ws ks (p1+1) s1 with
 |none=>rw[R]at q;exact j.gK q u
 |some z=>
 obtain⟨v,p2,F⟩:=z;rw[R]at q;have q:RdOk Z.K CR Z.mg x dx wl kd sl n ws ks H m.rt Z.E (if pk ws p2=")"then some (.tuple [.str (pk ws p1),d,v],p2+1,F)else none):=q;intro G S I w J k
 have L:∀a o,X a=some o->Fix o->G a=some o:=λa o e fx=>I a o (by rintro rfl;rw[j.rw.ins]at e;cases e;exact fx.elim) (by
  obtain⟨vs,hs,_⟩:=j.sq
  rintro rfl;rw[hs]at e;cases e;exact fx.elim) e
 have M:Rep Z.K G aJ s d:=Rep.bW L _ b (C.same D λ_ h=>h);refine z4v O w rfl (by decide+kernel) ?_;by_cases y:¬(pk ws p2=")")
 ·rw[qf y]at q ⊢;exact w.gK q (u.trans I)
 have y:=qi y;rw[qe y]at q ⊢;intro N T Y
 have l:∀a o,G a=some o->Fix o->N a=some o:=λa o e fx=>T a o (by rintro rfl;rw[w.rw.ins]at e;cases e;exact fx.elim) (by
  obtain⟨vs,hs,_⟩:=w.sq
  rintro rfl;rw[hs]at e;cases e;exact fx.elim) e
 refine⟨.str (pk ws p1),rfl,s,rfl,S,rfl,(show 3<=av by rw[cb];decide),λt ht=>?_⟩;have A:Same N (upd N t (.tup [.str (pk ws p1),s,S])):=Same.upd ht;refine q _ _ (((u.trans I).trans T).trans (Fr.of_same A)) (Y.same A) ⟨t,_,rfl,.inl (.inl bG),⟨_,_,rfl,⟨rfl,i⟩,_,_,rfl,(Rep.bW l _ b M).same A (λ_ h=>h),_,_,rfl,(Rep.bW l _ k J).same A (λ_ h=>h),rfl⟩⟩ ?_;show(true&&(imm d&&(imm v&&true)))=true;rw[b,k];rfl
end
def optD:Option Int->D
 |some k=>.int k
 |none=>.none
def NfSp (Z:Wc)(j:Nat)(nf:Str->Option Int):Prop:=∃m,Z.fn[j]?=some (spD Z.K 1 m)/\∀s,okS s->m [.str s]=.ok (.fr,optD (nf s))
section
variable {Z:Wc}{H:Hp}{σ:L2.St}{CR x dx wl kd sl:Addr}{n:Int}{ws:List Str}{ks:List (Str×Str)}{p:Nat}{sd:List D}{nf:Str->Option Int}
theorem Qp (k:Int):dY Κ Φ (.or (.tv (.mI false (.var 2))) (.not (.tv (.chain .LtE .LtE (.int 1) (.var 2) (.bin .Pow (.int 10) (.int 30)))))) [none,none,some (.od,.int k)]=.ok (!(decide (1<=k)&&decide (k<=10 ^ 30))):=by
 show(((Res.ok (decide (1<=k))>>=λc=>if c=true then aG Κ Φ (.bin .Pow (.int 10) (.int 30)) [none,none,some (.od,.int k)]>>=λz=>cmpD .LtE (.int k) z.2>>=λa=>Res.ok (G.fr,PyData.bool a)else Res.ok (G.fr,PyData.bool false))>>=λx=>gD x.2)>>=λc=>Res.ok (!c))=_;by_cases h:1<=k
 ·rw[qk h];rfl
 ·rw[ql h];rfl
theorem zrk (c:RowK Z.K CR)(m1:Z.me[1]?=some (CR,("take":Str),z1b Z.K CR))(t:Z.me[2]?=some (CR,("take_word":Str),spTW Z.K CR Z.mg))(hn:NfSp Z 0 nf)(u:nf ""=none)(g:Rg Z.K CR H x dx wl kd sl n ws ks p sd)(d:PyData.strOk nm=true)
  (q:RdOk Z.K CR Z.mg x dx wl kd sl n ws ks H f.rt Z.E (kZ nf ws nm p sd)):wS Z Rd.readBound f [some (.ref x),some (.str nm),none] H:=by
 refine z4v t g rfl (by decide+kernel) ?_;unfold kZ at q;by_cases h:¬(pk ws p=">=")
 ·rw[qf h]at q ⊢;exact q
 have h:=qi h;rw[qe h]at q ⊢;intro I f1 w;obtain⟨m,hm,hn⟩:=hn;show wE Z (.bZ 0 (.cons Rd.TK .nil)) [some (.ref x),some (.str nm),none] I _;rw[kW hm];refine tT m1 w rfl λF J g2=>?_;have ok:=dR (p:=p+1) g.rw.eB;have f2:=f1.trans (Fr.fV J);refine⟨aJ,[.str (pk ws (p+1))],(.fr,optD (nf (pk ws (p+1)))),rfl,⟨_,_,rfl,⟨rfl,ok.1⟩,rfl⟩,hn _ ok,λv j l b=>?_⟩;have o:=g2.same l;have f3:=f2.trans (Fr.of_same l);cases hf:nf (pk ws (p+1))with
 |none=>
  rw[hf]at q b;subst b;refine⟨[none,none,some (.od,.none)],F0 j,true,jT rfl λi g y e=>?_,rfl,λz a=>?_⟩
  ·rcases i with _|_|_|i<;>cases e;exact⟨rfl,_,aJ,rfl,rfl⟩
  exact bA (pS c (o.same a) rfl (f3.trans (Fr.of_same a)) q)
 |some k=>
  rw[hf]at q b;subst b;have q:RdOk Z.K CR Z.mg x dx wl kd sl n ws ks H f.rt Z.E (if 1<=k/\k<=10 ^ 30 then some (.int k,p+2,sd++[cR nm (.tuple [.str "fact"])])else none):=q;refine⟨[none,none,some (.od,.int k)],F0 j,!(decide (1<=k)&&decide (k<=10 ^ 30)),jT rfl λi g y e=>?_,?_,λz a=>?_⟩
  ·rcases i with _|_|_|i<;>cases e;exact⟨rfl,_,aJ,rfl,rfl⟩
  ·exact Qp k
  have r:=o.same a;have s:=f3.trans (Fr.of_same a);by_cases hk:¬(1<=k/\k<=10 ^ 30)
  ·rw[qf hk]at q;have:(!(decide (1<=k)&&decide (k<=10 ^ 30)))=true:=by rw[<-Bool.decide_and,ql hk];rfl
   rw[this];exact bA (pS c r rfl s q)
  have hk:=qi hk;rw[qe hk]at q;have:(!(decide (1<=k)&&decide (k<=10 ^ 30)))=false:=by rw[<-Bool.decide_and,qk hk];rfl
  rw[this];refine aX ?_
  have G:p+1<ws.length:=by
   cases pi (p+1) ws.length with
   |inl h=>exact h
   |inr h=>rw[Cm h,u]at hf;cases hf
  refine zby (e:=.aZ (.tup (.cons (.str "fact") .nil))) c r rfl rfl d ?_ ?_ rfl ⟨["fact"],rfl⟩ (λH Q q=>⟨_,F0 H,_,fU,rfl,λv I s1 A=>q v I s1 (Rep.weak (λ_ _=>trivial) A)⟩) λB C D=>?_
  ·have:=g.len;omega
  ·have:=g.nU;omega
  exact⟨.int k,rfl,q B _ (s.trans C) D rfl rfl⟩
theorem G6 {r:Nat}(a:σ[1]?=some (some (.int r)))(q:∀f,Same H f->Q (decide (r<1)) f):wT Z (.tc .Lt (.raw 1) (.aZ (.int 1))) σ H Q:=by
 refine⟨.int r,a,_,F0 H,_,fU,rfl,λv g s1 b=>?_⟩;cases b;refine⟨aJ,aJ,.int r,.int 1,.bool (decide (r<1)),rfl,rfl,?_,λw c d e=>?_⟩
 ·show Res.ok (PyData.bool (decide ((r:Int)<1)))=_
  have:decide ((r:Int)<1)=decide (r<1):=by
   by_cases h:r<1
   ·rw[qk h,qk (by omega)]
   ·rw[ql h,ql (by omega)]
  rw[this]
 ·cases e;exact⟨_,rfl,q c (s1.trans d)⟩
theorem G7 {r:Nat}(a:σ[1]?=some (some (.int (r+1:Nat))))(q:∀f,Same H f->Q (.int r) f):wE Z Rd.RM σ H Q:=by
 refine⟨_,a,_,F0 H,_,fU,rfl,λv g s1 b=>?_⟩;cases b;refine⟨aJ,aJ,.int (r+1:Nat),.int 1,.int r,rfl,rfl,?_,λw c d e _=>?_⟩
 ·show Res.ok (PyData.int (((r+1:Nat):Int)-1))=_;have:((r+1:Nat):Int)-1=r:=by omega
  rw[this]
 ·cases e;exact q c (s1.trans d)
theorem G8:cP (gI ks) (.inr nm)=(lkG ks nm).map V.str:=by
 unfold cP lkG gI
 induction ks with
 |nil=>rfl
 |cons y ks a=>
  rw[br,dg,dg];by_cases h:y.1=nm
  ·have :(Sum.inr y.1:Key)=.inr nm:=by rw[h]
   rw[qk h,qk this];rfl
  ·have :¬(Sum.inr y.1:Key)=.inr nm:=λz=>h (Sum.inr.inj z);rw[ql h,ql this];exact a
theorem G9 (h:∀y∈ks,PyData.strOk y.1=true/\PyData.strOk y.2=true)(e:lkG ks nm=some s):PyData.strOk s=true:=by obtain⟨y,a,rfl⟩:=cw.mp e;exact(h y (kr a)).2
theorem Qq (j:RowK Z.K CR)(r:Rg Z.K CR H x dx wl kd sl n ws ks p sd)(h0:σ[0]?=some (some (.ref x)))(hi:σ[i]?=some (some (.str nm)))(q:∀H',Same H H'->Q (decide (lkG ks nm=some s)) H'):wT Z (.tc .Eq (.get Rd.KD (.raw i)) (.aZ (.str s))) σ H Q:=by
 show wE Z Rd.KD σ H λx H1=>∃a,x=.ref a/\IsD H1 a/\(wE Z (.raw i)) σ H1 λy c=>∃o,DGet c a y o/\(wE Z (.aZ (.str s))) σ c λl m=>lP Z.K (mB (cmpD .Eq)) (o.getD .non) l m λx H'=>∃k,x=V.bl k/\Q k H';refine lU j r.rw h0 dc rfl ⟨kd,rfl,.inl ⟨_,.inl r.kk⟩,.str nm,hi,_,.inl ⟨_,.inr nm,.inl r.kk,rfl,rfl⟩,?_⟩;rw[G8];refine⟨_,F0 H,_,fU,rfl,λv H1 s1 g=>?_⟩;cases e:lkG ks nm with
 |none=>rw[e]at q;refine⟨aJ,_,.none,.str s,.bool false,rfl,g,rfl,λw c d f=>?_⟩;cases f;exact⟨_,rfl,q c (s1.trans d)⟩
 |some t=>
  rw[e]at q;refine⟨aJ,_,.str t,.str s,.bool (decide (t=s)),⟨rfl,G9 r.lV e⟩,g,?_,λw c d f=>?_⟩
  ·show(Res.ok (cC (.str t) (.str s))>>=λb=>Res.ok (PyData.bool b))=_;rw[jU];rfl
  cases f
  have:decide (some t=some s)=decide (t=s):=by
   by_cases h:t=s
   ·subst h;simp
   ·rw[ql h,ql (λz=>h (qg z))]
  rw[this]at q;exact⟨_,rfl,q c (s1.trans d)⟩
theorem zlo (oks:PyData.strOk s=true)(hs:∀(H:Hp) (Q:VK),(∀o,Same H o->Q (.str s) o)->wE Z u σ H Q)(r:Rg Z.K CR H x dx wl kd sl n ws ks p sd)
  (c:∀(o:Hp) (Q:VK),Same H o->RdOk Z.K CR Z.mg x dx wl kd sl n ws ks o Q Z.E f->wE Z e σ o Q)
  (q:RdOk Z.K CR Z.mg x dx wl kd sl n ws ks H g.rt Z.E (dS s f)):wS Z (.seq (.ret (.tup (.cons u (.cons e .nil)))) .nil) g σ H:=by
 refine hs H _ λw s1=>c w _ s1 ?_;cases f with
 |none=>exact(r.same s1).gK q (Fr.of_same s1)
 |some z=>obtain⟨d,m,i⟩:=z;intro b v f2 j k im;refine⟨(show 2<=av by rw[cb];decide),λt l=>?_⟩;have a:Same b (upd b t (.tup [.str s,v])):=Same.upd l;refine q _ _ (((Fr.of_same s1).trans f2).trans (Fr.of_same a)) (j.same a) ⟨t,_,rfl,.inl (.inl bG),⟨_,_,rfl,⟨rfl,oks⟩,_,_,rfl,k.same a (λ_ h=>h),rfl⟩⟩ ?_;show(true&&(imm d&&true))=true;rw[im];rfl
theorem qO (H:Hp)(Q:VK)(q:∀b,Same H b->Q (.str s) b):wE Z (.aZ (.str s)) σ H Q:=⟨_,F0 H,_,fU,rfl,λv c s1 a=>by obtain⟨rfl,_⟩:=a;exact q c s1⟩
theorem Co (a:Z.fn[j]?=some (spR Z.K CR Z.mg r f))(g:Rg Z.K CR H x dx wl kd sl n ws ks p sd)(h0:σ[0]?=some (some (.ref x)))(b:σ[1]?=some (some (.int (r+1:Nat))))(q:RdOk Z.K CR Z.mg x dx wl kd sl n ws ks H Q Z.E (f ws ks p sd)):wE Z (.bZ j (.cons (.raw 0) (.cons Rd.RM .nil))) σ H Q:=by rw[kW a];exact⟨.ref x,h0,G7 b λc s1=>⟨x,dx,wl,kd,sl,n,ws,ks,p,sd,rfl,g.same s1,q.up (Fr.of_same s1) (g.same s1)⟩⟩
theorem G' (a:Z.fn[1]?=some (jK Z.K CR Z.mg e r f))(hf:Z.hf[0]?=some (e,i))(g:Rg Z.K CR H x dx wl kd sl n ws ks p sd)(h0:σ[0]?=some (some (.ref x)))(b:σ[1]?=some (some (.int (r+1:Nat))))(q:RdOk Z.K CR Z.mg x dx wl kd sl n ws ks H Q Z.E (jW ws (f ws ks) p sd)):wE Z (.bZ 1 (.cons (.raw 0) (.cons (.gf 0) (.cons Rd.RM .nil)))) σ H Q:=by
 rw[kW a];refine⟨.ref x,h0,?_⟩;have c:wE Z (.gf 0)=λ_ H Q=>Q (V.ref e) H:=by show(match Z.hf[0]? with|some r=>(λ_ H Q=>Q (V.ref r.1) H:TE)|none=>eE)=_;rw[hf]
 show wE Z (.gf 0) σ H λy h=>wE Z Rd.RM σ h λz d=>jK Z.K CR Z.mg e r f [.ref x,y,z] d Q Z.E;rw[c];exact G7 b λh s1=>⟨x,dx,wl,kd,sl,n,ws,ks,p,sd,rfl,g.same s1,q.up (Fr.of_same s1) (g.same s1)⟩
end
section
variable {Z:Wc}{H:Hp}{CR x dx wl kd sl:Addr}{n:Int}{ws:List Str}{ks:List (Str×Str)}{p:Nat}{sd:List D}{nb:Str->Bool}{nf:Str->Option Int}
theorem zrc (y:RowK Z.K CR)(m0:Z.me[0]?=some (CR,("peek":Str),z1g Z.K CR))(m3:Z.me[3]?=some (CR,("take_name":Str),spTN Z.K CR Z.mg nb))(f2:Z.fn[2]?=some (spBd Z.K CR Z.mg nf))(hk:OfK Z)(J:nb ""=false)(g:Rg Z.K CR H x dx wl kd sl n ws ks p sd)
  (q:RdOk Z.K CR Z.mg x dx wl kd sl n ws ks H L.rt Z.E (fW nb nf ws ks p sd)):wS Z Rd.jV L [some (.ref x),M,U] H:=by
 refine zqy m3 g.rw rfl ?_;unfold fW at q;by_cases e:¬(nb (pk ws p)=true)
 ·rw[qf e]at q ⊢;exact vO q
 have e:=qi e;rw[qe e]at q ⊢;intro Y X N;have A:=g.move X N (gc p);have u:Fr x sl H Y:=Fr.fV X;have a:=(dR (p:=p) g.rw.eB).1
 have w:p<ws.length:=by
  cases pi p ws.length with
  |inl h=>exact h
  |inr h=>rw[Cm h,J]at e;cases e
 refine yq m0 A rfl λO B=>?_;have g2:=A.same B;have f:=u.trans (Fr.of_same B);by_cases r:pk ws (p+1)=">="
 ·rw[qe r]at q;rw[qk r];refine bA ?_;refine qO O _ λC D=>?_;refine⟨.str (pk ws p),rfl,?_⟩;show wE Z (.bZ 2 (.cons (.raw 0) (.cons (.raw 2) .nil))) [some (.ref x),M,some (.str (pk ws p))] C _;rw[kW f2];have i:=g2.same D;have b:=f.trans (Fr.of_same D);refine⟨.ref x,rfl,.str (pk ws p),rfl,x,dx,wl,kd,sl,n,ws,ks,p+1,sd,pk ws p,rfl,i,a,?_⟩;cases F:kZ nf ws (pk ws p) (p+1) sd with
  |none=>rw[F]at q;exact i.gK q b
  |some z=>obtain⟨d,V,P⟩:=z;rw[F]at q;intro j v Q s R im;refine⟨(show 3<=av by rw[cb];decide),λt k=>?_⟩;have c:Same j (upd j t (.tup [.str "at",.str (pk ws p),v])):=Same.upd k;refine q _ _ ((b.trans Q).trans (Fr.of_same c)) (s.same c) ⟨t,_,rfl,.inl (.inl bG),⟨_,_,rfl,⟨rfl,by decide+kernel⟩,_,_,rfl,⟨rfl,a⟩,_,_,rfl,R.same c (λ_ h=>h),rfl⟩⟩ ?_;show(true&&(true&&(imm d&&true)))=true;rw[im];rfl
 ·rw[qf r]at q;rw[ql r];refine aX ?_;refine zby y g2 rfl rfl a (Nat.lt_succ_of_le g.len) (bp w g.nU) rfl ⟨["fact","open","word"],rfl⟩ (z82 hk) λC f3 i=>?_;have b:=f.trans f3;refine Qq y i rfl rfl λj G=>?_;have s:=i.same G;have l:=b.trans (Fr.of_same G);by_cases hf:lkG ks (pk ws p)=some ("fact":Str)
  ·rw[qe hf]at q;rw[qk hf];refine bA ?_;refine qO j _ λI c=>⟨.str (pk ws p),rfl,_,F0 I,_,fU,rfl,λv W S T=>?_⟩;cases T;refine⟨(show 3<=av by rw[cb];decide),λt k=>?_⟩;have m:=(c.trans S).trans (Same.upd (o:=.tup [.str "at",.str (pk ws p),.int 1]) k);exact q _ _ (l.trans (Fr.of_same m)) (s.same m) ⟨t,_,rfl,.inl (.inl bG),⟨_,_,rfl,⟨rfl,by decide+kernel⟩,_,_,rfl,⟨rfl,a⟩,_,_,rfl,rfl,rfl⟩⟩ rfl
  ·rw[qf hf]at q;rw[ql hf];refine aX ?_;refine qO j _ λI c=>⟨.str (pk ws p),rfl,?_⟩;refine⟨(show 2<=av by rw[cb];decide),λt k=>?_⟩;have m:=c.trans (Same.upd (o:=.tup [.str "is",.str (pk ws p)]) k);exact q _ _ (l.trans (Fr.of_same m)) (s.same m) ⟨t,_,rfl,.inl (.inl bG),⟨_,_,rfl,⟨rfl,by decide+kernel⟩,_,_,rfl,⟨rfl,a⟩,rfl⟩⟩ rfl
structure SayZ (Z:Wc)(CR:Addr)(nb:Str->Bool)(nf:Str->Option Int)(r:Nat):Prop where
 m0:Z.me[0]?=some (CR,("peek":Str),z1g Z.K CR)
 m1:Z.me[1]?=some (CR,("take":Str),z1b Z.K CR)
 m3:Z.me[3]?=some (CR,("take_name":Str),spTN Z.K CR Z.mg nb)
 f2:Z.fn[2]?=some (spBd Z.K CR Z.mg nf)
 hk:OfK Z
 dn:∀r',r=r'+1->Z.fn[0]?=some (spR Z.K CR Z.mg r' λws ks=>z0u nb nf ws ks r')/\∃fa sp,Z.hf[0]?=some (fa,sp)/\Z.fn[1]?=some (jK Z.K CR Z.mg fa r' λws ks=>z0u nb nf ws ks r')
theorem zkc (c:RowK Z.K CR)(z:SayZ Z CR nb nf r)(i:nb ""=false)(g:Rg Z.K CR H x dx wl kd sl n ws ks p sd)
  (q:RdOk Z.K CR Z.mg x dx wl kd sl n ws ks H d.rt Z.E (z0u nb nf ws ks r p sd)):wS Z Rd.fF d [some (.ref x),some (.int r),none] H:=by
 refine G6 rfl λt s1=>?_;have b:=g.same s1;have f1:Fr x sl H t:=Fr.of_same s1;cases r with
 |zero=>exact bA (pS c b rfl f1 q)
 |succ r=>
  refine aX ?_;obtain⟨j,v,w,k,l⟩:=z.dn r rfl;have q:RdOk Z.K CR Z.mg x dx wl kd sl n ws ks H d.rt Z.E (if pk ws p="not"then dS "not" (z0u nb nf ws ks r (p+1) sd)else if pk ws p="("then jW ws (z0u nb nf ws ks r) p sd else fW nb nf ws ks p sd):=q;refine yq z.m0 b rfl λo e=>?_;have g2:=b.same e;have f2:=f1.trans (Fr.of_same e);by_cases h:pk ws p="not"
  ·rw[qe h]at q;rw[qk h];refine bA ?_;refine tT z.m1 g2 rfl λm u a=>?_;have f3:=f2.trans (Fr.fV u);exact zlo (by decide+kernel) qO a (λy Q s q=>Co j (a.same s) rfl rfl q) (q.up f3 a)
  rw[qf h]at q;rw[ql h];refine aX ?_;refine yq z.m0 g2 rfl λm f=>?_;have a:=g2.same f;have f3:=f2.trans (Fr.of_same f);by_cases h:pk ws p="("
  ·rw[qe h]at q;rw[qk h];exact bA (G' l k a rfl rfl (q.up f3 a))
  rw[qf h]at q;rw[ql h];exact aX (zrc c z.m0 z.m3 z.f2 z.hk i a (q.up f3 a))
structure AskZ (Z:Wc)(CR:Addr)(nb:Str->Bool)(nf:Str->Option Int)(r:Nat):Prop where
 m0:Z.me[0]?=some (CR,("peek":Str),z1g Z.K CR)
 m1:Z.me[1]?=some (CR,("take":Str),z1b Z.K CR)
 dn:∀r',r=r'+1->Z.fn[0]?=some (spR Z.K CR Z.mg r' λws ks=>z1f nb nf ws ks r')/\(∃fa sp,Z.hf[0]?=some (fa,sp)/\Z.fn[1]?=some (jK Z.K CR Z.mg fa r' λws ks=>z1f nb nf ws ks r'))/\Z.fn[2]?=some (spR Z.K CR Z.mg r' λws ks=>z0u nb nf ws ks r')
theorem zli (e:RowK Z.K CR)(z:AskZ Z CR nb nf r)(g:Rg Z.K CR H x dx wl kd sl n ws ks p sd)
  (q:RdOk Z.K CR Z.mg x dx wl kd sl n ws ks H f.rt Z.E (z1f nb nf ws ks r p sd)):wS Z Rd.fG f [some (.ref x),some (.int r),none] H:=by
 refine G6 rfl λD s1=>?_;have d:=g.same s1;have f1:Fr x sl H D:=Fr.of_same s1;cases r with
 |zero=>exact bA (pS e d rfl f1 q)
 |succ r=>
  refine aX ?_;obtain⟨o,⟨I,J,t,u⟩,v⟩:=z.dn r rfl;have q:RdOk Z.K CR Z.mg x dx wl kd sl n ws ks H f.rt Z.E (if pk ws p="("then jW ws (z1f nb nf ws ks r) p sd else if pk ws p="not"then dS "not" (z1f nb nf ws ks r (p+1) sd)else if pk ws p="some"\/pk ws p="all"then dS (pk ws p) (z0u nb nf ws ks r (p+1) sd)else none):=q;refine yq z.m0 d rfl λy i=>?_;have g2:=d.same i;have f2:=f1.trans (Fr.of_same i);by_cases h:pk ws p="("
  ·rw[qe h]at q;rw[qk h];exact bA (G' u t g2 rfl rfl (q.up f2 g2))
  rw[qf h]at q;rw[ql h];refine aX ?_;refine tT z.m1 g2 rfl λA F w=>?_;have f3:=f2.trans (Fr.fV F);have a:=(dR (p:=p) g.rw.eB).1;refine vM rfl a λB j=>?_;have b:=w.same j;have k:=f3.trans (Fr.of_same j);by_cases h:pk ws p="not"
  ·rw[qe h]at q;rw[qk h];exact bA (zlo (by decide+kernel) qO b (λG Q s q=>Co o (b.same s) rfl rfl q) (q.up k b))
  rw[qf h]at q;rw[ql h];refine aX ?_;refine G5 rfl a λC l=>?_;have c:=b.same l;have m:=k.trans (Fr.of_same l);by_cases h:¬(pk ws p="some"\/pk ws p="all")
  ·rw[qf h]at q;rw[ql h];exact bA (pS e c rfl m q)
  have h:=qi h;rw[qe h]at q;rw[qk h];exact aX (zlo a (λH Q q=>⟨_,rfl,q H (Same.refl H)⟩) c (λG Q s q=>Co v (c.same s) rfl rfl q) (q.up m c))
end
def dJ (nb:Str->Bool)(ws:List Str)(p:Nat):Bool:=nb (pk ws p)&&decide (pk ws (p+1)="if")
def cntO (ks:List (Str×Str)):Nat:=(ks.map (·.2)).countP (· ==("open":Str))
def hG (nb:Str->Bool)(ws:List Str)(ks:List (Str×Str))(p:Nat)(sd:List D):Ro:=
 if cntO ks=4 then none
 else if nb (pk ws p)=true then
  (if pk ws (p+1)="for"then match z1c nb ws (p+2) sd with
   |none=>none
   |some (n1,p1,s1)=>if pk ws p1="against"then match z1c nb ws (p1+1) s1 with
     |none=>none
     |some (n2,p2,s2)=>some (.tuple [.str "open",.str (pk ws p),.tuple (n1.map .str),.tuple (n2.map .str)],p2,s2)
    else none
  else none)
 else none
def cI (nb:Str->Bool)(nf:Str->Option Int)(ws:List Str)(ks:List (Str×Str))(sd:List D):Ro:=
 if pk ws 0="fact"then(if nb (pk ws 1)=true then some (.tuple [.str "fact",.str (pk ws 1)],2,sd)else none)
 else if pk ws 0="open"then hG nb ws ks 1 sd
 else if pk ws 0="word"then(if dJ nb ws 1=true then jJ "word" (pk ws 1) (z0u nb nf ws ks 8 3 sd)else none)
 else if pk ws 0="claim"then(if dJ nb ws 1=true then jJ "claim" (pk ws 1) (z1f nb nf ws ks 8 3 sd)else none)
 else none
def bU (nb:Str->Bool)(nf:Str->Option Int)(ws:List Str)(ks:List (Str×Str))(sd:List D):Ro:=
 match cI nb nf ws ks sd with
 |none=>none
 |some (d,p,s)=>if p<ws.length then none else some (d,p,s)
def spHg (K:W.Frag)(CR:Addr)(mg:Str->Option Value)(nb:Str->Bool):Sp:=λvs H Q E=>∃x dx wl kd sl n ws ks p sd,vs=[.ref x]/\Rg K CR H x dx wl kd sl n ws ks p sd/\if dJ nb ws p=true then ∀H',Fr x sl H H'->Rg K CR H' x dx wl kd sl n ws ks (p+2) sd->Q (.str (pk ws p)) H' else iK mg "NoRow" "row" (.int n) x sl H E
def spOg (K:W.Frag)(CR:Addr)(mg:Str->Option Value)(nb:Str->Bool):Sp:=λvs H Q E=>∃x dx wl kd sl n ws ks p sd,vs=[.ref x]/\Rg K CR H x dx wl kd sl n ws ks p sd/\nb ""=false/\RdOk K CR mg x dx wl kd sl n ws ks H Q E (hG nb ws ks p sd)
def spRg (K:W.Frag)(CR:Addr)(mg:Str->Option Value)(nb:Str->Bool)(nf:Str->Option Int):Sp:=λvs H Q E=>∃x dx wl kd sl n ws ks sd,vs=[.ref x]/\Rg K CR H x dx wl kd sl n ws ks 0 sd/\nb ""=false/\RdOk K CR mg x dx wl kd sl n ws ks H Q E (bU nb nf ws ks sd)
section
variable {Z:Wc}{H:Hp}{σ:L2.St}{CR x dx wl kd sl:Addr}{n:Int}{ws:List Str}{ks:List (Str×Str)}{p:Nat}{sd:List D}{nb:Str->Bool}
theorem zd7 (m3:Z.me[3]?=some (CR,("take_name":Str),spTN Z.K CR Z.mg nb))(g:Rg Z.K CR H x dx wl kd sl n ws ks p sd)(h0:σ[0]?=some (some (.ref x)))
  (q:if nb (pk ws p)=true then ∀H',Fr x sl H H'->Rg Z.K CR H' x dx wl kd sl n ws ks (p+1) sd->Q (.str (pk ws p)) H' else iK Z.mg "NoRow" "row" (.int n) x sl H Z.E):wE Z Rd.TN σ H Q:=by
 refine zqy m3 g.rw h0 ?_;by_cases h:nb (pk ws p)=true
 ·rw[qe h]at q ⊢;exact λH' k e=>q H' (Fr.fV k) (g.move k e (gc p))
 ·rw[qf h]at q ⊢;exact vO q
theorem zo5 (c:Z.me[2]?=some (CR,("take_word":Str),spTW Z.K CR Z.mg))(m3:Z.me[3]?=some (CR,("take_name":Str),spTN Z.K CR Z.mg nb))(g:Rg Z.K CR H x dx wl kd sl n ws ks p sd)
  (q:if dJ nb ws p=true then ∀i,Fr x sl H i->Rg Z.K CR i x dx wl kd sl n ws ks (p+2) sd->d.rt (.str (pk ws p)) i else iK Z.mg "NoRow" "row" (.int n) x sl H Z.E):wS Z Rd.iJ d [some (.ref x),none] H:=by
 refine zd7 m3 g rfl ?_;unfold dJ at q;by_cases h:¬(nb (pk ws p)=true)
 ·rw[qf h];have:nb (pk ws p)=false:=by cases e:nb (pk ws p)<;>first|rfl|exact absurd e h
  rw[this]at q;exact q
 have h:=qi h;rw[qe h];intro j f1 b;rw[h]at q;refine z4v c b rfl (by decide+kernel) ?_;by_cases a:pk ws (p+1)="if"
 ·rw[qe a];rw[qk a]at q;exact λf f2 g2=>⟨_,rfl,q f (f1.trans f2) g2⟩
 ·rw[qf a];rw[ql a]at q;exact b.gK q f1
theorem Qr (i:RowK Z.K CR)(g:Rg Z.K CR H x dx wl kd sl n ws ks p sd)(h0:σ[0]?=some (some (.ref x)))(q:∀r,Same H r->Q (.int (cntO ks)) r):wE Z (.cnt (.lv Rd.KD) (.aZ (.str "open"))) σ H Q:=by
 show wE Z Rd.KD σ H λx s=>tyV Z.K "dict" x s/\yd x [] s λv b=>ye [v] b λl f=>tyV Z.K "list" l f/\(mD (wE Z (.aZ (.str "open"))) eO) σ f λj k=>pK l j k Q;refine lU i g.rw h0 dc rfl ⟨.inr (.inr (.inl ⟨rfl,.inl ⟨_,g.kk⟩⟩)),kd,_,rfl,rfl,g.kk,λv c=>?_⟩;have d:kd≠v:=by rintro rfl;rw[g.kk]at c;cases c
 refine⟨v,kd,_,rfl,bG,by rw[aH d];exact g.kk,λl m=>?_⟩;have s1:Same H (upd (upd H v (vw v kd)) l (.lst ((gI ks).map (·.2)))):=(Same.upd c).trans (Same.upd m);refine⟨.inl ⟨rfl,_,.inl (.inl bG)⟩,_,F0 _,_,fU,rfl,λw b h o=>?_⟩;obtain⟨rfl,_⟩:=o;have a:=h _ _ bG;have e:(gI ks).map (·.2)=(ks.map (·.2)).map V.str:=by unfold gI;rw[dv,dv];rfl
 rw[e]at a;exact⟨l,rfl,.inl ⟨_,"open",rfl,a,q b (s1.trans h)⟩⟩
theorem zq8 (G:RowK Z.K CR)(V:Z.gi[1]?=some 4)(I:Z.me[2]?=some (CR,("take_word":Str),spTW Z.K CR Z.mg))(m3:Z.me[3]?=some (CR,("take_name":Str),spTN Z.K CR Z.mg nb))(f0:Z.fn[0]?=some (spNs Z.K CR Z.mg nb))(J:nb ""=false)(g:Rg Z.K CR H x dx wl kd sl n ws ks p sd)
  (q:RdOk Z.K CR Z.mg x dx wl kd sl n ws ks H L.rt Z.E (hG nb ws ks p sd)):wS Z Rd.readOpen L [some (.ref x),none,none] H:=by
 refine Qr G g rfl λH2 e=>?_;have W:wE Z (.gi 1)=λ_ H Q=>Q (.int 4) H:=by show(match Z.gi[1]? with|some n=>(λ_ H Q=>Q (.int n) H:TE)|none=>eE)=_;rw[V]
 rw[W];refine⟨aJ,aJ,.int (cntO ks),.int 4,.bool (decide (cntO ks=4)),rfl,rfl,?_,λw X Y r3=>?_⟩
 ·show(Res.ok (cC (.int (cntO ks)) (.int 4))>>=λb=>Res.ok (PyData.bool b))=_;rw[yo]
  have:decide ((cntO ks:Int)=4)=decide (cntO ks=4):=by
   by_cases h:cntO ks=4
   ·rw[qk h,qk (by omega)]
   ·rw[ql h,ql (by omega)]
  rw[this];rfl
 cases r3;refine⟨_,rfl,?_⟩;have c:=e.trans Y;have u:=g.same c;have f3:Fr x sl H X:=Fr.of_same c;unfold hG at q;by_cases h:cntO ks=4
 ·rw[qe h]at q;rw[qk h];exact bA (pS G u rfl f3 q)
 rw[qf h]at q;rw[ql h];refine aX ?_;refine zd7 m3 u rfl ?_;by_cases f:¬(nb (pk ws p)=true)
 ·rw[qf f]at q ⊢;exact u.gK q f3
 have f:=qi f;rw[qe f]at q ⊢;intro H4 i M;have i:=f3.trans i;have v:=(dR (p:=p) g.rw.eB).1;refine z4v I M rfl (by decide+kernel) ?_;by_cases hf:¬(pk ws (p+1)="for")
 ·rw[qf hf]at q ⊢;exact M.gK q i
 have hf:=qi hf;rw[qe hf]at q ⊢;intro H5 j N;have j:=i.trans j;show wE Z (.bZ 0 (.cons (.raw 0) .nil)) [some (.ref x),some (.str (pk ws p)),none] H5 _;rw[kW f0];refine⟨.ref x,rfl,x,dx,wl,kd,sl,n,ws,ks,p+2,sd,rfl,N,J,?_⟩;cases O:z1c nb ws (p+2) sd with
 |none=>rw[O]at q;exact N.gK q j
 |some z=>
 obtain⟨k,p1,s1⟩:=z;rw[O]at q;intro H6 l m y A;have m:=j.trans m;have a:=Ck k;refine z4v I y rfl (by decide+kernel) ?_
 have q:RdOk Z.K CR Z.mg x dx wl kd sl n ws ks H L.rt Z.E (if pk ws p1="against"then match z1c nb ws (p1+1) s1 with
   |none=>none
   |some (o,p2,e)=>some (.tuple [.str "open",.str (pk ws p),.tuple (k.map .str),.tuple (o.map .str)],p2,e)
  else none):=q
 by_cases r:¬(pk ws p1="against")
 ·rw[qf r]at q ⊢;exact y.gK q m
 have r:=qi r;rw[qe r]at q ⊢;intro P d g7;have B:Rep Z.K P aJ l (.tuple (k.map PyData.str)):=Rep.bW (y.fx d) _ a A;have f7:=m.trans d;refine qO P _ λH8 C=>⟨_,rfl,l,rfl,?_⟩;have D:=g7.same C;have R:=f7.trans (Fr.of_same C);show wE Z (.bZ 0 (.cons (.raw 0) .nil)) [some (.ref x),some (.str (pk ws p)),some l] H8 _;rw[kW f0];refine⟨.ref x,rfl,x,dx,wl,kd,sl,n,ws,ks,p1+1,s1,rfl,D,J,?_⟩;cases S:z1c nb ws (p1+1) s1 with
 |none=>rw[S]at q;exact D.gK q R
 |some z=>
 obtain⟨o,p2,e⟩:=z;rw[S]at q;intro T v2 U g9 F;refine⟨(show 4<=av by rw[cb];decide),λt ht=>?_⟩;have s:Same T (upd T t (.tup [.str "open",.str (pk ws p),l,v2])):=Same.upd ht;refine q _ _ ((R.trans U).trans (Fr.of_same s)) (g9.same s) ⟨t,_,rfl,.inl (.inl bG),⟨_,_,rfl,⟨rfl,by decide+kernel⟩,_,_,rfl,⟨rfl,v⟩,_,_,rfl,(Rep.bW (D.fx U) _ a (B.same C λ_ h=>h)).same s (λ_ h=>h),_,_,rfl,F.same s (λ_ h=>h),rfl⟩⟩ ?_;show(true&&(true&&(imm (.tuple (k.map PyData.str))&&(imm (.tuple (o.map PyData.str))&&true))))=true;rw[a,Ck o];rfl
end
def bM (ks:List (Str×Str)):List D->Option Str
 | []=>none
 |.tuple [.str nm,.tuple ts]::r=>if(ts.any λy=>cC y (match lkG ks nm with|some s=>.str s|none=>.none))=true then bM ks r else some nm
 |_::r=>bM ks r
def hasG (ks:List (Str×Str))(nm:Str):Bool:=(lkG ks nm).isSome
section
variable {Z:Wc}{H:Hp}{σ:L2.St}{CR x dx wl kd sl:Addr}{n:Int}{ws:List Str}{ks:List (Str×Str)}{p:Nat}{sd:List D}{nb:Str->Bool}{nf:Str->Option Int}
theorem zr9 {e:W}{s t:Str}{f:Ro}{Q:VK}{j:Nat}(oks:PyData.strOk s=true)(okt:PyData.strOk t=true)(f1:Z.fn[1]?=some (spHg Z.K CR Z.mg nb))(r:Rg Z.K CR H x dx wl kd sl n ws ks p sd)(h0:σ[0]?=some (some (.ref x)))(ht:t=pk ws p)
  (he:∀(H':Hp) (Q:VK),Rg Z.K CR H' x dx wl kd sl n ws ks (p+2) sd->RdOk Z.K CR Z.mg x dx wl kd sl n ws ks H' Q Z.E f->wE Z e σ H' Q)
  (q:RdOk Z.K CR Z.mg x dx wl kd sl n ws ks H Q Z.E (if dJ nb ws p=true then jJ s t f else none)):wE Z (.tup (.cons (.aZ (.str s)) (.cons (.bZ 1 (.cons (.raw 0) .nil)) (.cons e .nil)))) σ H Q:=by
 show wE Z (.aZ (.str s)) σ H _;refine qO H _ λH1 s1=>?_;have r1:=r.same s1;show wE Z (.bZ 1 (.cons (.raw 0) .nil)) σ H1 _;rw[kW f1];refine⟨.ref x,h0,x,dx,wl,kd,sl,n,ws,ks,p,sd,rfl,r1,?_⟩;by_cases h:¬(dJ nb ws p=true)
 ·rw[qf h]at q ⊢;exact r1.gK q (Fr.of_same s1)
 have h:=qi h;rw[qe h]at q ⊢;intro H2 f2 r2;have f2:Fr x sl H H2:=(Fr.of_same s1).trans f2;show wE Z e σ H2 _;refine he H2 _ r2 ?_;cases f with
 |none=>exact r2.gK q f2
 |some z=>obtain⟨d,p',yr⟩:=z;intro H3 v f3 r3 rv im;refine⟨(show 3<=av by rw[cb];decide),λtt hh=>?_⟩;have s4:Same H3 (upd H3 tt (.tup [.str s,.str (pk ws p),v])):=Same.upd hh;subst ht;refine q _ _ ((f2.trans f3).trans (Fr.of_same s4)) (r3.same s4) ⟨tt,_,rfl,.inl (.inl bG),⟨_,_,rfl,⟨rfl,oks⟩,_,_,rfl,⟨rfl,okt⟩,_,_,rfl,rv.same s4 (λ_ h=>h),rfl⟩⟩ ?_;show(true&&(true&&(imm d&&true)))=true;rw[im];rfl
structure RowZ (Z:Wc)(CR:Addr)(nb:Str->Bool)(nf:Str->Option Int):Prop where
 g2:Z.gi[2]?=some 8
 m1:Z.me[1]?=some (CR,("take":Str),z1b Z.K CR)
 m3:Z.me[3]?=some (CR,("take_name":Str),spTN Z.K CR Z.mg nb)
 m4:Z.me[4]?=some (CR,("take_end":Str),yn Z.K CR Z.mg)
 f0:Z.fn[0]?=some (spOg Z.K CR Z.mg nb)
 f1:Z.fn[1]?=some (spHg Z.K CR Z.mg nb)
 f2:Z.fn[2]?=some (spR Z.K CR Z.mg 8 λws ks=>z0u nb nf ws ks 8)
 f3:Z.fn[3]?=some (spR Z.K CR Z.mg 8 λws ks=>z1f nb nf ws ks 8)
theorem Ha (g2:Z.gi[2]?=some 8)(a:Z.fn[j]?=some (spR Z.K CR Z.mg 8 f))(g:Rg Z.K CR H x dx wl kd sl n ws ks p sd)(h0:σ[0]?=some (some (.ref x)))(q:RdOk Z.K CR Z.mg x dx wl kd sl n ws ks H Q Z.E (f ws ks p sd)):wE Z (.bZ j (.cons (.raw 0) (.cons (.gi 2) .nil))) σ H Q:=by
 rw[kW a];refine⟨.ref x,h0,?_⟩;have b:wE Z (.gi 2)=λ_ H Q=>Q (.int 8) H:=by show(match Z.gi[2]? with|some n=>(λ_ H Q=>Q (.int n) H:TE)|none=>eE)=_;rw[g2]
 show wE Z (.gi 2) σ H λy c=>spR Z.K CR Z.mg 8 f [.ref x,y] c Q Z.E;rw[b];exact⟨x,dx,wl,kd,sl,n,ws,ks,p,sd,rfl,g,q⟩
theorem zo4 {B:Ends}(S:RowK Z.K CR)(z:RowZ Z CR nb nf)(T:nb ""=false)(g:Rg Z.K CR H x dx wl kd sl n ws ks 0 sd)
  (q:RdOk Z.K CR Z.mg x dx wl kd sl n ws ks H B.rt Z.E (bU nb nf ws ks sd)):wS Z Rd.readRow B [some (.ref x),none,none] H:=by
 refine tT z.m1 g rfl λH1 k1 U=>?_;have f:=(dR (p:=0) g.rw.eB).1;have l:=(dR (p:=1) g.rw.eB).1
 have k:∀{o:Ro} {m:Hp} {a2:Option V},cI nb nf ws ks sd=o->Fr x sl H m->(∃C r,Rg Z.K CR m x dx wl kd sl n ws ks C r)->RdOk Z.K CR Z.mg x dx wl kd sl n ws ks m (λv s=>wS Z (.seq (.exp (.eY (.raw 0) 4 .nil)) (.seq (.ret (.raw 2)) .nil)) B [some (.ref x),some (.str (pk ws 0)),some v] s) Z.E o:=by
  intro o m a2 e f2 ⟨p2,W,g2⟩;unfold bU at q;rw[e]at q;cases o with
  |none=>exact g2.gK q f2
  |some y=>
   obtain⟨d,C,r⟩:=y;intro s v f3 c X im;show wE Z (.eY (.raw 0) 4 .nil) [some (.ref x),some (.str (pk ws 0)),some v] s _;rw[tS z.m4];refine⟨.ref x,rfl,x,dx,_,rfl,c.rw.ins,rfl,x,dx,wl,kd,sl,n,ws,_,rfl,c.rw,?_⟩;have q:RdOk Z.K CR Z.mg x dx wl kd sl n ws ks H B.rt Z.E (if C<ws.length then none else some (d,C,r)):=q;by_cases h:C<ws.length
   ·rw[qe h]at q ⊢;exact vO (c.gK q (f2.trans f3))
   ·rw[qf h]at q ⊢;exact λD u=>⟨v,rfl,q D v ((f2.trans f3).trans (Fr.of_same u)) (c.same u) (X.same u λ_ h=>h) im⟩
 have ex:cI nb nf ws ks sd=none->iK Z.mg "NoRow" "row" (.int n) x sl H Z.E:=λe=>by unfold bU at q;rw[e]at q;exact q
 show wS Z (.seq _ _) B [some (.ref x),some (.str (pk ws 0)),none] H1;refine vM (i:=1) (a:=pk ws 0) (b:="fact") rfl f λm O=>?_;have g2:=U.same O;have f2:=(Fr.fV k1).trans (Fr.of_same (x:=x) (sl:=sl) O);by_cases h:pk ws 0="fact"
 ·have e:cI nb nf ws ks sd=if nb (pk ws 1)=true then some (.tuple [.str "fact",.str (pk ws 1)],2,sd)else none:=by unfold cI;rw[qe h]
  rw[qk h];refine bA ?_;show wE Z (.aZ (.str "fact")) [some (.ref x),some (.str (pk ws 0)),none] m _;refine qO m _ λs F=>?_;have c:=g2.same F;have f3:=f2.trans (Fr.of_same (x:=x) (sl:=sl) F);show wE Z Rd.TN [some (.ref x),some (.str (pk ws 0)),none] s _;refine zd7 z.m3 c rfl ?_;by_cases P:nb (pk ws 1)=true
  ·rw[qe P]at e ⊢;intro D J w;refine⟨(show 2<=av by rw[cb];decide),λt ht=>?_⟩;have G:Same D (upd D t (.tup [.str "fact",.str (pk ws 1)])):=Same.upd ht;exact k (a2:=none) e (f3.trans J) ⟨_,_,w⟩ _ (.ref t) (Fr.of_same G) (w.same G) ⟨t,_,rfl,.inl (.inl bG),⟨_,_,rfl,⟨rfl,by decide+kernel⟩,_,_,rfl,⟨rfl,l⟩,rfl⟩⟩ rfl
  ·rw[qf P]at e ⊢;exact c.gK (ex e) f3
 rw[ql h];refine aX (vM (i:=1) (a:=pk ws 0) (b:="open") rfl f λs F=>?_);have c:=g2.same F;have f3:=f2.trans (Fr.of_same (x:=x) (sl:=sl) F);by_cases A:pk ws 0="open"
 ·have e:cI nb nf ws ks sd=hG nb ws ks 1 sd:=by unfold cI;rw[qf h,qe A]
  rw[qk A];refine bA ?_;show wE Z (.bZ 0 (.cons (.raw 0) .nil)) [some (.ref x),some (.str (pk ws 0)),none] s _;rw[kW z.f0];exact⟨.ref x,rfl,x,dx,wl,kd,sl,n,ws,ks,1,sd,rfl,c,T,k (a2:=none) e f3 ⟨_,_,c⟩⟩
 rw[ql A];refine aX (vM (i:=1) (a:=pk ws 0) (b:="word") rfl f λD u=>?_);have w:=c.same u;have J:=f3.trans (Fr.of_same (x:=x) (sl:=sl) u);by_cases I:pk ws 0="word"
 ·have e:cI nb nf ws ks sd=if dJ nb ws 1=true then jJ "word" (pk ws 1) (z0u nb nf ws ks 8 3 sd)else none:=by unfold cI;rw[qf h,qf A,qe I]
  rw[qk I];exact bA (zr9 (σ:=[some (.ref x),some (.str (pk ws 0)),none]) (j:=0) (by decide+kernel) l z.f1 w rfl rfl (λH' Q M q=>Ha z.g2 z.f2 M rfl q) (k (a2:=none) e J ⟨_,_,w⟩))
 rw[ql I];refine aX (vM (i:=1) (a:=pk ws 0) (b:="claim") rfl f λH5 G=>?_);have N:=w.same G;have R:=J.trans (Fr.of_same (x:=x) (sl:=sl) G);by_cases L:pk ws 0="claim"
 ·have e:cI nb nf ws ks sd=if dJ nb ws 1=true then jJ "claim" (pk ws 1) (z1f nb nf ws ks 8 3 sd)else none:=by unfold cI;rw[qf h,qf A,qf I,qe L]
  rw[qk L];exact bA (zr9 (σ:=[some (.ref x),some (.str (pk ws 0)),none]) (j:=0) (by decide+kernel) l z.f1 N rfl rfl (λH' Q M q=>Ha z.g2 z.f3 M rfl q) (k (a2:=none) e R ⟨_,_,N⟩))
 rw[ql L];exact aX (pS S N rfl R (ex (by unfold cI;rw[qf h,qf A,qf I,qf L])))
end
def lW (ks:List (Str×Str))(nm:Str):D:=match lkG ks nm with|some s=>.str s|none=>.none
theorem Hb:∀{ks:List (Str×Str)},(gT (yp ks) (.str nm)).isSome=hasG ks nm
 | []=>rfl
 |y::ks=>by
  have a:=Hb (nm:=nm) (ks:=ks);unfold gT yp at a ⊢;unfold hasG lkG at a ⊢;rw[br,dg,dg];rw[Qg];by_cases h:y.1=nm
  ·rw[qk h];rfl
  ·rw[ql h];exact a
theorem Qs {a:List Str}:bM b (.tuple [.str nm,.tuple (a.map .str)]::r)=if((a.map PyData.str).any λy=>cC y (lW b nm))=true then bM b r else some nm:=by rw[bM];rfl
theorem four (h:l.length=4):∃a b c d,l=[a,b,c,d]:=by rcases l with _|⟨a,_|⟨b,_|⟨c,_|⟨d,_|⟨e,l⟩⟩⟩⟩⟩<;>first|exact⟨_,_,_,_,rfl⟩|(simp at h;done)|(simp at h;omega)
def jL (mg:Str->Option Value)(x sl:Addr)(ks:List (Str×Str))(nm:Str)(sd:List D)(H:Hp)(Q:Hp->Prop)(E:XK):Prop:=
 if hasG ks nm=true then iK mg "Twice" "name" (.str nm) x sl H E else match bM ks sd with
  |some u=>iK mg "Unknown" "name" (.str u) x sl H E
  |none=>∀H',Same H H'->Q H'
def spCg (K:W.Frag)(CR:Addr)(mg:Str->Option Value):Sp:=λvs H Q E=>∃x dx wl kd sl n ws ks p sd nm,vs=[.ref x,.str nm]/\Rg K CR H x dx wl kd sl n ws ks p sd/\PyData.strOk nm=true/\jL mg x sl ks nm sd H (λH'=>Q .non H') E
section
variable {Z:Wc}{H:Hp}{CR x dx wl kd sl:Addr}{n:Int}{ws:List Str}{ks:List (Str×Str)}{p:Nat}{sd:List D}
theorem Hc {C:Addr}(g:Rg Z.K CR b x dx wl kd sl n ws ks p sd)(ex:iK Z.mg c fl y x sl H Z.E)(k:Fr x sl H b)(a:Z.mg c=some (.ref C))(hd:b dp=none):Z.E (.ref C) (some dp) (upd b dp (.xd [(fl,y)])):=(g.gK ex k) C _ dp a hd bG (Fr.of_same (Same.upd hd))
theorem Qt (O:RowK Z.K CR)(g:Rg Z.K CR H x dx wl kd sl n ws ks p sd)(P:PyData.strOk nm=true)(q:jL Z.mg x sl ks nm sd H (λH'=>∀f,D0.nx f H') Z.E):wS Z Rd.fE D0 [some (.ref x),some (.str nm),none,none] H:=by
 have rd:Rep Z.K H aJ (.ref kd) (.dict (yp ks)):=⟨kd,_,rfl,g.kk,trivial,G2 g.lV⟩;refine⟨.str nm,rfl,lU O g.rw rfl dc rfl (P' (B:=aJ) (dx:=.str nm) ⟨rfl,P⟩ rd rfl λH1 s1=>⟨_,rfl,?_⟩)⟩;rw[Hb];have I:=g.same s1;have f1:Fr x sl H H1:=Fr.of_same s1;unfold jL at q;cases hh:hasG ks nm with
 |true=>rw[qe hh]at q;exact bA λC R=>⟨.str nm,rfl,λdp hd=>Hc I q f1 R hd⟩
 |false=>
  rw[qf (by rw[hh];decide)]at q;refine aX ?_;have go:∀Q:VK,Q (.ref sl) H1->wE Z Rd.SD [some (.ref x),some (.str nm),none,none] H1 Q:=λQ q=>lU O I.rw rfl dc rfl q;show iX (uz Z.K (wE Z Rd.SD)) _ _ _ _ H1;unfold iX uz;refine go _ ?_;obtain⟨vs,h1,h2⟩:=I.sq;refine⟨sl,rfl,⟨vs,.inl (.inl h1)⟩,λi m f H'=>m=sd.length-i/\i<=sd.length/\(∃J L M,f=[some (.ref x),J,L,M])/\Same H1 H'/\bM ks (sd.drop i)=bM ks sd,⟨_,rfl,c7 _,⟨_,_,_,rfl⟩,Same.refl _,rfl⟩,?_⟩
  rintro i m f H' ⟨rfl,hi,⟨J,L,M,rfl⟩,s,hu⟩
  have g2:=I.same s;have f2:=f1.trans (Fr.of_same s);have r:SqL Z.K H' sl vs:=.inl (.inl (s _ _ h1));have u:=h2.length;by_cases d:¬(i<sd.length)
  ·have S:i=sd.length:=by omega
   subst S;rw[ln]at hu;rw[<-hu]at q;exact .inl ⟨⟨vs,r,oq u⟩,q H' (s1.trans s) _⟩
  have d:=qi d;have z:=i3 d;obtain⟨un,c,T⟩:=g.wf _ (ll d);have U:=h2.same s (λ_ h=>h);obtain⟨v,hv,rv⟩:=Reps.get U (bo d);rw[T]at rv z;rw[z,Qs]at hu;refine .inr ⟨⟨vs,v,r,hv⟩,λA k=>(∃J L M,A=[some (.ref x),J,L,M])/\Same H1 k/\bM ks (sd.drop (i+1))=bM ks sd,λA k ⟨w1,w2,w3⟩=>⟨sd.length-(i+1),by omega,rfl,d,w1,w2,w3⟩,λy k W=>?_⟩;obtain⟨rfl,W⟩:=W;cases hv.symm.trans (W vs r);refine⟨bd 4 none,F0 k,(.od,.tuple [.str un,.tuple (c.map PyData.str)]),[none,none,some (.al,.str un),some (.al,.tuple (c.map PyData.str))],jT rfl (λj g d' e=>?_),rv.old,?_,λQu F3 D F=>?_⟩
  ·rw[ci]at e;split at e<;>cases e
  ·have e:gJ (.tuple (c.map PyData.str)) .od=.fr:=qe (Ck c);show Res.ok [none,none,some (lM (G.fr,.str un)),some (lM (gJ (.tuple (c.map PyData.str)) G.od,.tuple (c.map PyData.str)))]=_;rw[e];rfl
  obtain⟨v2,X,r2⟩:=D.sl 2 .al (.str un) rfl;obtain⟨N,Y,r3⟩:=D.sl 3 .al (.tuple (c.map PyData.str)) rfl;obtain⟨rfl,T9⟩:=r2;have Qv:=F.rest 0 dc;obtain⟨b0,b1,b2,b3,rfl⟩:=four F.len;cases Qv;cases X;cases Y;show wE Z Rd.KD [some (.ref x),b1,some (.str un),some N] k λx' H1=>∃a,x'=.ref a/\IsD H1 a/\(wE Z (.raw 2)) [some (.ref x),b1,some (.str un),some N] H1 λy k=>∃o,DGet k a y o/\(wE Z (.raw 3)) [some (.ref x),b1,some (.str un),some N] k λb' H3=>lP Z.K (mB (cmpD .NotIn)) (o.getD .non) b' H3 _;refine lU O g2.rw rfl dc rfl ⟨kd,rfl,.inl ⟨_,.inl g2.kk⟩,.str un,rfl,_,.inl ⟨_,.inr un,.inl g2.kk,rfl,rfl⟩,N,rfl,?_⟩;rw[G8]
  have rl:Rep Z.K k aJ (((lkG ks un).map V.str).getD .non) (lW ks un):=by
   unfold lW;cases e:lkG ks un with
   |none=>exact rfl
   |some t=>exact⟨rfl,G9 g.lV e⟩
  have sh:cE 40 (lW ks un)=true:=by unfold lW;cases lkG ks un<;>rfl
  refine⟨aJ,_,lW ks un,.tuple (c.map PyData.str),.bool (!((c.map PyData.str).any λy=>cC y (lW ks un))),rl,r3,?_,λw H3 s3 Qw=>?_⟩
  ·show((inD (lW ks un) (.tuple (c.map PyData.str))>>=λb=>Res.ok (!b))>>=λb=>Res.ok (PyData.bool b))=_;have:inD (lW ks un) (.tuple (c.map PyData.str))=.ok ((c.map PyData.str).any λy=>cC y (lW ks un)):=by show(if(cE 40 (lW ks un)&&iO 40 (c.map PyData.str))=true then _ else _)=_;rw[sh,Cn];rfl
   rw[this];rfl
  cases Qw;refine⟨_,rfl,?_⟩;cases l:(c.map PyData.str).any λy=>cC y (lW ks un)with
  |true=>rw[qe l]at hu;exact aX ⟨⟨_,_,_,rfl⟩,s.trans s3,hu⟩
  |false=>rw[qf (by rw[l];decide)]at hu;rw[<-hu]at q;exact bA λC R=>⟨.str un,rfl,λdp hd=>Hc (g2.same s3) q (f2.trans (Fr.of_same s3)) R hd⟩
end
inductive Rx where
 |ok (act:List D)|row (k:Nat)|tw (s:Str)|un (s:Str)
def gL (nb:Str->Bool)(nf:Str->Option Int):Nat->List D->List (Str×Str)->List Str->Rx
 |_,act,_,[]=>.ok act
 |k,act,ks,r::rs=>if k=24 then .row k else match bU nb nf (spW 32 r) ks []with
  |none=>.row k
  |some (d,_,sd)=>if hasG ks (pk (spW 32 r) 1)=true then .tw (pk (spW 32 r) 1)else match bM ks sd with
   |some u=>.un u
   |none=>gL nb nf (k+1) (act++[d]) (ks++[(pk (spW 32 r) 1,pk (spW 32 r) 0)]) rs
def jM (nb:Str->Bool)(nf:Str->Option Int):D->Rx
 |.str t=>gL nb nf 0 [] [] (spW 10 t)
 |_=>.row 0
def sj (K:W.Frag)(mg:Str->Option Value)(H:Hp)(Q:VK)(E:XK):Rx->Prop
 |.ok act=>∀H' l,Same H H'->Rep K H' (nw H) (.ref l) (.list act)->Q (.ref l) H'
 |.row k=>kY mg "NoRow" "row" (.int k) H E
 |.tw s=>kY mg "Twice" "name" (.str s) H E
 |.un s=>kY mg "Unknown" "name" (.str s) H E
theorem Hd:∀(d:List Nat),(aU c d).length<=d.length+1
 | []=>ag _
 |a::r=>by
  have b:=Hd (c:=c) r;unfold aU;split
  ·exact d3 b
  ·cases e:aU c r with
   |nil=>exact d3 (c7 _)
   |cons h t=>rw[e]at b;exact k4 b
theorem Qx:(spW c t).length<=t.length+1:=by
 unfold spW;rw[ak];have:=Hd (c:=c) t.cps.toList;have e:t.cps.toList.length=t.length:=by rw[cv];rfl
 omega
theorem Qy (h:bU nb nf ws j sd=some (d,p,s)):∃r,d=.tuple (.str (pk ws 0)::.str (pk ws 1)::r):=by
 have c:∀{a b:Str} {o:Ro} {d:D} {p:Nat} {s:List D},jJ a b o=some (d,p,s)->∃r,d=.tuple (.str a::.str b::r):=by
  intro a b o d p s h;cases o with
  |none=>cases h
  |some z=>obtain⟨f,g,k⟩:=z;cases h;exact⟨_,rfl⟩
 have i:∀{d:D} {p:Nat} {s:List D},cI nb nf ws j sd=some (d,p,s)->∃r,d=.tuple (.str (pk ws 0)::.str (pk ws 1)::r):=by
  intro d p s h;unfold cI at h;split at h
  ·rename_i e;split at h
   ·cases h;rw[e];exact⟨_,rfl⟩
   ·cases h
  split at h
  ·rename_i e;rw[e];unfold hG at h;split at h
   ·cases h
   split at h
   ·split at h
    ·split at h
     ·cases h
     ·split at h
      ·split at h
       ·cases h
       ·cases h;exact⟨_,rfl⟩
      ·cases h
    ·cases h
   ·cases h
  split at h
  ·rename_i e;rw[e];split at h
   ·exact c h
   ·cases h
  split at h
  ·rename_i e;rw[e];split at h
   ·exact c h
   ·cases h
  ·cases h
 unfold bU at h;split at h
 ·cases h
 ·rename_i e;split at h
  ·cases h
  ·cases h;exact i e
theorem Qz (h:hasG d nm=false):putK (gI d) (.inr nm) (V.str kd)=gI (d++[(nm,kd)]):=by
 unfold putK;rw[qf]
 ·unfold gI;rw[b8];rfl
 ·intro z;obtain⟨c,a,e⟩:=jt.mp z;obtain⟨y,b,rfl⟩:=cr.mp a;have e:=qj e;unfold hasG lkG at h;rw[ji]at h;have:(d.find? λy=>decide (y.1=nm)).isSome=true:=List.find?_isSome.mpr ⟨y,b,qk (Sum.inr.inj e)⟩;rw[this]at h;cases h
def spAg (K:W.Frag)(mg:Str->Option Value)(nb:Str->Bool)(nf:Str->Option Int):Sp:=λvs H Q E=>∃v d B,vs=[v]/\Rep K H B v d/\nb ""=false/\(∀t,d=.str t->okS t/\t.length<LIM/\(spW 10 t).length<=1000)/\sj K mg H Q E (jM nb nf d)
section
variable {Z:Wc}{H:Hp}{CR:Addr}{nb:Str->Bool}{nf:Str->Option Int}
theorem Cp (ex:kY Z.mg c fl y H Z.E)(s:Same H g)(a:H x=none)(hs:H sl=none):iK Z.mg c fl y x sl g Z.E:=λC h dp d f hd k=>ex C h dp d (s.none f) hd λb o e=>k b o (by rintro rfl;rw[a]at e;cases e) (by rintro rfl;rw[hs]at e;cases e) (s b o e)
theorem Cq (i:k[6]?=some (some v))(d:Rep Z.K H aJ v (.tuple (.str a::.str b::r)))(e:iD (.tuple (.str a::.str b::r)) (.int j)=.ok (.str c))(q:∀g,Same H g->Q (.str c) g):wE Z (.ix (.raw 6) (.aZ (.int j))) k H Q:=by refine⟨v,i,_,F0 H,_,fU,rfl,λw l s1 f=>?_⟩;cases f;refine⟨aJ,aJ,.tuple (.str a::.str b::r),.int j,.str c,d.same s1 (λ_ h=>h),rfl,e,λw rw=>?_⟩;obtain⟨rfl,_⟩:=rw;exact q l s1
theorem Cr:iD (.tuple (.str a::.str b::r)) (.int (0:Nat))=.ok (.str a):=by
 show Res.fJ (cK (.str a::.str b::r) 0)=_;have:cK (.str a::.str b::r:List D) 0=some (.str a):=by unfold cK kB;rw[qe dc,qe (by grind)];rfl
 rw[this];rfl
theorem vQ:iD (.tuple (.str a::.str b::r)) (.int (1:Nat))=.ok (.str b):=by
 show Res.fJ (cK (.str a::.str b::r) 1)=_;have:cK (.str a::.str b::r:List D) 1=some (.str b):=by unfold cK kB;rw[qe dc,qe (by grind)];rfl
 rw[this];rfl
theorem zon {D1:Ends}{ap kd:Addr}{k:Nat}{r:Str}{a0 a5 a6:Option V}{vs:List V}{ks:List (Str×Str)}(g0:Z.gi[0]?=some 24)(c0:Z.cl[0]?=some (CR,spRI Z.K CR))(f0:Z.fn[0]?=some (spRg Z.K CR Z.mg nb nf))(f1:Z.fn[1]?=some (spCg Z.K CR Z.mg))
  (ha:H ap=some (.lst vs)) (hk:H kd=some (.dK (gI ks))) (lV:∀y∈ks,PyData.strOk y.1=true/\PyData.strOk y.2=true) (Cs:okS r) (QA:r.length<LIM) (n0:nb ""=false) (hv:vs.length<1000) (T':ks.length<1000)
  (q:if k=24 then kY Z.mg "NoRow" "row" (.int k) H Z.E else match bU nb nf (spW 32 r) ks []with
   |none=>kY Z.mg "NoRow" "row" (.int k) H Z.E
   |some (d,_,sd)=>if hasG ks (pk (spW 32 r) 1)=true then kY Z.mg "Twice" "name" (.str (pk (spW 32 r) 1)) H Z.E else match bM ks sd with
    |some u=>kY Z.mg "Unknown" "name" (.str u) H Z.E
    |none=>∀b5 b6 H' v,(∀b o,b≠ap->b≠kd->H b=some o->H' b=some o)->H' ap=some (.lst (vs++[v]))->H' kd=some (.dK (gI (ks++[(pk (spW 32 r) 1,pk (spW 32 r) 0)])))->Rep Z.K H' aJ v d->imm d=true->(PyData.strOk (pk (spW 32 r) 1)=true/\PyData.strOk (pk (spW 32 r) 0)=true)->D1.nx [a0,some (.ref ap),some (.ref kd),some (.int k),some (.str r),b5,b6] H'):
  wS Z Rd.readBody D1 [a0,some (.ref ap),some (.ref kd),some (.int k),some (.str r),a5,a6] H:=by
 refine⟨.int k,rfl,?_⟩;have eg:wE Z (.gi 0)=λ_ H Q=>Q (.int 24) H:=by show(match Z.gi[0]? with|some n=>(λ_ H Q=>Q (.int n) H:TE)|none=>eE)=_;rw[g0]
 rw[eg];refine⟨aJ,aJ,.int k,.int 24,.bool (decide ((k:Int)=24)),rfl,rfl,?_,λw H1 s1 r1=>?_⟩
 ·show(Res.ok (cC (.int k) (.int 24))>>=λb=>Res.ok (PyData.bool b))=_;rw[yo];rfl
 cases r1;refine⟨_,rfl,?_⟩;by_cases vR:k=24
 ·rw[qe vR]at q;rw[qk (by omega)];refine bA λC hC=>⟨.int k,rfl,λdp hd=>G1 q s1 hC hd⟩
 rw[qf vR]at q;rw[ql (by omega)];refine aX ?_;show wE Z (.mk 0 _) _ _ _;rw[Qh c0];refine⟨.int k,rfl,.str r,rfl,.ref kd,rfl,λx dx hx He ne=>⟨x,dx,kd,k,r,rfl,bG,Cs,λH2 wl sl k2 Ct FI Hf QB=>⟨rfl,?_⟩⟩⟩;have yt:H x=none:=s1.none hx
 have s2:Same H H2:=λb o e=>by
  have e1:=s1 b o e;have nx:b≠x:=by rintro rfl;rw[hx]at e1;cases e1
  have nd:b≠dx:=by rintro rfl;rw[He]at e1;cases e1
  exact k2 b o nx (by rw[aH nx,aH nd];exact e1)
 have pT:H sl=none:=by
  cases e:H sl with
  |none=>rfl
  |some o=>
   have e1:=s1 sl o e;have nx:sl≠x:=by rintro rfl;rw[hx]at e1;cases e1
   have nd:sl≠dx:=by rintro rfl;rw[He]at e1;cases e1
   rw[aH nx,aH nd,e1]at Hf;cases Hf
 have g2:Rg Z.K CR H2 x dx wl kd sl k (spW 32 r) ks 0 []:=⟨Ct,s2 _ _ hk,lV,⟨[],FI,rfl⟩,rfl,(λ_ h=>by cases h),QB,ag _,bp Qx QA⟩;show wE Z (.bZ 0 (.cons (.raw 5) .nil)) [a0,some (.ref ap),some (.ref kd),some (.int k),some (.str r),some (.ref x),a6] H2 _;rw[kW f0];refine⟨.ref x,rfl,x,dx,wl,kd,sl,k,_,ks,[],rfl,g2,n0,?_⟩;cases hr:bU nb nf (spW 32 r) ks []with
 |none=>rw[hr]at q;exact Cp q s2 yt pT
 |some z=>
  obtain⟨d,p',sd⟩:=z;rw[hr]at q;obtain⟨rest,hd⟩:=Qy hr;have Hg:=(dR (p:=1) Ct.eB).1;have QC:=(dR (p:=0) Ct.eB).1;intro H3 v f3 g3 rv im;have s3:Same H H3:=λb o e=>f3 b o (by rintro rfl;rw[yt]at e;cases e) (by rintro rfl;rw[pT]at e;cases e) (s2 b o e);have va:Rep Z.K H3 aJ v (.tuple (.str (pk (spW 32 r) 0)::.str (pk (spW 32 r) 1)::rest)):=by rw[<-hd];exact rv
  show wE Z (.bZ 1 (.cons (.raw 5) (.cons (.ix (.raw 6) (.aZ (.int (1:Nat)))) .nil))) [a0,some (.ref ap),some (.ref kd),some (.int k),some (.str r),some (.ref x),some v] H3 _;rw[kW f1];refine⟨.ref x,rfl,Cq rfl va vQ λH4 s4=>?_⟩;have g4:=g3.same s4;refine⟨x,dx,wl,kd,sl,k,_,ks,p',sd,_,rfl,g4,Hg,?_⟩;unfold jL
  have q:if hasG ks (pk (spW 32 r) 1)=true then kY Z.mg "Twice" "name" (.str (pk (spW 32 r) 1)) H Z.E else match bM ks sd with
   |some u=>kY Z.mg "Unknown" "name" (.str u) H Z.E
   |none=>∀b5 b6 H' v,(∀b o,b≠ap->b≠kd->H b=some o->H' b=some o)->H' ap=some (.lst (vs++[v]))->H' kd=some (.dK (gI (ks++[(pk (spW 32 r) 1,pk (spW 32 r) 0)])))->Rep Z.K H' aJ v d->imm d=true->(PyData.strOk (pk (spW 32 r) 1)=true/\PyData.strOk (pk (spW 32 r) 0)=true)->D1.nx [a0,some (.ref ap),some (.ref kd),some (.int k),some (.str r),b5,b6] H':=q
  by_cases hm:hasG ks (pk (spW 32 r) 1)=true
  ·rw[qe hm]at q ⊢;exact Cp q (s3.trans s4) yt pT
  rw[qf hm]at q ⊢;have QD:hasG ks (pk (spW 32 r) 1)=false:=by cases e:hasG ks (pk (spW 32 r) 1)<;>first|rfl|exact absurd e hm
  cases hu:bM ks sd with
  |some u=>rw[hu]at q;exact Cp q (s3.trans s4) yt pT
  |none=>
   rw[hu]at q;intro H5 s5;have yu:=s4.trans s5;refine Cq rfl (va.same yu λ_ h=>h) Cr λH6 s6=>⟨.ref kd,rfl,Cq rfl (va.same (yu.trans s6) λ_ h=>h) vQ λH7 s7=>.inl ⟨kd,_,rfl,.inl ⟨gI ks,.inr (pk (spW 32 r) 1),?_,rfl,?_,rfl⟩,?_⟩⟩
   ·exact(s3.trans (yu.trans (s6.trans s7))) _ _ hk
   ·have :(gI ks).length=ks.length:=by unfold gI;rw[ak]
    rw[this,cb];omega
   ·have Hh:Same H3 H7:=yu.trans (s6.trans s7);have yw:Same H H7:=s3.trans Hh;have Hi:ap≠kd:=by rintro rfl;rw[ha]at hk;cases hk
    have QE:=rv.same Hh λ_ h=>h;have Hj:upd H7 kd (.dK (putK (gI ks) (.inr (pk (spW 32 r) 1)) (.str (pk (spW 32 r) 0)))) ap=some (.lst vs):=by rw[aH Hi];exact yw _ _ ha
    refine⟨.ref ap,rfl,.inl ⟨rfl,_,.inl (.inl Hj)⟩,v,rfl,ap,vs,v,rfl,rfl,Hj,by rw[cb];omega,?_⟩;refine q _ _ _ v (λb o h1 h2 e=>?_) bG ?_ ?_ im ⟨Hg,QC⟩
    ·rw[aH h1,aH h2];exact yw b o e
    ·rw[aH (Ne.symm Hi),bG,Qz QD]
    ·refine Rep.bW (λa o e fx=>?_) _ im QE;rw[aH (by rintro rfl;rw[yw _ _ ha]at e;cases e;exact fx.elim),aH (by rintro rfl;rw[yw _ _ hk]at e;cases e;exact fx.elim)];exact e
end
section
variable {Z:Wc}{H:Hp}{CR:Addr}{nb:Str->Bool}{nf:Str->Option Int}
theorem yx:∀{a b:List D},imms a=true->imms b=true->imms (a++b)=true
 | [],_,_,c=>c
 |y::a,b,d,c=>by obtain⟨e,f⟩:=aC d;show(imm y&&imms (a++b))=true;rw[e,yx f c];rfl
theorem QF (h:yk d=false):jM nb nf d=.row 0:=by cases d<;>first|(cases h;done)|rfl
theorem zpw (g0:Z.gi[0]?=some 24)(c0:Z.cl[0]?=some (CR,spRI Z.K CR))(f0:Z.fn[0]?=some (spRg Z.K CR Z.mg nb nf))(f1:Z.fn[1]?=some (spCg Z.K CR Z.mg))
  (rv:Rep Z.K H B v d) (n0:nb ""=false) (hd:∀t,d=.str t->okS t/\t.length<LIM/\(spW 10 t).length<=1000) (q:sj Z.K Z.mg H D0.rt Z.E (jM nb nf d)):wS Z Rd.readAct D0 [some v,none,none,none,none,none,none] H:=by
 refine⟨[some (.od,d),none,none,none,none,none,none],F0 H,yk d,jT rfl λi g d' e=>?_,?_,λH1 s1=>?_⟩
 ·rcases i with _|_|_|_|_|_|_|i<;>cases e;exact⟨rfl,v,B,rfl,rv⟩
 ·show(aG Z.Κ Z.Φ (.eP (.var 0) ["str"]) _>>=λx=>gD x.2)=_;rw[Qa rfl];rfl
 cases hs:yk d with
 |false=>rw[QF hs]at q;refine bA λC hC=>⟨_,F0 H1,_,fU,rfl,λw U s2 r2 dp hd=>?_⟩;cases r2;exact G1 q (s1.trans s2) hC hd
 |true=>
  refine aX ?_;obtain⟨t,rfl⟩:∃t,d=.str t:=by cases d<;>first|(cases hs;done)|exact⟨_,rfl⟩
  obtain⟨N,X,G⟩:=hd t rfl;obtain⟨rfl,_⟩:=rv;have q:sj Z.K Z.mg H D0.rt Z.E (gL nb nf 0 [] [] (spW 10 t)):=q;refine⟨c7 _,λA Y=>?_⟩;intro kd D;have Hk:kd≠A:=by rintro rfl;rw[bG]at D;cases D
  have Cu:H1 kd=none:=by rw[aH Hk]at D;exact D
  generalize O:upd (upd H1 A (.lst [])) kd (.dK [])=U;have s2:Same H1 U:=O▸(Same.upd Y).trans (Same.upd D);have P:U A=some (.lst []):=by rw[<-O,aH (Ne.symm Hk),bG]
  have Q:U kd=some (.dK (gI [])):=by rw[<-O,bG];rfl
  have I:=s1.none Y;have Cv:=s1.none Cu
  let F1:Fm:=⟨λ_=>none,λa=>a≠A/\a≠kd,λ_=>none,True⟩
  have xI:StOk Z.K F1 U [some (.str t),some (.ref A),some (.ref kd),none,none,none,none] [some (.od,.str t),none,none,none,none,none,none]:=by refine⟨(λa o e=>by cases e),(λa e=>⟨(by rintro rfl;rw[P]at e;cases e),(by rintro rfl;rw[Q]at e;cases e)⟩),(λa i e=>by cases e),rfl,λi g d' e=>?_⟩;rcases i with _|_|_|_|_|_|_|i<;>cases e;exact⟨_,rfl,rfl,N.1⟩
  refine⟨_,F1,_,xI,Qj N G rfl,λJ B' H3 s3 hB wk=>?_⟩
  have kp:∀{F:Hp},(∀b o,b≠A->b≠kd->H3 b=some o->F b=some o)->Kp B' H3 F:=λ{F} k b o e z=>k b o (by
   rintro rfl
   rcases z with z|z
   ·exact((hB _ z).1).1 rfl
   ·rw[s3 _ _ P]at e;cases e;exact z) (by
   rintro rfl
   rcases z with z|z
   ·exact((hB _ z).1).2 rfl
   ·rw[s3 _ _ Q]at e;cases e;exact z) e
  let l:=spW 10 t
  have Hl:(z17 0 (l.map PyData.str)).length=l.length:=by rw[G0,ak]
  let W:Nat->Nat->L2.St->Hp->Prop:=λi m bN H'=>m=l.length-i/\i<=l.length/\(∃a0 a3 a4 a5 a6,bN=[a0,some (.ref A),some (.ref kd),a3,a4,a5,a6])/\(∀b o,b≠A->b≠kd->H3 b=some o->H' b=some o)/\∃vs p ks,H' A=some (.lst vs)/\H' kd=some (.dK (gI ks))/\Reps Z.K H' aJ vs p/\imms p=true/\(∀y∈ks,PyData.strOk y.1=true/\PyData.strOk y.2=true)/\p.length=i/\ks.length=i/\gL nb nf i p ks (l.drop i)=gL nb nf 0 [] [] l
  refine⟨W,⟨_,rfl,c7 _,⟨_,_,_,_,_,rfl⟩,λ_ _ _ _ e=>e,[],[],[],s3 _ _ P,s3 _ _ Q,rfl,rfl,(λ_ h=>by cases h),rfl,rfl,rfl⟩,?_⟩
  rintro i m bN H' ⟨rfl,A5,⟨a0,a3,a4,a5,a6,rfl⟩,hk,vs,p,ks,R,Cw,rep,pR,lV,QG,QH,n⟩
  have sH:Same H H':=λb o e=>hk b o (by rintro rfl;rw[I]at e;cases e) (by rintro rfl;rw[Cv]at e;cases e) (s3 b o (s2 b o (s1 b o e)));have Ua:=Reps.length rep;by_cases r:i<l.length
  ·have L:i<(z17 0 (l.map PyData.str)).length:=Hl▸r;refine .inr ⟨wk.go H' (kp hk) i L,W (i+1) (l.length-(i+1)),λDT F w=>⟨_,by omega,w⟩,λy F S=>?_⟩;obtain⟨s4,e,he,ry⟩:=wk.jZ H' (kp hk) i y F L S;rw[GZ,bu,bo r]at he;cases he;have A6:=i3 r;rw[A6]at n
   have ry:Rep Z.K F B' y (.tuple [.int i,.str l[i]]):=by
    have e0:((0+i:Nat):Int)=(i:Int):=by rw[Nat.zero_add]
    rw[e0]at ry;exact ry
   refine⟨bd 7 none,F0 F,(.od,.tuple [.int i,.str l[i]]),[none,none,none,some (.al,.int i),some (.al,.str l[i]),none,none],jT rfl (λj g d' e=>?_),ry.old,rfl,λQu F3 xM T=>?_⟩
   ·rw[ci]at e;split at e<;>cases e
   obtain⟨v3,QI,r3⟩:=xM.sl 3 .al (.int i) rfl;obtain⟨v4,QJ,r4⟩:=xM.sl 4 .al (.str l[i]) rfl;cases r3;obtain⟨rfl,QK⟩:=r4;have QL:=T.rest 1 dc;have QM:=T.rest 2 dc;obtain⟨b0,b1,b2,b3,b4,b5,b6,rfl⟩:=Qi T.len;cases QL;cases QM;cases QI;cases QJ;have M:=ll r;have Cs:okS l[i]:=⟨QK,bp (Cj _ M) N.2⟩;have Ub:=bv r G;have Hm:=sH.trans s4;refine zon g0 c0 f0 f1 (s4 _ _ R) (s4 _ _ Cw) lV Cs (ki (Cj _ M) X) n0 (by omega) (by omega) ?_
   have n:(if i=24 then Rx.row i else match bU nb nf (spW 32 l[i]) ks []with
    |none=>.row i
    |some (d,_,sd)=>if hasG ks (pk (spW 32 l[i]) 1)=true then .tw (pk (spW 32 l[i]) 1)else match bM ks sd with
     |some u=>.un u
     |none=>gL nb nf (i+1) (p++[d]) (ks++[(pk (spW 32 l[i]) 1,pk (spW 32 l[i]) 0)]) (l.drop (i+1)))=gL nb nf 0 [] [] l:=n
   have up:∀{c fl:Str} {y:V},kY Z.mg c fl y H Z.E->kY Z.mg c fl y F Z.E:=λ{c fl y} ex C H' dp hC h1 hd s=>ex C H' dp hC (Hm.none h1) hd (Hm.trans s);by_cases vR:i=24
   ·rw[qe vR]at n ⊢;rw[<-n]at q;exact up q
   rw[qf vR]at n ⊢;cases hr:bU nb nf (spW 32 l[i]) ks []with
   |none=>rw[hr]at n;rw[<-n]at q;exact up q
   |some z=>
    obtain⟨d,p',sd⟩:=z;rw[hr]at n
    have n:(if hasG ks (pk (spW 32 l[i]) 1)=true then Rx.tw (pk (spW 32 l[i]) 1)else match bM ks sd with
     |some u=>.un u
     |none=>gL nb nf (i+1) (p++[d]) (ks++[(pk (spW 32 l[i]) 1,pk (spW 32 l[i]) 0)]) (l.drop (i+1)))=gL nb nf 0 [] [] l:=n
    show if hasG ks (pk (spW 32 l[i]) 1)=true then _ else _
    by_cases hm:hasG ks (pk (spW 32 l[i]) 1)=true
    ·rw[qe hm]at n ⊢;rw[<-n]at q;exact up q
    rw[qf hm]at n ⊢;cases hu:bM ks sd with
    |some u=>rw[hu]at n;rw[<-n]at q;exact up q
    |none=>
     rw[hu]at n;intro c5 c6 H5 vv k5 QN QO QQ im vS;refine⟨rfl,r,⟨_,_,_,_,_,rfl⟩,λb o h1 h2 e=>k5 b o h1 h2 (s4 b o (hk b o h1 h2 e)),vs++[vv],p++[d],ks++[(pk (spW 32 l[i]) 1,pk (spW 32 l[i]) 0)],QN,QO,?_,yx pR (by show(imm d&&true)=true;rw[im];rfl),?_,by rw[ax,QG];rfl,by rw[ax,QH];rfl,n⟩
     ·refine Reps.append (Reps.bW (λa o e f=>?_) _ pR rep) ⟨_,_,rfl,QQ,rfl⟩;exact k5 a o (by rintro rfl;rw[R]at e;cases e;exact f) (by rintro rfl;rw[Cw]at e;cases e;exact f) (s4 a o e)
     ·intro y S;rcases bh.mp S with S|S
      ·exact lV y S
      ·rw[ah.mp S];exact vS
  ·have A7:i=l.length:=by omega
   subst A7;refine .inl ⟨?_,?_⟩
   ·have :=wk.stop H' (kp hk);rw[Hl]at this;exact this
   ·rw[ln]at n;rw[<-n]at q;exact⟨.ref A,rfl,q H' A sH ⟨A,vs,rfl,.inl ⟨R,I⟩,Reps.bW (λ_ _ e _=>e) _ pR rep⟩⟩
end
theorem Hn {K:W.Frag}:∀{bs:List Bool} {c:List V},Reps K H B c (bs.map PyData.bool)->c=bs.map V.bl
 | [],c,r=>r
 |b::bs,c,r=>by obtain⟨v,t,rfl,a,r⟩:=r;cases a;rw[Hn r];rfl
theorem Cy (s:Same H a)(h:H dp=none):Same H (jI a dp):=λb o e=>by rw[pM (by rintro rfl;rw[h]at e;cases e)];exact s b o e
namespace Rd
def jN (b1 b2 b3:Bool)(tl:WS):WS:=.seq (.asg 2 (.aZ (.lst (.cons (.gC false "NoPack") (.cons (.gC false "NoSide") (.cons (.gC false "NoReason") (.cons (.gC false "TooMuch") .nil)))))))
 (.seq (.asg 2 (.aZ (.bin .Add (.var 2) (.lst (.cons (.gC false "NoCourt") (.cons (.gC false "Late") (.cons (.gC false "NotAllowed") .nil)))))))
 (.seq (.asg 2 (.aZ (.bin .Add (.var 2) (.lst (.cons (.gC false "NoRuling") (.cons (.gC false "NotYours") (.cons (.not (.gC true "ValueError")) .nil)))))))
 (.seq (.asg 3 (.aZ (.lst (.cons (.gC b1 "NoRow") (.cons (.gC b2 "Twice") (.cons (.gC b3 "Unknown") .nil))))))
 (.seq (.aT (.yf (.tp (.tv (.cmp .In (.bl true) (.var 2)))) (.tc .NotEq (.cnt (.raw 3) (.aZ (.bl true))) (.aZ (.int 1)))) (.seq (.se .bad) .nil) .nil) tl))))
def nB:WS:=jN true false false (.seq (.aT (.tp (.tv (.ix (.var 3) (.int 0)))) (.seq (.ret (.tup (.cons (.aZ (.str "row")) (.cons (.fI "row") .nil)))) .nil) .nil) (.seq (.se .bad) .nil))
def hI (b2 b3:Bool):WS:=jN false b2 b3 (.seq (.aT (.tp (.tv (.ix (.var 3) (.int 0)))) (.seq (.se .bad) .nil) .nil) (.seq (.ret (.tup (.cons (.aZ (.ix (.lst (.cons (.str "twice") (.cons (.str "unknown") .nil))) (.bi "int" (.cons (.ix (.var 3) (.int 2)) .nil)))) (.cons (.fI "name") .nil)))) .nil))
def toldg:WS:=.seq (.tR (.seq (.ret (.bZ 0 (.cons (.raw 0) .nil))) .nil) (.hn "NoRow" (some "row") nB (.hn "Twice" (some "name") (hI true false) (.hn "Unknown" (some "name") (hI false true) .nil))) 1 4) .nil
end Rd
def tU:Rx->D
 |.ok act=>.list act
 |.row k=>.tuple [.str "row",.int k]
 |.tw s=>.tuple [.str "twice",.str s]
 |.un s=>.tuple [.str "unknown",.str s]
def sm (nb:Str->Bool)(d:D):Prop:=nb ""=false/\∀t,d=.str t->okS t/\t.length<LIM/\(spW 10 t).length<=1000
def spTg (K:W.Frag)(nb:Str->Bool)(nf:Str->Option Int):Sp:=λvs H Q _=>∃v d B,vs=[v]/\Rep K H B v d/\sm nb d/\(∀s,jM nb nf d=.tw s\/jM nb nf d=.un s->PyData.strOk s=true)/\∀H' w,Same H H'->Rep K H' (nw H) w (tU (jM nb nf d))->Q w H'
theorem z7l (C:[c,f,h].countP (· ==true)=1)
  (q:∀H' m k l2 b,Same H H'->m=.ref l2->k=.ref b->Rep Z.K H' aJ k (.list [.bool c,.bool f,.bool h])->wS Z tl E [none,none,some m,some k] H'):
  wS Z (Rd.jN c f h tl) E [none,none,none,none] H:=by
 refine⟨[none,none,none,none],F0 H,(.fr,.list [.bool false,.bool false,.bool false,.bool false]),fU,rfl,λX H1 s1 F=>?_⟩;have st:∀{H:Hp} {v:V} {d:D} {B:Ad->Prop},Rep Z.K H B v d->StOk Z.K (F0 H) H [none,none,some v,none] [none,none,some (.od,d),none]:=λ{H v d B} r=>jT rfl λi g G e=>by rcases i with _|_|_|_|i<;>cases e;exact⟨rfl,v,B,rfl,r⟩
 refine⟨_,F0 H1,(.fr,.list [.bool false,.bool false,.bool false,.bool false,.bool false,.bool false,.bool false]),st F,rfl,λm I J L=>?_⟩;refine⟨_,F0 I,(.fr,.list [.bool false,.bool false,.bool false,.bool false,.bool false,.bool false,.bool false,.bool false,.bool false,.bool false]),st L,rfl,λk w M n=>?_⟩;refine⟨_,F0 w,(.fr,.list [.bool c,.bool f,.bool h]),st n,rfl,λY o x y=>?_⟩;have p:=n.same x λ_ z=>z;obtain⟨l2,N,rfl,_,_⟩:=id n;obtain⟨b,s,rfl,t,a⟩:=id y;have a:Reps Z.K o (nw w) s ([c,f,h].map PyData.bool):=a;obtain rfl:=Hn a
 have l:o b=some (.lst ([c,f,h].map V.bl)):=by
  rcases t with⟨l,_⟩|⟨_,z⟩
  ·exact l
  ·exact z.elim
 refine⟨[none,none,some (.od,.list [.bool false,.bool false,.bool false,.bool false,.bool false,.bool false,.bool false,.bool false,.bool false,.bool false]),none],F0 o,false,jT rfl (λi g G e=>?_),rfl,λO u=>?_⟩
 ·rcases i with _|_|_|_|i<;>cases e;exact⟨rfl,_,_,rfl,p⟩
 refine aX ?_;refine⟨.ref b,rfl,.inl ⟨rfl,_,.inl (.inl (u _ _ l))⟩,_,F0 O,_,fU,rfl,λv6 P A Q=>?_⟩;cases Q;refine⟨b,rfl,.inr ⟨_,true,rfl,A _ _ (u _ _ l),?_⟩⟩;rw[C];refine⟨_,F0 P,_,fU,rfl,λv7 H7 R S=>?_⟩;cases S;refine⟨aJ,aJ,.int 1,.int 1,.bool false,rfl,rfl,rfl,λv8 T U W=>?_⟩;cases W;refine⟨_,rfl,aX ?_⟩;have j:=((u.trans A).trans R).trans U;exact q T _ _ l2 b ((((s1.trans J).trans M).trans x).trans j) rfl rfl ((y.same j λ_ z=>z).weak λ_ _=>trivial)
theorem QR (b:Z.xf=some y)(c:∀H B,Rep Z.K H B y d)(q:∀H' w,Same H H'->(∀B,Rep Z.K H' B w (.tuple [.str "row",d]))->f.rt w H'):wS Z Rd.nB f [none,none,none,none] H:=by
 refine z7l dc λH1 m n l2 o s1 p r a=>?_;refine⟨[none,none,none,some (.od,.list [.bool true,.bool false,.bool false])],F0 H1,true,jT rfl (λi g s e=>?_),rfl,λh j=>?_⟩
 ·rcases i with _|_|_|_|i<;>cases e;exact⟨rfl,_,_,rfl,a⟩
 refine bA ?_;refine⟨_,F0 h,_,fU,rfl,λw u k a=>?_⟩;obtain⟨rfl,eB⟩:=a;have ex:wE Z (.fI "row")=λ_ H Q=>Q y H:=by show(match Z.xf with|some v=>(λ_ H Q=>Q v H:TE)|none=>eE)=_;rw[b]
 have go:∀(σ:L2.St) (H:Hp) (Q:List V->Hp->Prop),Q [y] H->wA Z (.cons (.fI "row") .nil) σ H Q:=λσ H Q z=>by show wE Z (.fI "row") σ H λx H1=>Q [x] H1;rw[ex];exact z
 refine go _ _ _ ⟨(show 2<=av by rw[cb];decide),λt l=>?_⟩;refine q _ (.ref t) (((s1.trans j).trans k).trans (Same.upd l)) λB=>⟨t,_,rfl,.inl (.inl bG),⟨_,_,rfl,⟨rfl,eB⟩,_,_,rfl,c _ _,rfl⟩⟩
theorem QS (f:Z.xf=some y)(h:∀H B,Rep Z.K H B y d)(q:∀D w,Same H D->(∀B,Rep Z.K D B w (.tuple [.str "twice",d]))->j.rt w D):wS Z (Rd.hI true false) j [none,none,none,none] H:=by
 refine z7l dc λE k l l2 p s1 r u a=>?_;have b:∀{D:Hp},Same E D->StOk Z.K (F0 D) D [none,none,some k,some l] [none,none,none,some (.od,.list [.bool false,.bool true,.bool false])]:=λ{D} s=>jT rfl λi g A e=>by rcases i with _|_|_|_|i<;>cases e;exact⟨rfl,_,_,rfl,a.same s λ_ z=>z⟩
 refine⟨_,F0 E,false,b (Same.refl _),rfl,λm c=>?_⟩;refine aX ?_;refine⟨_,F0 m,(.fr,.str "twice"),b c,rfl,λw C n a=>?_⟩;obtain⟨rfl,eB⟩:=a;have ex:wE Z (.fI "name")=λ_ H Q=>Q y H:=by show(match Z.xf with|some v=>(λ_ H Q=>Q v H:TE)|none=>eE)=_;rw[f]
 have go:∀(F:L2.St) (H:Hp) (Q:List V->Hp->Prop),Q [y] H->wA Z (.cons (.fI "name") .nil) F H Q:=λF H Q z=>by show wE Z (.fI "name") F H λx E=>Q [x] E;rw[ex];exact z
 refine go _ _ _ ⟨(show 2<=av by rw[cb];decide),λt o=>?_⟩;refine q _ (.ref t) (((s1.trans c).trans n).trans (Same.upd o)) λB=>⟨t,_,rfl,.inl (.inl bG),⟨_,_,rfl,⟨rfl,eB⟩,_,_,rfl,h _ _,rfl⟩⟩
theorem QT (f:Z.xf=some y)(h:∀H B,Rep Z.K H B y d)(q:∀D w,Same H D->(∀B,Rep Z.K D B w (.tuple [.str "unknown",d]))->j.rt w D):wS Z (Rd.hI false true) j [none,none,none,none] H:=by
 refine z7l dc λE k l l2 p s1 r u a=>?_;have b:∀{D:Hp},Same E D->StOk Z.K (F0 D) D [none,none,some k,some l] [none,none,none,some (.od,.list [.bool false,.bool false,.bool true])]:=λ{D} s=>jT rfl λi g A e=>by rcases i with _|_|_|_|i<;>cases e;exact⟨rfl,_,_,rfl,a.same s λ_ z=>z⟩
 refine⟨_,F0 E,false,b (Same.refl _),rfl,λm c=>?_⟩;refine aX ?_;refine⟨_,F0 m,(.fr,.str "unknown"),b c,rfl,λw C n a=>?_⟩;obtain⟨rfl,eB⟩:=a;have ex:wE Z (.fI "name")=λ_ H Q=>Q y H:=by show(match Z.xf with|some v=>(λ_ H Q=>Q v H:TE)|none=>eE)=_;rw[f]
 have go:∀(F:L2.St) (H:Hp) (Q:List V->Hp->Prop),Q [y] H->wA Z (.cons (.fI "name") .nil) F H Q:=λF H Q z=>by show wE Z (.fI "name") F H λx E=>Q [x] E;rw[ex];exact z
 refine go _ _ _ ⟨(show 2<=av by rw[cb];decide),λt o=>?_⟩;refine q _ (.ref t) (((s1.trans c).trans n).trans (Same.upd o)) λB=>⟨t,_,rfl,.inl (.inl bG),⟨_,_,rfl,⟨rfl,eB⟩,_,_,rfl,h _ _,rfl⟩⟩
theorem QU (f0:Z.fn[0]?=some (spAg Z.K Z.mg nb nf))(i:Rep Z.K H B v d)(g:sm nb d)(h:∀s,jM nb nf d=.tw s\/jM nb nf d=.un s->PyData.strOk s=true)(q:∀m w,Same H m->Rep Z.K m (nw H) w (tU (jM nb nf d))->j.rt w m):wS Z Rd.toldg j [some v,none,none,none] H:=by
 show wE _ (.bZ 0 _) _ _ _;rw[kW (by exact f0)];refine⟨v,rfl,v,d,B,rfl,i,g.1,g.2,?_⟩;cases a:jM nb nf d with
 |ok ns=>rw[a]at q;exact λm l s r=>q m _ s r
 |row k=>rw[a]at q;intro C m dp b h0 hd s;refine .inl ⟨C,b,rfl,dp,.int k,rfl,hd,?_⟩;exact QR (d:=.int k) rfl (λ_ _=>rfl) λc w e f=>q c w ((Cy s h0).trans e) (f _)
 |tw z=>rw[a]at q;intro C m dp b h0 hd s;refine .inr (.inl ⟨C,b,rfl,dp,.str z,rfl,hd,?_⟩);exact QS (d:=.str z) rfl (λ_ _=>⟨rfl,h z (.inl a)⟩) λc w e f=>q c w ((Cy s h0).trans e) (f _)
 |un z=>rw[a]at q;intro C m dp b h0 hd s;refine .inr (.inr (.inl ⟨C,b,rfl,dp,.str z,rfl,hd,?_⟩));exact QT (d:=.str z) rfl (λ_ _=>⟨rfl,h z (.inr a)⟩) λc w e f=>q c w ((Cy s h0).trans e) (f _)
structure nD where
 c:Str
 f:List Str
 ms:List (Str×Stmt)
def qP (K:W.Frag)(C:Addr)(c:Str)(m:Str×Stmt):Option (ef×Bool):=match W.findIn K (.ref C) m.1 with
 |some (some (.ref p))=>(match K.lookup p with
  |some ⟨_,_,.func fd,_⟩=>some (fd,W.codeIn K fd.code (c++"."++m.1)&&W.keepIn K (.ref p)&&W.isFn K (.ref p))
  |_=>none)
 |_=>none
def Ho (c:Str)(m:Str×Stmt)(x:ef×Bool):ef×Bool:=(W.fnOf m.1 (c++"."++m.1) (kF m.2) (z0l m.2) (z09 m.2) .none x.1.kwdefaults x.1.doc x.1.pyModule x.1.annotations x.1.code x.1.closureTuple,true)
def yy (K:W.Frag)(r:nD):Option (List Bool×Option (Option Value)×List (Option (Option Value))×List Bool×List (Option (ef×Bool))):=match W.nsIn K bc r.c with
 |some (some (.ref C))=>some ([W.plainGet K C Str.empty,W.hasDictIn K C,W.plainOver K C,W.makesIn K C,W.keepIn K (.ref C)],W.findIn K (.ref C) "__setattr__",r.f.map (λf=>W.findIn K (.ref C) f),r.ms.map (λm=>(qP K C r.c m).isSome),r.ms.map λm=>qP K C r.c m)
 |_=>none
def Hq (K:W.Frag)(r:nD):Option (List Bool×Option (Option Value)×List (Option (Option Value))×List Bool×List (Option (ef×Bool))):=match W.nsIn K bc r.c with
 |some (some (.ref C))=>some ([true,true,true,true,true],some (some (.builtin "object.__setattr__")),r.f.map (λ_=>some none),r.ms.map (λ_=>true),r.ms.map λm=>(qP K C r.c m).map (Ho r.c m))
 |_=>none
def KCq (K:d9->W.Frag)(r:nD):Prop:=∀P,((yy (K P) r).isSome,yy (K P) r)=(true,Hq (K P) r)
theorem KCq_r:KCq=KCq:=rfl
structure ClsAt (K:W.Frag)(r:nD)(C:Addr):Prop where
 ns:W.nsIn K bc r.c=some (some (.ref C))
 cls:Cls K C
 na:∀f∈r.f,z3e K C f
 QV:W.makesIn K C=true
 kp:W.keepIn K (.ref C)=true
 ms:∀m∈r.ms,∃f fd,Fun K m.1 (r.c++"."++m.1) m.2 f fd/\Meth K C m.1 f
theorem QW {K:W.Frag}{C:Addr}(h:(qP K C c m).isSome=true)(e:qP K C c m=(qP K C c m).map (Ho c m)):∃f fd,Fun K m.1 (c++"."++m.1) m.2 f fd/\Meth K C m.1 f:=by
 cases z:qP K C c m with
 |none=>rw[z]at h;cases h
 |some x=>
  rw[z]at e;have e:=qg e;unfold qP at z;split at z
  ·rename_i f hf;split at z
   ·rename_i oc od fd sl g;have z:=qg z;have i:=congrArg ph z;have b:=congrArg qb z;have j:=congrArg ph e;have k:=congrArg qb e;rw[k]at b;obtain⟨a,l⟩:=ba.mp b;obtain⟨a,d⟩:=ba.mp a;subst i;exact⟨f,x.1,⟨⟨oc,od,x.1.kwdefaults,x.1.doc,x.1.pyModule,x.1.annotations,x.1.code,x.1.closureTuple,sl,j,g,a⟩,d⟩,⟨hf,l,d⟩⟩
   ·cases z
  ·cases z
theorem QX {K:d9->W.Frag}(h:KCq K r)(P:d9):∃C,ClsAt (K P) r C:=by
 obtain⟨b,c⟩:=qh (h P);unfold yy Hq at c;unfold yy at b;split at c
 ·rename_i C i;obtain⟨a,d⟩:=qh (qg c);obtain⟨d,e⟩:=qh d;obtain⟨e,g⟩:=qh e;obtain⟨g,j⟩:=qh g;obtain⟨k,a⟩:=List.cons.inj a;obtain⟨l,a⟩:=List.cons.inj a;obtain⟨n,a⟩:=List.cons.inj a;obtain⟨o,a⟩:=List.cons.inj a;obtain⟨p,_⟩:=List.cons.inj a;exact⟨C,i,⟨k,l,n,d⟩,λf hf=>cz.mp e f hf,o,p,λm hm=>QW (cz.mp g m hm) (cz.mp j m hm)⟩
 ·rename_i hn;split at b
  ·rename_i C i;simp_all
  ·cases b
end Mi
name_quick tkcq for Mi.KCq by Mi.KCq_r
namespace Mi
open PySem PySem.Spec PyProof.Rows L2
structure XRow where
 c:Str
 fl:Str
 B:Str
 cs:List (Str×Bool)
 st:Stmt
abbrev XD:=List Bool×List (Option (Option Value))×List (Option Bool)×List (Option (Bool×Option Value×Option Bool))×ef
def Hr (K:W.Frag)(A:Addr)(y:Str×Bool):Option (Bool×Option Value×Option Bool):=match W.nsIn K bc y.1 with
 |some (some (.ref E))=>some ((W.clsIn K E).isSome,W.typeIn K (.ref E),W.subIn K (.ref A) (.ref E))
 |_=>none
def qQ (K:W.Frag)(r:XRow):Option XD:=match W.nsIn K bc r.c,W.nsIn K bc r.B with
 |some (some (.ref A)),some (some (.ref D))=>(match K.lookup A with
  |some ⟨.type "type",_,.cls cd,_⟩=>(match W.nsIn K cd.ns "__init__"with
   |some (some (.ref f))=>(match K.lookup f with
    |some ⟨_,_,.func fd,_⟩=>some ([gG K A,cd.hasDict,W.isFn K (.ref f),W.codeIn K fd.code (r.c++"."++"__init__"),gG K D,(W.clsIn K A).isSome,W.keepIn K (.ref f)],
     [W.findIn K (.ref A) "__setattr__",W.findIn K (.ref A) r.fl,W.findIn K (.ref A) "__getattribute__",W.findIn K (.ref A) "__getattr__",W.findIn K (.ref A) "__class__"],
     [W.subIn K (.ref A) (.type "object"),W.subIn K (.ref A) (.type "BaseException"),W.subIn K (.ref A) (.type "ValueError"),W.subIn K (.ref A) (.ref D)],r.cs.map (Hr K A),fd)
    |_=>none)
   |_=>none)
  |_=>none)
 |_,_=>none
def Hs (r:XRow)(x:XD):XD:=([true,true,true,true,true,true,true],[some (some (.builtin "object.__setattr__")),some none,some (some (.builtin "BaseException.__getattribute__")),some none,some (some (.builtin "object.__class__"))],[some true,some true,some true,some true],r.cs.map (λy=>some (true,some (.type "type"),some y.2)),W.fnOf "__init__" (r.c++"."++"__init__") (kF r.st) (z0l r.st) (z09 r.st) .none x.2.2.2.2.kwdefaults x.2.2.2.2.doc x.2.2.2.2.pyModule x.2.2.2.2.annotations x.2.2.2.2.code x.2.2.2.2.closureTuple)
def Ht (K:W.Frag)(g:Str×Int):Option Int:=match W.nsIn K bc g.1 with
 |some (some (.int n _))=>some n
 |_=>none
def KXq (K:d9->W.Frag)(rs:List XRow)(gs:List (Str×Int)):Prop:=∀P,(rs.map (λr=>(qQ (K P) r).isSome),rs.map (λr=>qQ (K P) r),gs.map (Ht (K P)))=(rs.map (λ_=>true),rs.map (λr=>(qQ (K P) r).map (Hs r)),gs.map λg=>some g.2)
theorem KXq_r:KXq=KXq:=rfl
structure XAt (K:W.Frag)(r:XRow)(A D f:Addr)(fd:ef):Prop where
 ns:W.nsIn K bc r.c=some (some (.ref A))
 nb:W.nsIn K bc r.B=some (some (.ref D))
 xf:XF K A r.fl
 xa:XA K A
 xi:XI K A f
 fu:Fun K "__init__" (r.c++"."++"__init__") r.st f fd
 ed:gG K D=true
 sd:W.subIn K (.ref A) (.ref D)=some true
 sv:W.subIn K (.ref A) (.type "ValueError")=some true
 cs:∀y∈r.cs,∃E,W.nsIn K bc y.1=some (some (.ref E))/\(W.clsIn K E).isSome=true/\W.typeIn K (.ref E)=some (.type "type")/\W.subIn K (.ref A) (.ref E)=some y.2
theorem QY {K:W.Frag}(h:(qQ K r).isSome=true)(e:qQ K r=(qQ K r).map (Hs r)):∃A D f fd,XAt K r A D f fd:=by
 cases z:qQ K r with
 |none=>rw[z]at h;cases h
 |some x=>
  rw[z]at e;have e:=qg e;unfold qQ at z;split at z
  ·rename_i A D t u;split at z
   ·rename_i dd cd sl d;split at z
    ·rename_i f hf;split at z
     ·rename_i oc od fd g i;have z:=qg z;rw[<-z]at e;obtain⟨a,e⟩:=qh e;obtain⟨b,e⟩:=qh e;obtain⟨c,e⟩:=qh e;obtain⟨v,w⟩:=qh e;obtain⟨m,a⟩:=List.cons.inj a;obtain⟨B,a⟩:=List.cons.inj a;obtain⟨C,a⟩:=List.cons.inj a;obtain⟨F,a⟩:=List.cons.inj a;obtain⟨G,a⟩:=List.cons.inj a;obtain⟨H,a⟩:=List.cons.inj a;obtain⟨I,_⟩:=List.cons.inj a;obtain⟨J,b⟩:=List.cons.inj b;obtain⟨L,b⟩:=List.cons.inj b;obtain⟨n,b⟩:=List.cons.inj b;obtain⟨o,b⟩:=List.cons.inj b;obtain⟨M,_⟩:=List.cons.inj b;obtain⟨p,c⟩:=List.cons.inj c;obtain⟨s,c⟩:=List.cons.inj c;obtain⟨N,c⟩:=List.cons.inj c;obtain⟨O,_⟩:=List.cons.inj c;refine⟨A,D,f,fd,t,u,⟨m,λj k l q=>by rw[d]at q;cases q;exact B,J,L,n,o,p,s⟩,⟨M,n,o,p,s,?_,H,m⟩,⟨λj k l q=>by rw[d]at q;cases q;exact hf,C⟩,⟨⟨oc,od,fd.kwdefaults,fd.doc,fd.pyModule,fd.annotations,fd.code,fd.closureTuple,g,w,i,F⟩,I⟩,G,O,N,λy P=>?_⟩
      ·show(K.lookup A).map (·.cls)=_;rw[d];rfl
      ·have q:=cz.mp v y P;unfold Hr at q;split at q
       ·rename_i E Q;obtain⟨R,q⟩:=qh (qg q);obtain⟨S,T⟩:=qh q;exact⟨E,Q,R,S,T⟩
       ·cases q
     ·cases z
    ·cases z
   ·cases z
  ·cases z
theorem Hu {K:d9->W.Frag}(h:KXq K rs j)(P:d9):(∀r∈rs,∃A D f fd,XAt (K P) r A D f fd)/\∀g∈j,∃t,W.nsIn (K P) bc g.1=some (some (.int g.2 t)):=by
 obtain⟨c,a⟩:=qh (h P);obtain⟨a,d⟩:=qh a;refine⟨λr b=>QY (cz.mp c r b) (cz.mp a r b),λg i=>?_⟩;have q:=cz.mp d g i;unfold Ht at q;split at q
 ·rename_i n t e;cases q;exact⟨t,e⟩
 ·cases q
end Mi
name_quick tkxq for Mi.KXq by Mi.KXq_r
namespace Mk
open PySem Mi
def vT:S:=(.seq (.ret (.and (.eP (.var 0) ["str"]) (.and (.chain .LtE .LtE (.int 1) (.bi "len" (.cons (.var 0) .nil)) (.int 12)) (.and (.mJ "all" (.tv (.comp 1 [] ["sign"] (.nm 0) (.tv (.var 0)) .nil (.chain .LtE .LtE (.str "a") (.var 0) (.str "z"))))) (.cmp .NotIn (.var 0) (.glob 0 "NO_NAMES")))))) .nil)
def F_z0:Fn:=bC [(.tuple [(.str "and"),(.str "or"),(.str "not"),(.str "if"),(.str "is"),(.str "some"),(.str "all"),(.str "for"),(.str "against")])] [] 1 vT
def vU:S:=(.seq (.aT (.not (.tv (.chain .LtE .LtE (.int 1) (.bi "len" (.cons (.var 0) .nil)) (.int 31))))
 (.seq (.ret .non)
 .nil)
 .nil)
 (.seq (.aT (.not (.tv (.mJ "all" (.tv (.comp 1 [] ["sign"] (.nm 0) (.tv (.var 0)) .nil (.chain .LtE .LtE (.str "0") (.var 0) (.str "9")))))))
 (.seq (.ret .non)
 .nil)
 .nil)
 (.seq (.aT (.and (.tv (.cmp .Eq (.ix (.var 0) (.int 0)) (.str "0"))) (.tv (.cmp .Gt (.bi "len" (.cons (.var 0) .nil)) (.int 1))))
 (.seq (.ret .non)
 .nil)
 .nil)
 (.seq (.ret (.bi "int" (.cons (.var 0) .nil)))
 .nil))))
def sr:Fn:=bC [] [] 1 vU
def vV:S:=(.seq (.ret (.bin .Mod (.bin .Mult (.bin .Add (.bin .Add (.bin .Mod (.var 0) (.bin .Pow (.int 10) (.int 15))) (.bin .Mult (.bin .Mult (.int 104729) (.var 1)) (.var 1))) (.int 11)) (.int 48271)) (.int 2147483647))) .nil)
def pU:Fn:=bC [] [] 2 vV
def vW:S:=(.seq (.aT (.tv (.cmp .In (.var 0) (.lst (.cons (.str "and") (.cons (.str "or") (.cons (.str "not") (.cons (.str "if") (.cons (.str "is") (.cons (.str "some") (.cons (.str "all") (.cons (.str "for") (.cons (.str "against") .nil))))))))))))
 (.seq (.ret (.bin .Add (.var 0) (.str "x")))
 .nil)
 .nil)
 (.seq (.ret (.var 0))
 .nil))
def pV:Fn:=bC [] [] 1 vW
def sx:S:=(.seq (.asg (.nm 1) (.str "bcdefghjklmnpqrstuvwxyz"))
 (.seq (.asg (.nm 2) (.call 1 "_law_mixed" (.cons (.var 0) (.cons (.int 0) .nil))))
 (.seq (.asg (.nm 3) (.bin .Mod (.var 2) (.int 11)))
 (.seq (.asg (.nm 4) (.mt "join" (.str "") (.cons (.comp 1 [1,2] ["_law_k","_law_letters","_law_number"] (.nm 0) (.gV (.cons (.var 3) .nil)) .nil (.ix (.var 1) (.bin .Mod (.bin .Add (.bin .FloorDiv (.var 2) (.int 11)) (.bin .Mult (.bin .Mult (.int 5) (.var 0)) (.var 0))) (.int 23)))) .nil)))
 (.seq (.asg (.nm 5) (.bin .Mod (.bin .FloorDiv (.var 2) (.int 253)) (.bin .Add (.var 3) (.int 1))))
 (.seq (.asg (.nm 6) (.comp 1 [1,2] ["_law_k","_law_letters","_law_number"] (.nm 0) (.gV (.cons (.int 23) .nil)) .nil (.ix (.var 1) (.bin .Mod (.bin .Add (.bin .FloorDiv (.var 2) (.int 7)) (.bin .Mult (.int 3) (.var 0))) (.int 23)))))
 (.seq (.aT (.tv (.cmp .Eq (.bin .Mod (.var 0) (.int 2)) (.int 1)))
 (.seq (.asg (.nm 1) (.str "abcdefghijklmnopqrstuvwxyz"))
 (.seq (.asg (.nm 2) (.bin .FloorDiv (.var 0) (.int 2)))
 (.seq (.asg (.nm 3) (.bin .Mod (.var 2) (.int 11)))
 (.seq (.asg (.nm 5) (.bin .Mod (.bin .FloorDiv (.var 2) (.int 11)) (.bin .Add (.var 3) (.int 1))))
 (.seq (.asg (.nm 6) (.comp 1 [1,2] ["_law_k","_law_letters","_law_number"] (.nm 0) (.gV (.cons (.int 23) .nil)) .nil (.ix (.var 1) (.bin .Mod (.bin .Add (.bin .FloorDiv (.var 2) (.int 132)) (.bin .Mult (.int 3) (.var 0))) (.int 26)))))
 (.seq (.asg (.nm 2) (.bin .FloorDiv (.var 2) (.int 3432)))
 (.seq (.asg (.nm 4) (.str ""))
 (.seq (.bO (.nm 7) (.gV (.cons (.var 3) .nil))
 (.seq (.asg (.nm 4) (.bin .Add (.var 4) (.ix (.var 1) (.bin .Mod (.var 2) (.int 26)))))
 (.seq (.asg (.nm 2) (.bin .FloorDiv (.var 2) (.int 26)))
 .nil)))
 .nil))))))))
 .nil)
 (.seq (.asg (.nm 8) (.comp 1 [4,5] ["_law_sign","_law_stem","_law_at"] (.nm 0) (.tv (.var 6)) .nil (.call 0 "_law_good_name" (.cons (.bin .Add (.bin .Add (.sl (.var 1) .nil (.tv (.var 2))) (.var 0)) (.sl (.var 1) (.tv (.var 2)) .nil)) .nil))))
 (.seq (.ret (.bin .Add (.var 8) (.comp 1 [] ["_law_name"] (.nm 0) (.tv (.sl (.var 8) .nil (.tv (.int 4)))) .nil (.bin .Add (.var 0) (.str "x")))))
 .nil)))))))))
def lA:Fn:=bC [] [pV,pU] 9 sx
def sA:S:=(.seq (.asg (.nm 2) (.lst .nil))
 (.seq (.asg (.nm 3) (.bin .FloorDiv (.var 0) (.int 2)))
 (.seq (.bO (.nm 4) (.gV (.cons (.var 1) .nil))
 (.seq (.asg (.nm 5) (.bin .Mod (.bin .Mult (.bin .Add (.bin .Add (.bin .Mod (.var 0) (.int 1000000007)) (.bin .Mult (.bin .Mult (.int 7919) (.var 4)) (.var 4))) (.int 104729)) (.int 48271)) (.int 2147483629)))
 (.seq (.asg (.nm 5) (.bin .Mod (.bin .Mult (.var 5) (.var 5)) (.int 2147483587)))
 (.seq (.asg (.nm 6) (.bin .FloorDiv (.bin .Mult (.bin .Mult (.bin .Mult (.var 5) (.bin .Add (.var 5) (.int 1))) (.int 69621)) (.bin .Add (.bin .Add (.var 5) (.var 4)) (.int 2))) (.int 97)))
 (.seq (.mut "append" 2 (.cons (.bin .Mod (.ix (.lst (.cons (.var 6) (.cons (.var 3) .nil))) (.bin .Mod (.var 0) (.int 2))) (.bin .Pow (.int 10) (.int 34))) .nil))
 (.seq (.asg (.nm 3) (.bin .FloorDiv (.var 3) (.bin .Pow (.int 10) (.int 34))))
 .nil))))))
 (.seq (.ret (.var 2))
 .nil))))
def lB:Fn:=bC [] [] 7 sA
def pW:S:=(.seq (.asg (.nm 2) (.bin .Mod (.var 0) (.int 10)))
 (.seq (.asg (.nm 3) (.bin .FloorDiv (.var 0) (.int 10)))
 (.seq (.aT (.tv (.cmp .Lt (.var 2) (.int 3)))
 (.seq (.ret (.tup (.cons (.str "is") (.cons (.ix (.var 1) (.bin .Mod (.var 3) (.int 6))) .nil))))
 .nil)
 .nil)
 (.seq (.aT (.tv (.cmp .Lt (.var 2) (.int 6)))
 (.seq (.asg (.nm 4) (.lst (.cons (.int 1) (.cons (.bin .Add (.int 2) (.bin .Mod (.bin .FloorDiv (.var 3) (.int 12)) (.int 5))) (.cons (.bin .Pow (.int 10) (.int 30)) (.cons (.bin .Add (.bin .Mod (.bin .FloorDiv (.var 3) (.int 12)) (.bin .Pow (.int 10) (.int 30))) (.int 1)) .nil))))))
 (.seq (.ret (.tup (.cons (.str "at") (.cons (.ix (.var 1) (.bin .Mod (.var 3) (.int 3))) (.cons (.bi "str" (.cons (.ix (.var 4) (.bin .Mod (.bin .FloorDiv (.var 3) (.int 3)) (.int 4))) .nil)) .nil)))))
 .nil))
 .nil)
 (.seq (.aT (.tv (.cmp .Eq (.var 2) (.int 6)))
 (.seq (.ret (.tup (.cons (.str "at") (.cons (.ix (.var 1) (.bin .Mod (.var 3) (.int 9))) (.cons (.bi "str" (.cons (.bin .Add (.int 1) (.bin .Mod (.bin .FloorDiv (.var 3) (.int 9)) (.int 3))) .nil)) .nil)))))
 .nil)
 .nil)
 (.seq (.aT (.tv (.cmp .Eq (.var 2) (.int 7)))
 (.seq (.ret (.tup (.cons (.str "is") (.cons (.ix (.var 1) (.bin .Mod (.var 3) (.int 10))) .nil))))
 .nil)
 .nil)
 (.seq (.ret (.tup (.cons (.str "is") (.cons (.ix (.var 1) (.bin .Mod (.var 3) (.int 3))) .nil))))
 .nil)))))))
def lC:Fn:=bC [] [] 5 pW
def sD:S:=(.seq (.asg (.nm 2) (.lst .nil))
 (.seq (.bO (.nm 3) (.tv (.var 0))
 (.seq (.aT (.and (.tv (.cmp .Gt (.bi "len" (.cons (.var 2) .nil)) (.int 1))) (.tv (.cmp .Lt (.bin .Mod (.var 3) (.int 5)) (.int 2))))
 (.seq (.pop 4 2)
 (.seq (.pap 2 (.ix (.lst (.cons (.str "and") (.cons (.str "or") .nil))) (.bin .Mod (.bin .FloorDiv (.var 3) (.int 5)) (.int 2))) (.cons (.var 4) .nil))
 .nil))
 (.seq (.aT (.and (.tv (.cmp .Gt (.bi "len" (.cons (.var 2) .nil)) (.int 0))) (.tv (.cmp .Eq (.bin .Mod (.var 3) (.int 5)) (.int 2))))
 (.seq (.pap 2 (.str "not") .nil)
 .nil)
 (.seq (.mut "append" 2 (.cons (.call 0 "_law_leaf" (.cons (.bin .FloorDiv (.var 3) (.int 5)) (.cons (.var 1) .nil))) .nil))
 .nil))
 .nil))
 .nil))
 (.seq (.wh 100000 (.tv (.cmp .Gt (.bi "len" (.cons (.var 2) .nil)) (.int 1)))
 (.seq (.pop 4 2)
 (.seq (.pap 2 (.ix (.lst (.cons (.str "or") (.cons (.str "and") .nil))) (.bin .Mod (.bi "len" (.cons (.var 2) .nil)) (.int 2))) (.cons (.var 4) .nil))
 .nil)))
 (.seq (.ret (.ix (.var 2) (.int 0)))
 .nil))))
def iL:Fn:=bC [] [lC] 5 sD
def vX:S:=(.seq (.aT (.tv (.cmp .Eq (.ix (.var 0) (.int 0)) (.str "at")))
 (.seq (.ret (.bin .Add (.bin .Add (.ix (.var 0) (.int 1)) (.str " >= ")) (.ix (.var 0) (.int 2))))
 .nil)
 .nil)
 (.seq (.aT (.tv (.cmp .Eq (.ix (.var 0) (.int 0)) (.str "is")))
 (.seq (.ret (.ix (.var 0) (.int 1)))
 .nil)
 .nil)
 (.seq (.aT (.tv (.cmp .Eq (.bi "len" (.cons (.var 0) .nil)) (.int 2)))
 (.seq (.ret (.bin .Add (.bin .Add (.ix (.var 0) (.int 0)) (.str " ")) (.call 0 "_law_text" (.cons (.ix (.var 0) (.int 1)) .nil))))
 .nil)
 .nil)
 (.seq (.ret (.bin .Add (.bin .Add (.bin .Add (.bin .Add (.bin .Add (.bin .Add (.str "( ") (.call 0 "_law_text" (.cons (.ix (.var 0) (.int 1)) .nil))) (.str " ")) (.ix (.var 0) (.int 0))) (.str " ")) (.call 0 "_law_text" (.cons (.ix (.var 0) (.int 2)) .nil))) (.str " )")))
 .nil))))
def vY:S:=(.seq .bad (.seq .bad (.seq .bad (.seq .bad .nil))))
def fX:Nat->Fn
 |0=>bC [] [] 1 vY
 |k+1=>bC [] [fX k] 1 vX
def Hv:S:=(.seq (.aT (.or (.tv (.cmp .Eq (.ix (.var 0) (.int 0)) (.str "at"))) (.tv (.cmp .Eq (.ix (.var 0) (.int 0)) (.str "is"))))
 (.seq (.ret (.int 1))
 .nil)
 .nil)
 (.seq (.ret (.bin .Add (.int 1) (.mJ "max" (.tv (.comp 1 [] ["_law_part"] (.nm 0) (.tv (.sl (.var 0) (.tv (.int 1)) .nil)) .nil (.call 0 "_law_depth" (.cons (.var 0) .nil)))))))
 .nil))
def Hw:S:=(.seq .bad (.seq .bad .nil))
def pX:Nat->Fn
 |0=>bC [] [] 1 Hw
 |k+1=>bC [] [pX k] 1 Hv
def Hx:S:=(.seq (.aT (.or (.tv (.cmp .Eq (.ix (.var 0) (.int 0)) (.str "at"))) (.tv (.cmp .Eq (.ix (.var 0) (.int 0)) (.str "is"))))
 (.seq (.ret (.lst (.cons (.var 0) .nil)))
 .nil)
 .nil)
 (.seq (.asg (.nm 1) (.lst .nil))
 (.seq (.bO (.nm 2) (.tv (.sl (.var 0) (.tv (.int 1)) .nil))
 (.seq (.asg (.nm 1) (.bin .Add (.var 1) (.call 0 "_law_leaves" (.cons (.var 2) .nil))))
 .nil))
 (.seq (.ret (.var 1))
 .nil))))
def Hy:S:=(.seq .bad (.seq .bad (.seq .bad (.seq .bad .nil))))
def qR:Nat->Fn
 |0=>bC [] [] 3 Hy
 |k+1=>bC [] [qR k] 3 Hx
def Hz:S:=(.seq (.aT (.tv (.cmp .Eq (.ix (.var 0) (.int 0)) (.str "at")))
 (.seq (.ret (.tup (.cons (.str "at") (.cons (.ix (.var 0) (.int 1)) (.cons (.bi "int" (.cons (.ix (.var 0) (.int 2)) .nil)) .nil)))))
 .nil)
 .nil)
 (.seq (.aT (.and (.tv (.cmp .Eq (.ix (.var 0) (.int 0)) (.str "is"))) (.tv (.cmp .In (.ix (.var 0) (.int 1)) (.var 1))))
 (.seq (.ret (.tup (.cons (.str "at") (.cons (.ix (.var 0) (.int 1)) (.cons (.int 1) .nil)))))
 .nil)
 .nil)
 (.seq (.aT (.tv (.cmp .Eq (.ix (.var 0) (.int 0)) (.str "is")))
 (.seq (.ret (.var 0))
 .nil)
 .nil)
 (.seq (.ret (.mJ "tuple" (.tv (.bin .Add (.lst (.cons (.ix (.var 0) (.int 0)) .nil)) (.comp 1 [1] ["_law_part","_law_facts"] (.nm 0) (.tv (.sl (.var 0) (.tv (.int 1)) .nil)) .nil (.call 0 "_law_looked" (.cons (.var 0) (.cons (.var 1) .nil))))))))
 .nil))))
def HA:S:=(.seq .bad (.seq .bad (.seq .bad (.seq .bad .nil))))
def nG:Nat->Fn
 |0=>bC [] [] 2 HA
 |k+1=>bC [] [nG k] 2 Hz
def HB:S:=(.seq (.asg (.nm 1) (.comp 1 [] ["_law_name"] (.nm 0) (.tv (.sl (.var 0) .nil (.tv (.int 3)))) .nil (.bin .Add (.str "fact ") (.var 0))))
 (.seq (.mut "append" 1 (.cons (.bin .Add (.bin .Add (.bin .Add (.bin .Add (.bin .Add (.str "open ") (.ix (.var 0) (.int 3))) (.str " for ")) (.ix (.var 0) (.int 0))) (.str " against ")) (.ix (.var 0) (.int 1))) .nil))
 (.seq (.mut "append" 1 (.cons (.bin .Add (.bin .Add (.bin .Add (.str "word ") (.ix (.var 0) (.int 4))) (.str " if ")) (.ix (.var 0) (.int 3))) .nil))
 (.seq (.mut "append" 1 (.cons (.bin .Add (.bin .Add (.bin .Add (.str "open ") (.ix (.var 0) (.int 5))) (.str " for against ")) (.ix (.var 0) (.int 4))) .nil))
 (.seq (.ret (.bin .Add (.var 1) (.lst (.cons (.bin .Add (.bin .Add (.bin .Add (.str "claim ") (.ix (.var 0) (.int 6))) (.str " if some ")) (.ix (.var 0) (.int 2))) .nil))))
 .nil)))))
def tV:Fn:=bC [] [] 2 HB
def HC:S:=(.seq (.asg (.nm 1) (.bin .Add (.comp 1 [] ["_law_name"] (.nm 0) (.tv (.sl (.var 0) .nil (.tv (.int 3)))) .nil (.tup (.cons (.str "fact") (.cons (.var 0) .nil)))) (.lst (.cons (.tup (.cons (.str "open") (.cons (.ix (.var 0) (.int 3)) (.cons (.tup (.cons (.ix (.var 0) (.int 0)) .nil)) (.cons (.tup (.cons (.ix (.var 0) (.int 1)) .nil)) .nil))))) .nil))))
 (.seq (.asg (.nm 1) (.bin .Add (.var 1) (.lst (.cons (.tup (.cons (.str "word") (.cons (.ix (.var 0) (.int 4)) (.cons (.tup (.cons (.str "is") (.cons (.ix (.var 0) (.int 3)) .nil))) .nil)))) (.cons (.tup (.cons (.str "open") (.cons (.ix (.var 0) (.int 5)) (.cons (.tup .nil) (.cons (.tup (.cons (.ix (.var 0) (.int 4)) .nil)) .nil))))) .nil)))))
 (.seq (.ret (.bin .Add (.var 1) (.lst (.cons (.tup (.cons (.str "claim") (.cons (.ix (.var 0) (.int 6)) (.cons (.tup (.cons (.str "some") (.cons (.tup (.cons (.str "at") (.cons (.ix (.var 0) (.int 2)) (.cons (.int 1) .nil)))) .nil))) .nil)))) .nil))))
 .nil)))
def tW:Fn:=bC [] [] 2 HC
def Cz:S:=(.seq (.bO (.nm 2) (.tv (.call 0 "_law_leaves" (.cons (.var 0) .nil)))
 (.seq (.asg (.nm 3) (.ix (.var 2) (.int 1)))
 (.seq (.aT (.or (.tv (.cmp .NotIn (.var 3) (.sl (.var 1) .nil (.tv (.int 6))))) (.and (.tv (.cmp .Eq (.ix (.var 2) (.int 0)) (.str "at"))) (.tv (.cmp .NotIn (.var 3) (.sl (.var 1) .nil (.tv (.int 3)))))))
 (.seq (.ret (.var 3))
 .nil)
 .nil)
 .nil)))
 (.seq (.ret .non)
 .nil))
def tX:Fn:=bC [] [(qR 8)] 4 Cz
def HD:S:=(.seq (.aT (.tv (.eP (.var 1) ["str"]))
 (.seq (.ret (.and (.eP (.var 0) ["str"]) (.cmp .Eq (.var 0) (.var 1))))
 .nil)
 .nil)
 (.seq (.aT (.tv (.eP (.var 1) ["int"]))
 (.seq (.ret (.and (.eP (.var 0) ["int"]) (.and (.not (.eP (.var 0) ["bool"])) (.cmp .Eq (.var 0) (.var 1)))))
 .nil)
 .nil)
 (.seq (.aT (.or (.tv (.cmp .NotEq (.eP (.var 1) ["tuple"]) (.eP (.var 0) ["tuple"]))) (.tv (.cmp .NotEq (.eP (.var 1) ["list"]) (.eP (.var 0) ["list"]))))
 (.seq (.ret (.bl false))
 .nil)
 .nil)
 (.seq (.aT (.tv (.cmp .NotEq (.bi "len" (.cons (.var 0) .nil)) (.bi "len" (.cons (.var 1) .nil))))
 (.seq (.ret (.bl false))
 .nil)
 .nil)
 (.seq (.bO (.tp [2,3]) (.zip (.var 0) (.var 1))
 (.seq (.aT (.not (.tv (.call 0 "_law_alike" (.cons (.var 2) (.cons (.var 3) .nil)))))
 (.seq (.ret (.bl false))
 .nil)
 .nil)
 .nil))
 (.seq (.ret (.bl true))
 .nil))))))
def HE:S:=(.seq .bad (.seq .bad (.seq .bad (.seq .bad (.seq .bad (.seq .bad .nil))))))
def fM:Nat->Fn
 |0=>bC [] [] 4 HE
 |k+1=>bC [] [fM k] 4 HD
def CB:S:=(.seq (.asg (.nm 3) (.lst .nil))
 (.seq (.bO (.nm 4) (.gV (.cons (.var 2) .nil))
 (.seq (.asg (.nm 5) (.ix (.var 0) (.bin .Mult (.int 7) (.var 4))))
 (.seq (.aT (.and (.tv (.cmp .Gt (.bi "len" (.cons (.var 3) .nil)) (.int 1))) (.tv (.cmp .Lt (.bin .Mod (.var 5) (.int 5)) (.int 2))))
 (.seq (.pop 6 3)
 (.seq (.pap 3 (.ix (.lst (.cons (.str "and") (.cons (.str "or") .nil))) (.bin .Mod (.bin .FloorDiv (.var 5) (.int 5)) (.int 2))) (.cons (.var 6) .nil))
 .nil))
 (.seq (.aT (.and (.tv (.cmp .Gt (.bi "len" (.cons (.var 3) .nil)) (.int 0))) (.tv (.cmp .Eq (.bin .Mod (.var 5) (.int 5)) (.int 2))))
 (.seq (.pap 3 (.str "not") .nil)
 .nil)
 (.seq (.asg (.nm 7) (.call 0 "_law_tree" (.cons (.sl (.var 0) (.tv (.bin .Add (.bin .Mult (.int 7) (.var 4)) (.int 1))) (.tv (.bin .Add (.bin .Add (.bin .Mult (.int 7) (.var 4)) (.int 2)) (.bin .Mod (.bin .FloorDiv (.var 5) (.int 10)) (.int 6))))) (.cons (.var 1) .nil))))
 (.seq (.mut "append" 3 (.cons (.tup (.cons (.ix (.lst (.cons (.str "some") (.cons (.str "all") .nil))) (.bin .Mod (.bin .FloorDiv (.var 5) (.int 5)) (.int 2))) (.cons (.var 7) .nil))) .nil))
 .nil)))
 .nil))
 .nil)))
 (.seq (.wh 100000 (.tv (.cmp .Gt (.bi "len" (.cons (.var 3) .nil)) (.int 1)))
 (.seq (.pop 6 3)
 (.seq (.pap 3 (.ix (.lst (.cons (.str "or") (.cons (.str "and") .nil))) (.bin .Mod (.bi "len" (.cons (.var 3) .nil)) (.int 2))) (.cons (.var 6) .nil))
 .nil)))
 (.seq (.ret (.ix (.var 3) (.int 0)))
 .nil))))
def tY:Fn:=bC [] [iL] 8 CB
def CC:S:=(.seq (.aT (.tv (.cmp .Eq (.bin .Mod (.var 1) (.int 3)) (.int 0)))
 (.seq (.ret (.call 0 "_law_tree" (.cons (.sl (.var 2) .nil (.tv (.bin .Add (.int 1) (.bin .Mod (.bin .FloorDiv (.var 1) (.int 3)) (.int 6))))) (.cons (.var 3) .nil))))
 .nil)
 .nil)
 (.seq (.aT (.tv (.cmp .Eq (.bin .Mod (.var 1) (.int 3)) (.int 1)))
 (.seq (.ret (.tup (.cons (.ix (.lst (.cons (.str "and") (.cons (.str "or") .nil))) (.bin .Mod (.bin .FloorDiv (.var 1) (.int 3)) (.int 2))) (.cons (.var 0) (.cons (.tup (.cons (.str "is") (.cons (.ix (.var 3) (.int 0)) .nil))) .nil)))))
 .nil)
 .nil)
 (.seq (.ret (.tup (.cons (.str "some") (.cons (.var 0) .nil))))
 .nil)))
def tZ:Fn:=bC [] [iL] 4 CC
theorem nV {b:Str}(h:a.cps.toList=b.cps.toList):a=b:=by
 cases a with
 |mk x=>
  cases b with
  |mk y=>rw[show x=y from Array.ext' h]
theorem cY (a b:Str):(a++b).cps.toList=a.cps.toList++b.cps.toList:=by show(a.cps++b.cps).toList=_;rw[m9]
theorem nW (z:Str)(a:List Str):(z0t z a).cps.toList=dO z.cps.toList a:=by show(dO z.cps.toList a).toArray.toList=_;rw[List.toList_toArray]
theorem vZ (z:Str):z.length=z.cps.toList.length:=by rw[cv];rfl
theorem nH (h:a.length+b.length<=100000):cL .Add (.str a) (.str b)=.ok (.str (a++b)):=by show(if a.length+b.length<=LIM then _ else _)=_;rw[qe (by unfold LIM;omega)]
theorem v_add (c:Ev Κ Φ s ρ (.str a))(d:Ev Κ Φ t ρ (.str b))(h:a.length+b.length<=100000):Vv Κ Φ (.bin .Add s t) ρ (.str (a++b)):=aF c d (nH h) rfl
theorem HF:∀a,fC (a.map .str)=some a
 | []=>rfl
 |b::bs=>by rw[br];show(fC (bs.map .str)).map (b:: ·)=_;rw[HF bs];rfl
theorem QZ (h:rJ z a<=LIM):mtD "join" (.str z) [.list (a.map .str)]=.ok (.str (z0t z a)):=by
 show(match fC (a.map .str)with|some a=>if rJ z a<=LIM then Res.ok (PyData.str (z0t z a))else .no|none=>.no)=_;rw[HF]
 dsimp only
 rw[qe h]
theorem nX (h:Ev Κ Φ t ρ (.int i)):Tt Κ Φ (.tv (.cmp .Eq t (.int j))) ρ (decide (i=j)):=bF (eD (k:=decide (i=j)) h aE.e (by show Res.ok (cC (.int _) (.int _))=_;rw[Gz])).e rfl
theorem hV (h:0<b)(c:b<2 ^ 200):cL .FloorDiv (.int a) (.int b)=.ok (.int (a/b)):=by show(if _ then _ else _)=_;rw[qe ⟨h,c⟩]
theorem Q0 (cs:List Int):biD "len" [.list (cs.map .int)]=.ok (.int (cs.length:Int)):=by show Res.ok (PyData.int ((cs.map PyData.int).length:Int))=_;rw[ak]
theorem Q1 {a c:Type}(f:a->c)(b:List a)(i j:Option Int):cut (b.map f) i j=(cut b i j).map f:=by unfold cut;rw[ak,List.map_take,List.map_drop]
def Nx (I:Rho->Prop)(z:Res Out):Prop:=∃dZ,z=.ok (.nx dZ)/\I dZ
theorem lX (h:I a):Nx I (aK Κ Φ .nil a):=⟨a,pI,h⟩
theorem yz (a:imm d=true):fB (.nm j) (gJ d g,d) ρ=.ok (ρ.set j (some (.al,d))):=by rw[lS a];rfl
theorem q_nm {Q:Res Out->Prop}{c:Type}{m:c->D}{xs:List c}(h:evF Κ Φ e n=.ok (g,xs.map m,d))(hm:∀x,imm (m x)=true)(I:List c->Rho->Prop)(h0:I [] d)
  (hf:∀pre x a n,xs=pre++x::a->I pre n->Nx (I (pre++[x])) (aK Κ Φ p (n.set j (some (.al,m x))))) (hk:∀b,I xs b->Q (aK Κ Φ rest b)):Q (aK Κ Φ (.seq (.bO (.nm j) e p) rest) n):=
 zvq h I h0 (λpre x a n f i=>by obtain⟨b,k,l⟩:=hf pre x a n f i;exact⟨_,b,yz (hm x),k,l⟩) hk
theorem Q3 {a:Type}{m:a->D}(h:∀x,imm (m x)=true)(b:List a):imms (b.map m)=true:=mH.mpr λx c=>by obtain⟨p,_,rfl⟩:=cr.mp c;exact h p
theorem yA (h:imm d=true):z0g (some (.al,d))=some (.al,d):=by show(if imm d=true then some (G.al,d)else none)=_;rw[qe h]
theorem HG {p:Type}{m:p->D}{Q:Res Out->Prop}(I:List p->Rho->Prop):∀j pre v,(∀k x l v,pre++j=k++x::l->I k v->(∃i,f (m x) v=.ok (.nx i)/\I (k++[x]) i)\/∃g d,f (m x) v=.ok (.rt g d)/\Q (.ok (.rt g d)))->I pre v->(∃i,cG f (j.map m) v=.ok (.nx i)/\I (pre++j) i)\/∃g d,cG f (j.map m) v=.ok (.rt g d)/\Q (.ok (.rt g d))
 | [],pre,v,_,h=>.inl ⟨v,rfl,by rw[bx];exact h⟩
 |x::j,pre,v,hf,h=>by
  rcases hf pre x j v rfl h with⟨i,e,t⟩|⟨g,d,e,q⟩
  ·have s:pre++x::j=(pre++[x])++j:=by simp
   rcases HG I j (pre++[x]) i (λa b c r hh=>hf a b c r (s.trans hh)) t with⟨n,o,u⟩|⟨g,d,o,q⟩
   ·exact .inl ⟨n,by rw[br];show(match f (m x) v with|.ok (.nx i)=>cG f (j.map m) i|.ok (.ct i)=>cG f (j.map m) i|.ok (.bk i)=>.ok (.nx i)|.ok (.rt g d)=>.ok (.rt g d)|.exc e=>.exc e|.no=>.no)=_;rw[e];exact o,by rw[s];exact u⟩
   ·exact .inr ⟨g,d,by rw[br];show(match f (m x) v with|.ok (.nx i)=>cG f (j.map m) i|.ok (.ct i)=>cG f (j.map m) i|.ok (.bk i)=>.ok (.nx i)|.ok (.rt g d)=>.ok (.rt g d)|.exc e=>.exc e|.no=>.no)=_;rw[e];exact o,q⟩
  ·exact .inr ⟨g,d,by rw[br];show(match f (m x) v with|.ok (.nx i)=>cG f (j.map m) i|.ok (.ct i)=>cG f (j.map m) i|.ok (.bk i)=>.ok (.nx i)|.ok (.rt g d)=>.ok (.rt g d)|.exc e=>.exc e|.no=>.no)=_;rw[e],q⟩
theorem zl9 {Q:Res Out->Prop}{k:Type}{m:k->D}{xs:List k}(h:evF Κ Φ s ρ=.ok (g,xs.map m,j))(I:List k->Rho->Prop)(h0:I [] j)
  (hf:∀pre x c ρ,xs=pre++x::c->I pre ρ->∃a,fB o (gJ (m x) g,m x) ρ=.ok a/\(Nx (I (pre++[x])) (aK Κ Φ p a)\/∃g d,aK Κ Φ p a=.ok (.rt g d)/\Q (.ok (.rt g d)))) (hk:∀b,I xs b->Q (aK Κ Φ rest b)):Q (aK Κ Φ (.seq (.bO o s p) rest) ρ):=by
 rcases HG (f:=λx j=>fB o (gJ x g,x) j>>=λa=>aK Κ Φ p a) I xs [] j (λpre x c ρ t u=>by
  obtain⟨a,e,hh⟩:=hf pre x c ρ t u;rcases hh with⟨b,l,n⟩|⟨r,d,l,n⟩
  ·exact .inl ⟨b,by rw[e,Res.aB,l],n⟩
  ·exact .inr ⟨r,d,by rw[e,Res.aB,l],n⟩) h0 with⟨b,e,i⟩|⟨r,d,e,q⟩
 ·rw[hF (B7 h e) rfl];exact hk b i
 ·rw[bY (B7 h e)];exact q
theorem Q4 {a:Type}{b:List a}{x:a×Nat}(h:x∈b.zipIdx):b[x.2]?=some x.1:=List.mem_zipIdx_iff_getElem?.mp h
def pY (w:Str):Bool:=([.str "and",.str "or",.str "not",.str "if",.str "is",.str "some",.str "all",.str "for",.str "against"]:List D).any λy=>cC y (.str w)
def gn (w:Str):Str:=if pY w then w++"x"else w
theorem Q5 (h:w.length<=100):pV [.str w]=.ok (.fr,.str (gn w)):=by
 refine eT ?_;have a:Tt [] [] (.tv (.cmp .In (.var 0) (.lst (.cons (.str "and") (.cons (.str "or") (.cons (.str "not") (.cons (.str "if") (.cons (.str "is") (.cons (.str "some") (.cons (.str "all") (.cons (.str "for") (.cons (.str "against") .nil)))))))))))) [some (.od,.str w)] (pY w):=bF (eD (aD rfl) (Ev.of (gH (aQ aY (aQ aY (aQ aY (aQ aY (aQ aY (aQ aY (aQ aY (aQ aY (aQ aY (bT)))))))))))) rfl).e rfl;unfold gn;cases hk:pY w with
 |true=>refine iS a hk (bY (dA (aF (aD rfl) aY.e (add_str (by have:("x":Str).length=1:=rfl;omega)) rfl)))
 |false=>exact fT a hk (bY (dA (v_var rfl rfl)))
theorem CD:("abcdefghijklmnopqrstuvwxyz":Str).length=26:=rfl
theorem CF:("bcdefghjklmnpqrstuvwxyz":Str).length=23:=rfl
def p1 (c:Nat):Bool:=decide (97<=c)&&decide (c<=122)
def p2 (c:Nat):Bool:=p1 c&& !(c==97)&& !(c==105)&& !(c==111)
def Ch (p:Nat->Bool)(w:Str):Prop:=∀c∈w.cps.toList,p c=true
theorem Ch.app (e:Ch p a)(f:Ch p b):Ch p (a++b):=λc g=>by
 have d:c∈(a.cps++b.cps).toList:=g;rw[m9]at d;rcases bh.mp d with h|h
 ·exact e c h
 ·exact f c h
theorem Ch.sl (d:Ch p a)(i j:Option Int):Ch p (jQ a i j):=λc e=>by
 have b:c∈cut a.cps.toList i j:=by have h0:c∈(cut a.cps.toList i j).toArray.toList:=e;simpa using h0
 exact d c (ik (il b))
theorem Ch.chr {i:Int}(h:Ch p z)(h0:0<=i)(a:i<z.length):Ch p (Mk.chr z i):=λc b=>by rw[ah.mp b];refine h _ (getD_mem h0 ?_);exact a
theorem Ch.weak (h:Ch p z)(a:∀c,p c=true->q c=true):Ch q z:=λc b=>a c (h c b)
theorem Ch.nil:Ch p "":=λc a=>by cases a
theorem Q6 (c:Nat)(h:p2 c=true):p1 c=true:=by unfold p2 at h;rw[ba,ba,ba]at h;exact h.1.1.1
theorem Ch.join (h:∀s∈b,Ch p s):Ch p (z0t "" b):=λc d=>by
 have a:c∈(dO ("":Str).cps.toList b).toArray.toList:=d;cases b with
 |nil=>cases a
 |cons x r=>
  simp only[dO,bh,lm,cr]at a;rcases a with a|⟨l,⟨y,e,rfl⟩,a⟩
  ·exact h x aj c a
  ·rcases bh.mp a with a|a
   ·cases a
   ·exact h y (ai _ e) c a
theorem HH:Ch p1 "abcdefghijklmnopqrstuvwxyz":=λc a=>bj.mp (by decide+kernel) c a
theorem Q7:Ch p2 "bcdefghjklmnpqrstuvwxyz":=λc a=>bj.mp (by decide+kernel) c a
structure NW (w:Str):Prop where
 l1:1<=w.length
 l2:w.length<=12
 ch:Ch p1 w
 kp:pY w=false
def t2:List Str:=["and","or","not","if","is","some","all","for","against"]
theorem yB (w:Str):pY w=true↔w∈t2:=by
 show(t2.map PyData.str).any (λy=>cC y (.str w))=true↔_;rw[List.any_map,jt];constructor
 ·rintro⟨x,b,h⟩
  have a:(x==w)=true:=h;rw[beq_iff_eq]at a;rw[<-a];exact b
 ·intro h;exact⟨w,h,by show(w==w)=true;rw[beq_self_eq_true]⟩
theorem Q8 (b:1<=w.length)(d:w.length<=12)(h:Ch p1 w):NW (gn w):=by
 unfold gn;cases hk:pY w with
 |false=>rw[qf ca];exact⟨b,d,h,hk⟩
 |true=>
  rw[qe rfl];have e:Ch p1 ("x":Str):=λc f=>by rw[ah.mp f];rfl
  have g:∀v∈t2,v.length<=11/\pY (v++"x")=false:=by decide+kernel
  have a:=g w ((yB w).mp hk);refine⟨by rw[bD];omega,by rw[bD];have:("x":Str).length=1:=rfl;omega,h.app e,a.2⟩
theorem Q9 (z:Str)(h:0<=i):(jQ z none (some i)).length+(jQ z (some i) none).length=z.length:=by
 have e:∀a b,(jQ z a b).length=(cut z.cps.toList a b).length:=λa b=>by show((cut z.cps.toList a b).toArray).size=_;rw[bn]
 rw[e,e,vZ];generalize z.cps.toList=l;unfold cut;have s:Mi.bE l.length 0 (some i)=min i.toNat l.length:=qf (by omega);have c:Mi.bE l.length l.length (some i)=min i.toNat l.length:=qf (by omega);rw[s,c,c8,c8,dh,dh];show min (min i.toNat l.length-0) l.length+min (l.length-min i.toNat l.length) (l.length-min i.toNat l.length)=_;have:=Nat.min_le_right i.toNat l.length;generalize min i.toNat l.length=k at this;omega
theorem nY (hm:∀x,imm (m x)=true)(d:Ev Κ Φ a ρ (.list (xs.map m)))(e:Oo Κ Φ b ρ i)(f:Oo Κ Φ c ρ j):aG Κ Φ (.sl a b c) ρ=.ok (.fr,.list ((cut xs i j).map m)):=by obtain⟨g,d⟩:=d;rw[vD,d,Res.aB,e,Res.aB,f,Res.aB];rw[show qF (.list (xs.map m)) i j=.ok (.list (cut (xs.map m) i j))from rfl,Q1];show Res.ok (if imms ((cut xs i j).map m)=true then G.fr else _,_)=_;rw[qe (Q3 hm _)]
theorem CG:Ch p1 ("x":Str):=λc a=>by rw[ah.mp a];rfl
theorem HI:Ch p1 "bcdefghjklmnpqrstuvwxyz":=Q7.weak Q6
theorem Q' (c:Int)(h0:0<=k)(a:k<=100):∃n,0<=n/\pU [.int c,.int k]=.ok (.fr,.int n):=by refine⟨(c%1000000000000000+104729*k*k+11)*48271%2147483647,i8 _ dc,?_⟩;exact eT (bY (dA (aF (aF (aF (aF (aF (aD rfl) (aF aE.e aE.e rfl rfl).e (cM dc) rfl).e (aF (aF aE.e (aD rfl) (rZ dc) rfl).e (aD rfl) (mY ⟨by omega,by omega⟩) rfl).e rfl rfl).e aE.e rfl rfl).e aE.e (mY dc) rfl).e aE.e (cM dc) rfl)))
section
variable {Κ:List D}{Φ:List Fn}{ρ:Rho}{c:C}{k:Bool}{p q rest:S}{Q:Res Out->Prop}
theorem HJ (b:Tt Κ Φ c ρ k)(d:k=true->Nx (λa=>Q (aK Κ Φ rest a)) (aK Κ Φ p ρ))(f:k=false->Nx (λa=>Q (aK Κ Φ rest a)) (aK Κ Φ q ρ)):Q (aK Κ Φ (.seq (.aT c p q) rest) ρ):=by
 cases k with
 |true=>obtain⟨a,e,z⟩:=d rfl;exact aO (ya b (λ_=>e) nofun) z
 |false=>obtain⟨a,e,z⟩:=f rfl;exact aO (ya b nofun λ_=>e) z
theorem HK (b:Tt Κ Φ c ρ k)(d:k=true->Nx (λa=>Q (aK Κ Φ rest a)) (aK Κ Φ p ρ))(e:k=false->Q (aK Κ Φ rest ρ)):Q (aK Κ Φ (.seq (.aT c p .nil) rest) ρ):=HJ b d λh=>⟨_,pI,e h⟩
theorem qS (a:Tt Κ Φ c ρ k)(b:k=true->∃g d,aK Κ Φ p ρ=.ok (.rt g d)/\Q (.ok (.rt g d)))(f:k=false->Q (aK Κ Φ rest ρ)):Q (aK Κ Φ (.seq (.aT c p .nil) rest) ρ):=by
 cases k with
 |true=>obtain⟨g,d,e,z⟩:=b rfl;rw[iS a rfl e];exact z
 |false=>exact pJ a rfl (f rfl)
end
def Np (ns:List Str):Prop:=ns.length=27/\(∀w∈ns,NW w)/\(ns.take 10).Nodup
theorem Ra (fK:z.cps.toList.Nodup)(a:0<=i)(b:i<z.length)(c:0<=j)(d:j<z.length)(e:chr z i=chr z j):i=j:=by have e:=congrArg (λs:Str=>s.cps.toList) e;have e:=List.head_eq_of_cons_eq e;have f:=vZ z;rw[ao,ao,bo (by omega),bo (by omega)]at e;have:=(List.getElem_inj fK).mp e;omega
theorem Rb (h:w.length<=11):(gn w).length<=11:=by
 unfold gn;split
 ·rename_i hk;have a:∀v∈t2,v.length<=7:=by decide+kernel
  have:=a w ((yB w).mp hk);rw[bD];have:("x":Str).length=1:=rfl;omega
 ·exact h
theorem Rc (h:a++("x":Str)=b++"x"):a=b:=by have e:=congrArg (λs:Str=>s.cps.toList) h;rw[cY,cY]at e;exact nV (la e)
theorem Rf (c:a.length=b.length)(h:gn a=gn b):a=b:=by
 have d:("x":Str).length=1:=rfl;unfold gn at h;split at h<;>split at h
 ·exact Rc h
 ·have :=congrArg Str.length h;rw[bD]at this;omega
 ·have :=congrArg Str.length h;rw[bD]at this;omega
 ·exact h
theorem CH (h:v.length<=11)(n:NW v):NW (v++"x"):=by
 have b:("x":Str).length=1:=rfl;refine⟨by rw[bD];omega,by rw[bD];omega,n.ch.app CG,?_⟩;cases hk:pY (v++"x")with
 |false=>rfl
 |true=>
  have a:∀k∈t2,k.cps.toList.getLast?≠some 120:=by decide+kernel
  refine absurd ?_ (a _ ((yB _).mp hk));rw[cY,show("x":Str).cps.toList=[120]from by decide+kernel,List.getLast?_append];rfl
theorem zhs {a:Type}{m:a->D}{p:List a}(f:a->Str)(c:evW Κ Φ d ρ=.ok w)(g:w.2=p.map m)(r:a->Rho)
  (i:∀x∈p,fB k (gJ (m x) w.1,m x) (bd l none++n.map λj=>fP (ρ.getD j none))=.ok (r x)) (o:∀x∈p,Vv Κ Φ b (r x) (.str (f x))):
  aG Κ Φ (.comp l n N' k d .nil b) ρ=.ok (.fr,.list ((p.map f).map .str)):=by
 have e:=z4i (N':=N') (λ_=>true) (λx=>.str (f x)) c g r i (λ_ _=>r6) λx h _=>o x h;rw[fv.mpr λ_ _=>rfl]at e;rw[e,dv];rfl
theorem sgn (o:z.length=b.toNat)(d:Ch p1 z)(fK:z.cps.toList.Nodup)(f:b=23\/b=26)(q:ρ[1]?=some (some (.al,.str z)))(r:ρ[2]?=some (some (.al,.int n)))(hm:0<m/\m<2 ^ 200):∃c:List Str,(c.length=23/\(∀s∈c,s.length=1/\Ch p1 s)/\c.Nodup)/\aG [] Φ (.comp 1 [1,2] ["_law_k","_law_letters","_law_number"] (.nm 0) (.gV (.cons (.int 23) .nil)) .nil (.ix (.var 1) (.bin .Mod (.bin .Add (.bin .FloorDiv (.var 2) (.int m)) (.bin .Mult (.int 3) (.var 0))) (.int b)))) ρ=.ok (.fr,.list (c.map .str)):=by
 have h:0<b:=by omega
 have p:∀k:Nat,0<=(n/m+3*(k:Int))%b/\(n/m+3*(k:Int))%b<z.length:=λk=>⟨i8 _ (by omega),by have:=ol (n/m+3*(k:Int)) h;rw[o];omega⟩;refine⟨(dm 23).map λ(k:Nat)=>chr z ((n/m+3*(k:Int))%b),⟨by rw[ak,du],λs hs=>?_,?_⟩,zhs (m:=λi:Nat=>PyData.int i) _ (B5 (aV aE.e bL) (tQ (by omega) (by omega))) rfl (λk=>[some (.al,.int k),some (.al,.str z),some (.al,.int n)]) (λk _=>by show fB (.nm 0) _ ([none]++[fP (ρ.getD 1 none),fP (ρ.getD 2 none)])=_;rw[ao,ao,q,r];rfl) λk _=>aS (aD rfl) (aF (aF (aF (aD rfl) aE.e (hV hm.1 hm.2) rfl).e (aF aE.e (aD rfl) (rZ (by decide)) rfl).e rfl rfl).e aE.e (cM h) rfl).e (sY (p k).1 (p k).2 (by omega)) rfl⟩
 ·obtain⟨k,_,rfl⟩:=cr.mp hs;exact⟨rfl,d.chr (p k).1 (p k).2⟩
 ·refine pj.mpr (lb (λ{i j} t l g e=>g ?_) List.nodup_range);have t:=ew.mp t;have l:=ew.mp l;have:=Ra fK (p i).1 (p i).2 (p j).1 (p j).2 e;generalize n/m=a at this;rcases f with rfl|rfl<;>omega
abbrev HL:List Fn:=[pV,pU]
theorem Rh (c:Int):∃ns,Np ns/\lA [.int c]=.ok (.fr,.list (ns.map .str)):=by
 let Q:Res Out->Prop:=λr=>∃ns,Np ns/\r=.ok (.rt .fr (.list (ns.map .str)))
 suffices h:Q (aK [] HL sx [some (.od,.int c),none,none,none,none,none,none,none,none]) by obtain⟨ns,B,X⟩:=h;exact⟨ns,B,eT X⟩
 obtain⟨n,n0,Y⟩:=Q' c (k:=0) (by decide) (by decide);have bs:∀k:Nat,∀s,s=chr "bcdefghjklmnpqrstuvwxyz" ((n/11+5*(k:Int)*k)%23)->s.length=1/\Ch p1 s:=λk s h=>by rw[h];exact⟨rfl,HI.chr (by omega) (by rw[CF];omega)⟩
 have D:∀s∈(dm (n%11).toNat).map λ(k:Nat)=>chr "bcdefghjklmnpqrstuvwxyz" ((n/11+5*(k:Int)*k)%23),s.length=1/\Ch p1 s:=λs h=>by obtain⟨k,_,e⟩:=cr.mp h;exact bs k s e.symm
 have P:=λs h=>(D s h).1;have Z:((dm (n%11).toNat).map λ(k:Nat)=>chr "bcdefghjklmnpqrstuvwxyz" ((n/11+5*(k:Int)*k)%23)).length<=10:=by rw[ak,du];omega
 refine aO (dE aY) (aO (dE (eX (aV (aD rfl) (aV aE.e bL)) rfl Y rfl)) (aO (dE (aF (aD rfl) aE.e (cM (by decide)) rfl)) (aO (dE (vF aY.e (aV (Ev.of (zhs (m:=λi:Nat=>PyData.int i) (λk=>chr "bcdefghjklmnpqrstuvwxyz" ((n/11+5*(k:Int)*k)%23)) (B5 (aV (aD rfl) bL) (tQ (by omega) (by omega))) rfl (λk=>[some (.al,.int k),some (.al,.str "bcdefghjklmnpqrstuvwxyz"),some (.al,.int n)]) (λk _=>rfl) (λk hk=>by
  have Cw:=by have:=ew.mp hk;omega
  exact aS (aD rfl) (aF (aF (aF (aD rfl) aE.e rfl rfl).e (aF (aF aE.e (aD rfl) (rZ (by decide)) rfl).e (aD rfl) (mY (by omega)) rfl).e rfl rfl).e aE.e (cM (by decide)) rfl).e (sY (by omega) (by rw[CF];omega) (by rw[CF];omega)) rfl))) bL) (Pl P (by omega)) rfl)) (aO (dE (aF (aF (aD rfl) aE.e rfl rfl).e (aF (aD rfl) aE.e rfl rfl).e (cM (by omega)) rfl)) ?_))))
 have E:=Pk _ P;have t:=Ch.join λs h=>(D s h).2;generalize z0t "" _=d at E t;have R:0<=n/253%(n%11+1):=i8 _ (by omega);generalize n/253%(n%11+1)=f at R;obtain⟨sg,J,K⟩:=sgn (ρ:=[some (.od,.int c),some (.al,.str "bcdefghjklmnpqrstuvwxyz"),some (.al,.int n),some (.al,.int (n%11)),some (.al,.str d),some (.al,.int f),none,none,none]) (m:=7) rfl HI (by decide+kernel) (.inl rfl) rfl rfl (by decide);refine aO (iR K (nT _)) ?_
 suffices fin:∀{S T U C:Option GD} {d:Str} {f:Int} {l:List Str},d.length<=10->Ch p1 d->0<=f->(l.length=23/\(∀s∈l,s.length=1/\Ch p1 s)/\l.Nodup)->Q (aK [] HL _ [some (.od,.int c),S,T,U,some (.al,.str d),some (.al,.int f),some (.fr,.list (l.map .str)),C,none]) by
  refine HK (nX (aF (aD rfl) aE.e (cM (by decide)) rfl).e) (λ_=>?_) λ_=>fin (by omega) t R J;have a2:0<=c/2/11%(c/2%11+1):=i8 _ (by omega);obtain⟨sh,L,M⟩:=sgn (ρ:=[some (.od,.int c),some (.al,.str "abcdefghijklmnopqrstuvwxyz"),some (.al,.int (c/2)),some (.al,.int (c/2%11)),some (.al,.str d),some (.al,.int (c/2/11%(c/2%11+1))),some (.fr,.list (sg.map .str)),none,none]) (m:=132) rfl HH (by decide+kernel) (.inr rfl) rfl rfl (by decide);refine aO (dE aY) (aO (dE (aF (aD rfl) aE.e rfl rfl)) (aO (dE (aF (aD rfl) aE.e (cM (by decide)) rfl)) (aO (dE (aF (aF (aD rfl) aE.e rfl rfl).e (aF (aD rfl) aE.e rfl rfl).e (cM (by omega)) rfl)) (aO (iR M (nT _)) (aO (dE (aF (aD rfl) aE.e rfl rfl)) (aO (dE aY) ?_))))));refine q_nm (yc (aV (aD rfl) bL) (tQ (by omega) (by omega))) (λ_=>rfl) (λpre F=>∃q st C,F=[some (.od,.int c),some (.al,.str "abcdefghijklmnopqrstuvwxyz"),some (.al,.int q),some (.al,.int (c/2%11)),some (.al,.str st),some (.al,.int (c/2/11%(c/2%11+1))),some (.fr,.list (sh.map .str)),C,none]/\st.length=pre.length/\Ch p1 st) ⟨c/2/3432,"",none,rfl,rfl,Ch.nil⟩ ?_ ?_
  ·rintro pre x V F u ⟨q,st,C,rfl,G,g⟩
   have hp:=congrArg fj u;simp only[du,ax,ay]at hp;refine aO (dE (v_add (aD rfl) (aS (aD rfl) (aF (aD rfl) aE.e (cM (by decide)) rfl).e (sY (by omega) (by rw[CD];omega) (by rw[CD];omega)) rfl).e (by rw[Gv];omega))) (aO (dE (aF (aD rfl) aE.e rfl rfl)) (lX ⟨q/26,_,some (.al,.int x),rfl,by rw[bD,Gv,ax,G];rfl,g.app (HH.chr (by omega) (by rw[CD];omega))⟩))
  ·rintro F ⟨q,st,C,rfl,G,g⟩
   rw[du]at G;exact lX (fin (by omega) g a2 L)
 intro S T U C d f l hs g h0 ⟨G,B,fK⟩;have hc:=Q9 d h0
 let w:Str->Str:=λs=>jQ d none (some f)++s++jQ d (some f) none
 have o:∀s∈l,(w s).length=d.length+1:=λs p=>by rw[bD,bD,(B s p).1];omega
 refine aO (iR (zhs (λs=>gn (w s)) (eR rfl rfl) rfl (λs=>[some (.al,.str s),some (.al,.str d),some (.al,.int f)]) (λs _=>rfl) (λs u=>eX (aV (v_add (v_add (r0 (aD rfl) lQ (iQ (aD rfl)) (xn (by omega)) rfl).e (aD rfl) (by have:=(B s u).1;omega)).e (r0 (aD rfl) (iQ (aD rfl)) lQ (xn (by omega)) rfl).e (by rw[bD];have:=(B s u).1;omega)).e bL) rfl (Q5 (by have:=o s u;show(w s).length<=_;omega)) rfl)) (nT _)) ?_;have j:∀v∈l.map (λs=>gn (w s)),v.length<=11/\NW v:=λv H=>by obtain⟨s,p,rfl⟩:=cr.mp H;have:=o s p;exact⟨Rb (by omega),Q8 (by omega) (by omega) (((g.sl _ _).app (B s p).2).app (g.sl _ _))⟩
 have I:(l.map λs=>gn (w s)).Nodup:=by refine pj.mpr (lb (λ{a b} ha hb N e=>N ?_) fK);have e:=congrArg (λs:Str=>s.cps.toList) (Rf ((o a ha).trans (o b hb).symm) e);rw[cY,cY,cY,cY]at e;exact nV (List.append_cancel_left (la e))
 have y:(l.map λs=>gn (w s)).length=23:=by rw[ak];exact G
 generalize (l.map λs=>gn (w s))=ns at j y I;have O:(cut ns none (some 4)).length=4:=by unfold cut;simp only[Mi.bE,qf (show ¬(4:Int)<0 by omega),c8,dh,y];omega
 have A:∀v∈cut ns none (some 4),v∈ns:=λv H=>ik (il H);refine⟨ns++(cut ns none (some 4)).map λ(v:Str)=>v++"x",⟨by rw[ax,ak,y,O],λv H=>?_,by rw[List.take_append_of_le_length (by omega)];exact I.sublist (oy _ _)⟩,bY (x9 nofun (qL (aD rfl) (Ev.of (zhs (λv=>v++"x") (eR (nY (λ_=>rfl) (aD rfl) lQ (iQ aE.e)) rfl) rfl (λv=>[some (.al,.str v)]) (λv _=>rfl) (λv u=>v_add (aD rfl) aY.e (by have:=j v (A v u);have:("x":Str).length=1:=rfl;omega)))) (by rw[add_list (by simp only[ak];omega),<-b8]) (nT _)))⟩;rcases bh.mp H with h|h
 ·exact(j v h).2
 ·obtain⟨z,W,rfl⟩:=cr.mp h;exact CH (j z (A z W)).1 (j z (A z W)).2
theorem yC (d:Ev Κ Φ a ρ x)(e:Ev Κ Φ b ρ y)(f:Ev Κ Φ c ρ z)(h:cmpD i x y=.ok k)(j:cmpD g y z=.ok l):Vv Κ Φ (.chain i g a b c) ρ (.bool (k&&l)):=by
 obtain⟨m,d⟩:=d;obtain⟨g2,e⟩:=e;obtain⟨n,f⟩:=f;refine⟨?_,rfl⟩;rw[Pq,d,Res.aB,e,Res.aB];rw[h,Res.aB];cases k with
 |true=>rw[f,Res.aB,j];rfl
 |false=>rfl
theorem len_str (h:w.length<=LIM):biD "len" [.str w]=.ok (.int (w.length:Int)):=by show(if w.length<=LIM then _ else _)=_;rw[qe h]
theorem Ri (h:Κ[k]?=some d)(a:imm d=true):Vv Κ Φ (.glob k x) ρ d:=by
 refine⟨?_,a⟩;show(match Κ[k]? with|some d=>if imm d=true then Res.ok (G.fr,d)else .no|none=>.no)=_;rw[h]
 dsimp only
 rw[qe a]
theorem CJ:∀bs,allB (bs.map .bool)=some bs
 | []=>rfl
 |b::bs=>by rw[br];show(allB (bs.map .bool)).map (b:: ·)=_;rw[CJ bs];rfl
def isn (w:Str):Bool:=(decide ((1:Int)<=w.length)&&decide ((w.length:Int)<=12))&&(w.cps.toList.all p1&& !pY w)
theorem pZ (a b:Nat):decide ([a]< [b])=decide (a<b):=by
 rw[decide_eq_decide];constructor
 ·intro h;cases h with
  |rel h=>exact h
  |cons h=>cases h
 ·exact λh=>.rel h
theorem HM (b:w.length<=LIM):F_z0 [.str w]=.ok (.fr,.bool (isn w)):=by
 refine eT ?_;have g:z4q (.str w)=.ok (w.cps.toList.map λc=>PyData.str ⟨#[c]⟩):=by show(if w.length<=LIM then _ else _)=_;rw[qe b]
 have d:=z4i (Κ:=[(.tuple [(.str "and"),(.str "or"),(.str "not"),(.str "if"),(.str "is"),(.str "some"),(.str "all"),(.str "for"),(.str "against")])]) (Φ:=[]) (ρ:=[some (.od,.str w)]) (nt:=1) (js:=[]) (N':=["sign"]) (tg:=.nm 0) (it:=.tv (.var 0)) (elt:=.chain .LtE .LtE (.str "a") (.var 0) (.str "z")) (λ_=>true) (λc=>.bool (p1 c)) (eR (v_var rfl rfl).1 g) rfl (λc=>[some (.al,.str ⟨#[c]⟩)]) (λc _=>rfl) (λc _=>r6)
  (λc _ _=>by
   refine yC aY.e (aD rfl) aY.e ?_ ?_
   ·show Res.ok (!decide ([c]< [97]))=_;rw[pZ,<-decide_not]
    congr 1
    rw[decide_eq_decide];omega
   ·show Res.ok (!decide ([122]< [c]))=_;rw[pZ,<-decide_not]
    congr 1
    rw[decide_eq_decide];omega)
 rw[fv.mpr λ_ _=>rfl]at d;have h:aggD "all" true (w.cps.toList.map λc=>PyData.bool (p1 c))=.ok (.bool (w.cps.toList.all p1)):=by have f:=CJ (w.cps.toList.map p1);rw[dv]at f;show Res.fJ ((allB (w.cps.toList.map λc=>PyData.bool (p1 c))).map λbs=>PyData.bool (bs.all id))=_;rw[show(w.cps.toList.map λc=>PyData.bool (p1 c))=w.cps.toList.map (PyData.bool∘p1)from rfl,f];show Res.ok (PyData.bool ((w.cps.toList.map p1).all id))=_;rw[lx];rfl
 refine bY (dA ?_);exact v_and (k:=true) (kT (Κ:=[(.tuple [(.str "and"),(.str "or"),(.str "not"),(.str "if"),(.str "is"),(.str "some"),(.str "all"),(.str "for"),(.str "against")])]) (Φ:=[]) (ρ:=[some (.od,.str w)]) (a:=.var 0) (ts:=["str"]) (aD rfl)).e λ_=>v_and (yC aE.e (eU (aV (aD rfl) bL) (len_str b) rfl).e aE.e rfl rfl).e λ_=>v_and (x8 (Ev.of d) rfl h rfl).e λ_=>eD (aD rfl) (Ri rfl rfl).e rfl
def ac (c:Nat):Bool:=decide (c<128)&& !(c==10)
def lR (w:Str):Prop:=Ch ac w
theorem v5 (h:Ch p1 w):lR w:=h.weak λc z=>by unfold p1 at z;unfold ac;rw[au,decide_eq_true_eq,decide_eq_true_eq]at z;rw[au,decide_eq_true_eq];exact⟨by omega,by simp;omega⟩
theorem Rj (h:w.cps.toList.all ac=true):lR w:=λc a=>bj.mp h c a
theorem Rk (h:lR w):PyData.strOk w=true:=by unfold PyData.strOk;rw[<-jq,bj];intro c a;have:=h c a;unfold ac at this;rw[au,decide_eq_true_eq]at this;simp;omega
theorem Rl (h:lR w):10∉w.cps.toList:=λz=>by have:=h 10 z;revert this;decide
theorem CK (h:Ch p1 w):32∉w.cps.toList:=λz=>by have:=h 32 z;revert this;decide
theorem HN:∀n (a:List Str),iO (n+1) (a.map .str)=true
 |_,[]=>rfl
 |n,s::a=>by show(cE (n+1) (.str s)&&iO (n+1) (a.map .str))=true;rw[HN n a];rfl
theorem HP (w:Str)(a:List Str):inD (.str w) (.list (a.map .str))=.ok (decide (w∈a)):=by
 show(if(cE 40 (.str w)&&iO 40 (a.map .str))=true then Res.ok _ else .no)=_;rw[HN 39 a];show Res.ok _=_
 congr 1
 rw[List.any_map,j1,jt,decide_eq_true_iff];constructor
 ·rintro⟨x,b,e⟩
  have e:cC (.str x) (.str w)=true:=e;rw[jU,decide_eq_true_eq]at e;rw[<-e];exact b
 ·exact λh=>⟨w,h,by show cC (.str w) (.str w)=true;rw[jU];simp⟩
theorem CL:isn ""=false:=by decide+kernel
theorem HQ:∀a,zipD a a=a.map λe=>.tuple [e,e]
 | []=>rfl
 |x::a=>by show PyData.tuple [x,x]::zipD a a=_;rw[HQ a];rfl
theorem Rm (h:imms a=true)(b:e∈a):imm e=true:=by
 induction a with
 |nil=>cases b
 |cons x a c=>
  have h:(imm x&&imms a)=true:=h;rw[au]at h;rcases aq.mp b with rfl|b
  ·exact h.1
  ·exact c h.2 b
theorem lY (k:Nat)(s:Str):fM (k+1) [.str s,.str s]=.ok (.fr,.bool true):=by refine eT (iS (bF (kT (aD rfl)).e rfl) rfl (bY (dA (v_and (kT (x:=.str s) (aD rfl)).e λ_=>eD (aD rfl) (aD rfl) ?_))));show Res.ok (cC (.str s) (.str s))=_;rw[jU];simp
theorem CM (k:Nat)(i:Int):fM (k+1) [.int i,.int i]=.ok (.fr,.bool true):=by refine eT (fT (bF (kT (aD rfl)).e rfl) rfl (iS (bF (kT (aD rfl)).e rfl) rfl (bY (dA (v_and (kT (x:=.int i) (aD rfl)).e λ_=>v_and (v_not (kT (x:=.int i) (aD rfl)).e rfl).e λ_=>eD (aD rfl) (aD rfl) ?_)))));show Res.ok (cC (.int i) (.int i))=_;rw[yo];simp
theorem t4 (b:x=.tuple a\/x=.list a)(f:imms a=true)(A:a.length<=100)(s:∀e∈a,fM k [e,e]=.ok (.fr,.bool true)):fM (k+1) [x,x]=.ok (.fr,.bool true):=by
 refine eT ?_
 let Q:Res Out->Prop:=λr=>r=.ok (.rt .fr (.bool true))
 show Q _
 have sq:seqR x=.ok a:=by
  rcases b with rfl|rfl
  ·show(if decide (a.length<=LIM)=true then _ else _)=_;rw[qe (qk (by unfold LIM;omega))]
  ·show(if decide (a.length<=LIM)=true then _ else _)=_;rw[qe (qk (by unfold LIM;omega))]
 have o:biD "len" [x]=.ok (.int a.length):=by rcases b with rfl|rfl<;>rfl
 have t:Tt [] [fM k] (.or (.tv (.cmp .NotEq (.eP (.var 1) ["tuple"]) (.eP (.var 0) ["tuple"]))) (.tv (.cmp .NotEq (.eP (.var 1) ["list"]) (.eP (.var 0) ["list"])))) [some (.od,x),some (.od,x),none,none] (false||false):=by rcases b with rfl|rfl<;>exact pH (bF (eD (kT (aD rfl)).e (kT (aD rfl)).e rfl).e rfl) λ_=>bF (eD (kT (aD rfl)).e (kT (aD rfl)).e rfl).e rfl
 refine pJ (by rcases b with rfl|rfl<;>exact bF (kT (aD rfl)).e rfl) rfl (pJ (by rcases b with rfl|rfl<;>exact bF (kT (aD rfl)).e rfl) rfl (pJ t rfl (pJ (bF (eD (eU (aV (aD rfl) bL) o rfl).e (eU (aV (aD rfl) bL) o rfl).e (by show Res.ok (!cC (.int _) (.int _))=_;rw[yo];simp)).e rfl) rfl ?_)))
 have ev:∀i,i<2->∃g,aG [] [fM k] (.var i) [some (.od,x),some (.od,x),none,none]=.ok (g,x)/\mM (g,x)=true:=λi h=>by
  rcases b with rfl|rfl
  ·rcases i with _|_|i
   ·exact⟨.fr,(v_var (d:=.tuple a) rfl f).1,rfl⟩
   ·exact⟨.fr,(v_var (d:=.tuple a) rfl f).1,rfl⟩
   ·omega
  ·rcases i with _|_|i
   ·exact⟨_,rfl,rfl⟩
   ·exact⟨_,rfl,rfl⟩
   ·omega
 obtain⟨B,u,v⟩:=ev 0 dc;obtain⟨C,w,y⟩:=ev 1 dc;have p:=Bh u w v y sq sq;rw[HQ]at p;refine zl9 p (λpre j=>∃l m,j=[some (.od,x),some (.od,x),l,m]) ⟨none,none,rfl⟩ ?_ ?_
 ·rintro pre e q j n ⟨l,m,rfl⟩
  have hm:e∈a:=by rw[n];simp
  have c:=Rm f hm;refine⟨[some (.od,x),some (.od,x),some (.al,e),some (.al,e)],?_,.inl ?_⟩
  ·have z:gJ (.tuple [e,e]) .al=.fr:=lS (by show(imm e&&(imm e&&true))=true;rw[c];rfl);rw[z];show Res.ok [some (.od,x),some (.od,x),some (lM (gJ e .fr,e)),some (lM (gJ e .fr,e))]=_;rw[lS c];rfl
  ·exact⟨_,fT (tu (bF (eX (aV (v_var rfl c).e (aV (v_var rfl c).e bL)) rfl (s e hm) rfl).e rfl)) rfl pI,_,_,rfl⟩
 ·rintro j ⟨l,m,rfl⟩
  exact bY (dA B4)
theorem yD (d:fM k [a,a]=.ok (.fr,.bool true))(f:fM k [b,b]=.ok (.fr,.bool true))(g:imms [a,b]=true):fM (k+1) [.tuple [a,b],.tuple [a,b]]=.ok (.fr,.bool true):=t4 (.inl rfl) g (show 2<=100 by decide) λe c=>by
 rcases aq.mp c with rfl|c
 ·exact d
 ·rw[ah.mp c];exact f
theorem Rn (s:Str):toS s.cps.toList=s:=nV (by show s.cps.toList.toArray.toList=_;simp)
theorem HR:∀{a:List Nat},x∉a->aU x a=[a]
 | [],_=>rfl
 |c::a,h=>by unfold aU;rw[qf (λz=>h (by rw[z];exact aj)),HR λz=>h (ai _ z)]
theorem HS:∀{a b:List Nat},x∉a->aU x (a++x::b)=a::aU x b
 | [],b,_=>by show(if x=x then[]::aU x b else _)=_;rw[qe rfl]
 |c::a,b,h=>by show(if c=x then[]::aU x (a++x::b)else match aU x (a++x::b)with|h::t=>(c::h)::t| []=>[[c]])=_;rw[qf (λz=>h (by rw[z];exact aj)),HS λz=>h (ai _ z)]
theorem gM (c:Nat)(x y:Str)(r:List Str):dO [c] (x::y::r)=x.cps.toList++c::dO [c] (y::r):=by show x.cps.toList++(List.map (λp:Str=>[c]++p.cps.toList) (y::r)).flatten=_;rw[br];rfl
theorem HU:∀r x,(∀s∈x::r,c∉s.cps.toList)->aU c (dO [c] (x::r))=(x::r).map λs=>s.cps.toList
 | [],x,h=>by show aU c (x.cps.toList++[])=_;rw[bx,HR (h x aj)];rfl
 |y::r,x,h=>by rw[gM,HS (h x aj),HU r y λs hs=>h s (ai _ hs)];rfl
theorem CN (a:z.cps.toList=[c])(b:∀r∈rs,c∉r.cps.toList)(hn:rs≠[]):spW c (z0t z rs)=rs:=by
 cases rs with
 |nil=>exact absurd rfl hn
 |cons x r=>unfold spW;rw[nW,a,HU r x b,dv];have:(toS∘λs:Str=>s.cps.toList)=id:=funext Rn;rw[this,mr]
theorem Rq:("\n":Str).cps.toList=[10]:=by decide+kernel
theorem qT:(" ":Str).cps.toList=[32]:=by decide+kernel
theorem yE:∀{rs:List Str} {c:Nat},c∈dO [x] rs->c=x\/∃r∈rs,c∈r.cps.toList
 | [],c,h=>by cases h
 | [y],c,h=>by have h:c∈y.cps.toList++[]:=h;rw[bx]at h;exact .inr ⟨y,aj,h⟩
 |y::z::r,c,h=>by
  rw[gM]at h;rcases bh.mp h with h|h
  ·exact .inr ⟨y,aj,h⟩
  ·rcases aq.mp h with h|h
   ·exact .inl h
   ·rcases yE h with h|⟨q,a,h⟩
    ·exact .inl h
    ·exact .inr ⟨q,ai _ a,h⟩
theorem CP:∀{rs:List Str},(∀r∈rs,r.length<=n)->(dO [x] rs).length<=(n+1)*rs.length
 | [],_=>ag _
 | [y],h=>by show(y.cps.toList++[]).length<=_;rw[bx,<-vZ];have:=h y aj;simp;omega
 |y::z::r,h=>by rw[gM,ax,ay,<-vZ,ay,Nat.mul_succ];have:=h y aj;have:=CP (x:=x) λs hs=>h s (ai _ hs);omega
theorem HV:∀{rs:List Str},(∀r∈rs,r.length<=n)->(rs.map (·.length)).sum<=n*rs.length
 | [],_=>ag _
 |x::r,h=>by rw[br,nr,ay,Nat.mul_succ];have:=h x aj;have:=HV λs hs=>h s (ai _ hs);omega
structure lD (r:Str):Prop where
 asc:lR r
 len:r.length<=3800
theorem Rr (h:∀w∈ws,lR w/\w.length<=13)(e:ws.length<=14):lD (z0t " " ws):=by
 refine⟨λc a=>?_,?_⟩
 ·rw[nW]at a;rcases yE a with rfl|⟨w,b,a⟩
  ·decide
  ·exact(h w b).1 c a
 ·rw[vZ,nW,qT];have:=CP (x:=32) λr d=>(h r d).2;omega
theorem Rt (h:∀c∈w.cps.toList,c<128):PyData.strOk w=true:=by unfold PyData.strOk;rw[<-jq,bj];intro c a;have:=h c a;simp;omega
theorem Ru (h:ac c=true):c<128:=by unfold ac at h;rw[au,decide_eq_true_eq]at h;exact h.1
theorem Rv (b:∀r∈rs,lD r):PyData.strOk (z0t "\n" rs)=true:=Rt λc a=>by
 rcases yE a with rfl|⟨r,h,a⟩
 ·decide
 ·exact Ru ((b r h).asc c a)
theorem Ry (c:z.length=1)(h:∀r∈rs,r.length<=n)(hn:n<=4000)(d:rs.length<=20):rJ z rs<=LIM:=by unfold rJ;have a:=HV h;have b:=Nat.mul_le_mul hn d;rw[c];unfold LIM;omega
def iM (c:Nat):Bool:=decide (48<=c)&&decide (c<=57)
def dM (w:Str):Option Int:=if(1<=w.cps.toList.length/\w.cps.toList.length<=31)/\w.cps.toList.all iM=true/\¬(w.cps.toList.head?=some 48/\1<w.cps.toList.length)then some (gW w.cps.toList:Int)else none
theorem RA (h:1<=l.length)(b:l.all iM=true):mK l=true:=by
 unfold mK;rw[show(l.all λc=>decide (48<=c)&&decide (c<=57))=l.all iM from rfl,b];cases l with
 |nil=>exact absurd h dc
 |cons a r=>rfl
theorem HW (a:1<=w.length)(c:w.length<=31)(b:w.cps.toList.all iM=true):biD "int" [.str w]=.ok (.int (gW w.cps.toList:Int)):=by show oQ w=_;unfold oQ;rw[RA (cv▸a) b,qk (show w.length<=600 by omega)];rfl
theorem Cb (h:w.cps.toList=c::r)(a:w.length<=1000):iD (.str w) (.int 0)=.ok (.str ⟨#[c]⟩):=by
 have b:0<w.length:=by have:=congrArg fj h;rw[cv]at this;show 0<w.cps.size;rw[this];simp_all
 rw[sY dc (by omega) a];show Res.ok (PyData.str ⟨#[w.cps.toList.getD 0 0]⟩)=_;rw[h];rfl
theorem RB (c d:Nat):cmpD .Eq (.str ⟨#[c]⟩) (.str ⟨#[d]⟩)=.ok (decide (c=d)):=by
 show Res.ok ((⟨#[c]⟩:Str)==⟨#[d]⟩)=_
 congr 1
 rw[j1,beq_iff_eq,decide_eq_true_iff];constructor
 ·intro h;have:=congrArg (λs:Str=>s.cps.toList) h;simpa using this
 ·intro h;rw[h]
theorem str_len (w:Str):w.cps.toList.length=w.length:=by rw[cv];rfl
theorem RC (i:w.length<=LIM):sr [.str w]=.ok (.fr,optD (dM w)):=by
 refine eT ?_;have u:=str_len w;have j:∀{t:Rho},t[0]?=some (some (.od,.str w))->Vv [] [] (.bi "len" (.cons (.var 0) .nil)) t (.int w.length):=λh=>eU (aV (aD h) bL) (len_str i) rfl;have k:Tt [] [] (.not (.tv (.chain .LtE .LtE (.int 1) (.bi "len" (.cons (.var 0) .nil)) (.int 31)))) [some (.od,.str w)] (!(decide ((1:Int)<=w.length)&&decide ((w.length:Int)<=31))):=tu (bF (yC aE.e (j rfl).e aE.e rfl rfl).e rfl);unfold dM;by_cases f:1<=w.length/\w.length<=31
 ·refine fT k (by rw[qk (show(1:Int)<=w.length by omega),qk (show(w.length:Int)<=31 by omega)];rfl) ?_;have q:z4q (.str w)=.ok (w.cps.toList.map λc=>PyData.str ⟨#[c]⟩):=by show(if w.length<=LIM then _ else _)=_;rw[qe i]
  have l:=z4i (Κ:=[]) (Φ:=[]) (ρ:=[some (.od,.str w)]) (nt:=1) (js:=[]) (N':=["sign"]) (tg:=.nm 0) (it:=.tv (.var 0)) (elt:=.chain .LtE .LtE (.str "0") (.var 0) (.str "9")) (λ_=>true) (λc=>.bool (iM c)) (eR (v_var rfl rfl).1 q) rfl (λc=>[some (.al,.str ⟨#[c]⟩)]) (λ_ _=>rfl) (λ_ _=>r6)
   (λc _ _=>by
    refine yC aY.e (aD rfl) aY.e ?_ ?_
    ·show Res.ok (!decide ([c]< [48]))=_;rw[pZ,<-decide_not]
     congr 1
     rw[decide_eq_decide];omega
    ·show Res.ok (!decide ([57]< [c]))=_;rw[pZ,<-decide_not]
     congr 1
     rw[decide_eq_decide];omega)
  rw[fv.mpr λ_ _=>rfl]at l;have s:aggD "all" true (w.cps.toList.map λc=>PyData.bool (iM c))=.ok (.bool (w.cps.toList.all iM)):=by have m:=CJ (w.cps.toList.map iM);rw[dv]at m;show Res.fJ ((allB (w.cps.toList.map λc=>PyData.bool (iM c))).map λbs=>PyData.bool (bs.all id))=_;rw[show(w.cps.toList.map λc=>PyData.bool (iM c))=w.cps.toList.map (PyData.bool∘iM)from rfl,m];show Res.ok (PyData.bool ((w.cps.toList.map iM).all id))=_;rw[lx];rfl
  have n:=tu (bF (x8 (Ev.of l) rfl s rfl).e rfl);by_cases d:w.cps.toList.all iM=true
  ·refine fT n (by rw[d];rfl) ?_
   obtain⟨c,r,o⟩:∃c r,w.cps.toList=c::r:=by
    cases e:w.cps.toList with
    |nil=>rw[e]at u;simp at u;omega
    |cons c r=>exact⟨c,r,rfl⟩
   have p:Tt [] [] (.and (.tv (.cmp .Eq (.ix (.var 0) (.int 0)) (.str "0"))) (.tv (.cmp .Gt (.bi "len" (.cons (.var 0) .nil)) (.int 1)))) [some (.od,.str w)] (decide (c=48)&&decide ((1:Int)<w.length)):=qM (bF (eD (aS (aD rfl) aE.e (Cb o (by omega)) rfl).e aY.e (RB c 48)).e rfl) λ_=>bF (eD (j rfl).e aE.e rfl).e rfl
   have hh:(w.cps.toList.head?=some 48/\1<w.length)↔(decide (c=48)&&decide ((1:Int)<w.length))=true:=by
    rw[o,List.head?_cons,au,decide_eq_true_eq,decide_eq_true_eq,Option.some.injEq];constructor
    ·rintro⟨a,b⟩;exact⟨a,by omega⟩
    ·rintro⟨a,b⟩;exact⟨a,by omega⟩
   by_cases g:w.cps.toList.head?=some 48/\1<w.length
   ·rw[qf (λz=>z.2.2 g)];exact iS p (hh.mp g) (bY (dA x4))
   ·rw[qe ⟨f,d,g⟩];exact fT p (eq_false_of_ne_true λz=>g (hh.mpr z)) (bY (dA (eU (aV (aD rfl) bL) (HW f.1 f.2 d) rfl)))
  ·rw[qf (λz=>d z.2.1)];exact iS n (by rw[eq_false_of_ne_true d];rfl) (bY (dA x4))
 ·rw[qf (λz=>f z.1)];refine iS k ?_ (bY (dA x4));rw[kx,Bool.and_eq_false_iff,decide_eq_false_iff_not,decide_eq_false_iff_not];omega
theorem RD:dM ""=none:=by decide+kernel
theorem CQ (h:NW w):isn w=true:=by unfold isn;rw[qk (show(1:Int)<=w.length by have:=h.l1;omega),qk (show(w.length:Int)<=12 by have:=h.l2;omega),bj.mpr h.ch,h.kp];rfl
theorem HX (w:Str)(ws:List Str):Mi.pk (w::ws) 0=w:=rfl
theorem HY (p:Nat):Mi.pk [] p="":=rfl
theorem lZ (h:ws.drop p=x::r):Mi.pk ws p=x/\ws.drop (p+1)=r:=by
 constructor
 ·unfold Mi.pk;have e:=congrArg (λl=>l[0]?) h;rw[oh]at e;rw[ao,show p=p+0 from rfl,e];rfl
 ·rw[<-kj,h];rfl
theorem HZ (h:ws.drop p=[]):Mi.pk ws p="":=by unfold Mi.pk;rw[ao,gz (List.drop_eq_nil_iff.mp h)];rfl
theorem ze8:∀ns k p c sd rest,ws.drop p=ns++rest->(∀w∈ns,nb w=true)->nb (Mi.pk rest 0)=false->ns.length<=k->c.Nodup->
  si nb ws k p c sd=if(c++ns).Nodup then some (c++ns,p+ns.length,sd++ns.map λw=>cR w OFT)else none
 | [],k,p,c,sd,rest,hd,_,f,_,d=>by
  rw[bx,qe d];cases k with
  |zero=>show some (c,p,sd)=some (c,p+0,sd++[]);rw[bx];rfl
  |succ k=>
   have e:Mi.pk ws p=Mi.pk rest 0:=by
    cases rest with
    |nil=>rw[HZ (by simpa using hd)];rfl
    |cons x r=>exact(lZ (x:=x) (by simpa using hd)).1
   show(if nb (Mi.pk ws p)=true then _ else some (c,p,sd))=some (c,p+0,sd++[]);rw[e,f,bx];rfl
 |w::ns,k,p,c,sd,rest,hd,hn,f,hk,d=>by
  cases k with
  |zero=>cases hk
  |succ k=>
   obtain⟨e,g⟩:=lZ hd;show(if nb (Mi.pk ws p)=true then(if Mi.pk ws p∈c then none else si nb ws k (p+1) (c++[Mi.pk ws p]) (sd++[cR (Mi.pk ws p) OFT]))else some (c,p,sd))=_;rw[e,qe (hn w aj)];by_cases hm:w∈c
   ·rw[qe hm,qf];intro nd;rw[ig]at nd;exact nd.2.2 w hm w aj rfl
   ·have h:(c++[w]).Nodup:=by
     rw[ig];exact⟨d,gq.mpr ⟨nofun,List.nodup_nil⟩,λa d b i e=>by rw[ah.mp i]at e;exact hm (e▸d)⟩
    rw[qf hm,ze8 ns k (p+1) (c++[w]) _ rest g (λz j=>hn z (ai _ j)) f (jm hk) h];have l:c++[w]++ns=c++w::ns:=by simp
    rw[l,show p+1+ns.length=p+(ns.length+1) by omega,ib];rfl
theorem z4l (hd:ws.drop p=ns++rest)(hn:∀w∈ns,nb w=true)(a:nb (Mi.pk rest 0)=false):
  z1c nb ws p sd=if ns.Nodup then some (ns,p+ns.length,sd++ns.map λw=>cR w OFT)else none:=by
 have b:=congrArg fj hd;rw[dh,ax]at b;have:=ze8 ns (ws.length-p) p [] sd rest hd hn a (by omega) List.nodup_nil;exact this
def wa (w:Str)(a b:List Str):D:=.tuple [.str "open",.str w,.tuple (a.map .str),.tuple (b.map .str)]
def nZ (w:Str)(a b:List Str):List Str:=("open":Str)::w::("for":Str)::(a++("against":Str)::b)
theorem qU (h:w∈t2):isn w=false:=by unfold isn;rw[(yB w).mpr h];simp
theorem RE:cI isn nf (("open":Str)::w::t) a []=hG isn (("open":Str)::w::t) a 1 []:=by unfold cI;rw[HX,qf dc,qe rfl]
theorem zfd (e:isn w=true)(f:∀x∈a,isn x=true)(g:∀x∈b,isn x=true)(h:isn (Mi.pk rest 0)=false)(i:cntO l≠4):
  hG isn (("open":Str)::w::("for":Str)::(a++("against":Str)::(b++rest))) l 1 []=if a.Nodup/\b.Nodup then some (wa w a b,4+a.length+b.length,(a++b).map λw=>cR w OFT)else none:=by
 unfold hG;rw[qf i,show Mi.pk (("open":Str)::w::("for":Str)::(a++("against":Str)::(b++rest))) 1=w from rfl,qe e,show Mi.pk (("open":Str)::w::("for":Str)::(a++("against":Str)::(b++rest))) (1+1)=("for":Str)from rfl,qe rfl];rw[z4l (rest:=("against":Str)::(b++rest)) rfl f (qU (w:="against") dc)];by_cases c:a.Nodup
 ·rw[qe c];have hd:(("open":Str)::w::("for":Str)::(a++("against":Str)::(b++rest))).drop (1+2+a.length)=("against":Str)::(b++rest):=by rw[<-kj];show(a++("against":Str)::(b++rest)).drop a.length=_;rw[mu]
  obtain⟨j,k⟩:=lZ hd
  dsimp only
  rw[j,qe rfl,z4l k g h];by_cases d:b.Nodup
  ·rw[qe d,qe ⟨c,d⟩];rw[show 1+2+a.length+1+b.length=4+a.length+b.length by omega,List.nil_append,<-b8];rfl
  ·rw[qf d,qf λz=>d z.2]
 ·rw[qf c,qf λz=>c z.1]
theorem RF:(nZ w a b).length=4+a.length+b.length:=by unfold nZ;simp;omega
theorem zc2 (c:isn w=true)(d:∀x∈a,isn x=true)(e:∀x∈b,isn x=true)(f:cntO ks≠4):
  bU isn nf (nZ w a b) ks []=if a.Nodup/\b.Nodup then some (wa w a b,4+a.length+b.length,(a++b).map λw=>cR w OFT)else none:=by
 unfold bU;have:=zfd (rest:=[]) c d e CL f;rw[bx]at this;rw[show nZ w a b=("open":Str)::w::(("for":Str)::(a++("against":Str)::b))from rfl,RE,this];by_cases h:a.Nodup/\b.Nodup
 ·rw[qe h]
  dsimp only
  rw[qf];have:=RF (w:=w) (a:=a) (b:=b);unfold nZ at this;omega
 ·rw[qf h]
theorem Ia (c:Ev [] Φ a j x)(e:Ev [] Φ b j y)(h:cL f x y=.ok d):Ev [] Φ (.bin f a b) j d:=by obtain⟨g,c⟩:=c;obtain⟨i,e⟩:=e;exact⟨gN d (cF [(g,x),(i,y)]),by rw[BY,c,Res.aB,e,Res.aB];dsimp only;rw[h];rfl⟩
theorem Ib (h:Aa [] Φ a f b):Ev [] Φ (.lst a) f (.list b):=by obtain⟨c,d,e⟩:=h;exact⟨cF c,by rw[GB,d,Res.aB,e]⟩
theorem Ic (a:List Str):(a.map PyData.str:List D).length=a.length:=ak _
theorem RG {b:List Str}(c:Ev [] Φ t f (.list (a.map .str)))(d:Ev [] Φ u f (.list (b.map .str)))(e:a.length+b.length<=1000):Ev [] Φ (.bin .Add t u) f (.list ((a++b).map .str)):=Ia c d (by rw[add_list (by rw[Ic,Ic];exact e),<-b8])
structure Wd (x:Str):Prop where
 asc:lR x
 no:32∉x.cps.toList
 len:x.length<=13
theorem NW.wd (h:NW x):Wd x:=⟨v5 h.ch,CK h.ch,by have:=h.l2;omega⟩
theorem RH (o x:Str)(r:List Str)(ob:Str)(h:ob.cps.toList=o.cps.toList++[32]):ob++z0t " " (x::r)=z0t " " (o::x::r):=nV (by rw[cY,nW,nW,qT,gM,h];simp)
theorem zdw:∀{ks:List (Str×Str)} {nm:Str},nm∉ks.map (·.1)->lkG ks nm=none
 | [],nm,_=>rfl
 |y::ks,nm,h=>by rw[br,aq,not_or]at h;have a:=zdw h.2;unfold lkG at a ⊢;rw[dg,ql (λz=>h.1 z.symm)];exact a
theorem qo:∀{ks:List (Str×Str)} {nm k:Str},(ks.map (·.1)).Nodup->(nm,k)∈ks->lkG ks nm=some k
 |y::ks,nm,k,hd,h=>by
  rw[br,gq]at hd;unfold lkG;rw[dg];rcases aq.mp h with rfl|h
  ·rw[qk rfl];rfl
  ·rw[ql (λz=>hd.1 (by rw[z];exact cr.mpr ⟨_,h,rfl⟩))];exact qo hd.2 h
theorem Ie:gL isn nf k a b (r::rs)=(if k=24 then Rx.row k else match bU isn nf (spW 32 r) b []with
 |none=>.row k
 |some (d,_,sd)=>if hasG b (Mi.pk (spW 32 r) 1)=true then .tw (Mi.pk (spW 32 r) 1)else match bM b sd with
  |some u=>.un u
  |none=>gL isn nf (k+1) (a++[d]) (b++[(Mi.pk (spW 32 r) 1,Mi.pk (spW 32 r) 0)]) rs):=rfl
theorem sE (hk:k≠24)(b:spW 32 r=ws)(h:bU isn nf ws ks []=some (d,p,sd))(hh:hasG ks (Mi.pk ws 1)=false)(hu:bM ks sd=none):gL isn nf k a ks (r::rs)=gL isn nf (k+1) (a++[d]) (ks++[(Mi.pk ws 1,Mi.pk ws 0)]) rs:=by
 rw[Ie,qf hk,b,h]
 dsimp only
 rw[hh,hu];rfl
theorem Ig (c:isn a=true)(d:isn b=false):a≠b:=λz=>by rw[z,d]at c;cases c
theorem CS (h:isn n=true):bU isn nf ["fact",n] ks []=some (.tuple [.str "fact",.str n],2,[]):=by unfold bU cI;rw[show Mi.pk ["fact",n] 0="fact"from rfl,qe rfl,show Mi.pk ["fact",n] 1=n from rfl,qe h];rfl
def yF (n:Str):D:=.tuple [.str "at",.str n,.int 1]
theorem RI (hn:isn n=true)(a:Mi.pk ws p=n)(b:Mi.pk ws (p+1)="")(c:lkG d n=some ("fact":Str)):z0u isn nf ws d (r+1) p sd=some (yF n,p+1,sd++[cR n OFT]):=by show(if Mi.pk ws p="not"then dS "not" (z0u isn nf ws d r (p+1) sd)else if Mi.pk ws p="("then jW ws (z0u isn nf ws d r) p sd else fW isn nf ws d p sd)=_;rw[a,qf (Ig hn (qU dc)),qf (Ig hn (by decide+kernel))];unfold fW;rw[a,qe hn,b,c];rfl
theorem RJ (a:isn w=true)(hn:isn n=true)(b:lkG d n=some ("fact":Str)):bU isn nf ["claim",w,"if","some",n] d []=some (.tuple [.str "claim",.str w,.tuple [.str "some",yF n]],5,[cR n OFT]):=by
 unfold bU cI;rw[show Mi.pk ["claim",w,"if","some",n] 0="claim"from rfl,qf dc,qf dc,qf dc,qe rfl];have hd:dJ isn ["claim",w,"if","some",n] 1=true:=by unfold dJ;rw[show Mi.pk ["claim",w,"if","some",n] 1=w from rfl,a];rfl
 rw[qe hd];have c:z1f isn nf ["claim",w,"if","some",n] d 8 3 []=dS "some" (z0u isn nf ["claim",w,"if","some",n] d 7 4 []):=by show(if Mi.pk ["claim",w,"if","some",n] 3="("then _ else if Mi.pk ["claim",w,"if","some",n] 3="not"then _ else if Mi.pk ["claim",w,"if","some",n] 3="some"\/Mi.pk ["claim",w,"if","some",n] 3="all"then dS (Mi.pk ["claim",w,"if","some",n] 3) (z0u isn nf ["claim",w,"if","some",n] d 7 (3+1) [])else none)=_;rw[show Mi.pk ["claim",w,"if","some",n] 3="some"from rfl,qf dc,qf dc,qe (.inl rfl)]
 rw[c,RI hn rfl rfl b];rfl
theorem sF (h:nm∉ks.map (·.1)):hasG ks nm=false:=by unfold hasG;rw[zdw h];rfl
theorem RK (h:lkG a n=some ("fact":Str)):bM a [cR n OFT]=none:=by show(if(([.str "fact",.str "open",.str "word"]:List D).any λy=>cC y (match lkG a n with|some s=>.str s|none=>.none))=true then bM a []else some n)=_;rw[h];rfl
inductive Un where
 |no|so|al
inductive Tr where
 |bI (n f:Str)|bK (n:Str)|un (u:Un) (t:Tr)|two (o:Bool) (a b:Tr)
def opS (o:Bool):Str:=if o then "and"else "or"
def fY:Un->Str
 |.no=>"not"
 |.so=>"some"
 |.al=>"all"
def Tr.ws:Tr->List Str
 |.bI n f=>[n,">=",f]
 |.bK n=>[n]
 |.un u t=>fY u::t.ws
 |.two o a b=>"("::(a.ws++opS o::(b.ws++[(")":Str)]))
def Tr.dp:Tr->Nat
 |.bI _ _=>1
 |.bK _=>1
 |.un _ t=>t.dp+1
 |.two _ a b=>max a.dp b.dp+1
def Tr.sy:Tr->List D
 |.bI n _=>[cR n (.tuple [.str "fact"])]
 |.bK n=>[cR n OFT]
 |.un _ t=>t.sy
 |.two _ a b=>a.sy++b.sy
def eW (nf:Str->Option Int)(f:Str):Option Int:=match nf f with
 |some k=>if 1<=k/\k<=10 ^ 30 then some k else none
 |none=>none
def Tr.lk (nf:Str->Option Int)(ks:List (Str×Str)):Tr->D
 |.bI n f=>.tuple [.str "at",.str n,.int ((nf f).getD 0)]
 |.bK n=>if lkG ks n=some ("fact":Str)then .tuple [.str "at",.str n,.int 1]else .tuple [.str "is",.str n]
 |.un u t=>.tuple [.str (fY u),t.lk nf ks]
 |.two o a b=>.tuple [.str (opS o),a.lk nf ks,b.lk nf ks]
def Tr.ok (nf:Str->Option Int):Tr->Bool
 |.bI _ f=>(eW nf f).isSome
 |.bK _=>true
 |.un _ t=>t.ok nf
 |.two _ a b=>a.ok nf&&b.ok nf
def Tr.nms:Tr->List Str
 |.bI n _=>[n]
 |.bK n=>[n]
 |.un _ t=>t.nms
 |.two _ a b=>a.nms++b.nms
def Tr.wf:Tr->Bool->Bool
 |.bI _ _,m=>!m
 |.bK _,m=>!m
 |.un .no t,m=>t.wf m
 |.un _ t,m=>m&&t.wf false
 |.two _ a b,m=>a.wf m&&b.wf m
theorem RL (o:Bool):opS o="and"\/opS o="or":=by cases o<;>simp[opS]
theorem RO (u:Un):u=.no\/(fY u="some"\/fY u="all")/\∀(t:Tr) (m:Bool),(Tr.un u t).wf m=(m&&t.wf false):=by
 cases u with
 |no=>exact .inl rfl
 |so=>exact .inr ⟨.inl rfl,λ_ _=>rfl⟩
 |al=>exact .inr ⟨.inr rfl,λ_ _=>rfl⟩
section
variable {nb:Str->Bool}{nf:Str->Option Int}{ws:List Str}{ks:List (Str×Str)}
theorem CT [Decidable P]:dS x (if P then some (d,q,s)else none)=if P then some (.tuple [.str x,d],q,s)else none:=by split<;>rfl
def yG (nb:Str->Bool)(nf:Str->Option Int)(ws:List Str)(ks:List (Str×Str))(m:Bool)(r p:Nat)(sd:List D):Ro:=if m=true then z1f nb nf ws ks r p sd else z0u nb nf ws ks r p sd
theorem wb:z0u nb nf ws ks (r+1) p sd=if Mi.pk ws p="not"then dS "not" (z0u nb nf ws ks r (p+1) sd)else if Mi.pk ws p="("then jW ws (z0u nb nf ws ks r) p sd else fW nb nf ws ks p sd:=rfl
theorem yH:z1f nb nf ws ks (r+1) p sd=if Mi.pk ws p="("then jW ws (z1f nb nf ws ks r) p sd else if Mi.pk ws p="not"then dS "not" (z1f nb nf ws ks r (p+1) sd)else if Mi.pk ws p="some"\/Mi.pk ws p="all"then dS (Mi.pk ws p) (z0u nb nf ws ks r (p+1) sd)else none:=rfl
theorem ziw (q:nb "not"=false)(s:nb "("=false)(A:nb "some"=false)(B:nb "all"=false):∀(t:Tr) (m:Bool) (r p:Nat) (sd:List D) (rest:List Str),ws.drop p=t.ws++rest->(∀n∈t.nms,nb n=true)->Mi.pk rest 0≠(">=":Str)->
  yG nb nf ws ks m r p sd=if(t.dp<=r/\t.ok nf=true)/\t.wf m=true then some (t.lk nf ks,p+t.ws.length,sd++t.sy)else none:=by
 have ne:∀{n x:Str},nb n=true->nb x=false->n≠x:=λa b e=>by rw[e,b]at a;cases a
 have l:∀(t:Tr) (m:Bool) (p:Nat) (sd:List D),yG nb nf ws ks m 0 p sd=if(t.dp<=0/\t.ok nf=true)/\t.wf m=true then some (t.lk nf ks,p+t.ws.length,sd++t.sy)else none:=λt m p sd=>by rw[qf (λz=>by cases t<;>exact absurd z.1.1 (by unfold Tr.dp;omega))];cases m<;>rfl
 have na:∀{n:Str} {r p:Nat} {sd:List D},nb n=true->Mi.pk ws p=n->z1f nb nf ws ks (r+1) p sd=none:=λ{n r p sd} hn e=>by rw[yH,e,qf (ne hn s),qf (ne hn q),qf λz=>z.elim (ne hn A) (ne hn B)]
 intro t
 induction t with
 |bI n f=>
  intro m r p sd rest hd hn hr;cases r with
  |zero=>exact l _ _ _ _
  |succ r=>
   obtain⟨c,d⟩:=lZ hd;obtain⟨g,I⟩:=lZ d;obtain⟨J,_⟩:=lZ I;have hn:=hn n (.head _);cases m with
   |true=>rw[qf (λz=>by cases z.2)];exact na hn c
   |false=>
    show z0u nb nf ws ks (r+1) p sd=_;rw[wb,c,qf (ne hn q),qf (ne hn s)];unfold fW;rw[c,qe hn,g,qe rfl];unfold kZ;rw[g,qe rfl,J];have hok:(Tr.bI n f).ok nf=(eW nf f).isSome:=rfl;rw[hok];cases hf:nf f with
    |none=>
     have e:eW nf f=none:=by unfold eW;rw[hf]
     rw[e,qf (λz=>by cases z.1.2)];rfl
    |some k=>
     by_cases hk:1<=k/\k<=10 ^ 30
     ·have e:eW nf f=some k:=by unfold eW;rw[hf];exact qe hk
      rw[e,qe ⟨⟨d3 (c7 _),rfl⟩,rfl⟩]
      dsimp only
      rw[qe hk];show some (PyData.tuple [.str "at",.str n,.int k],p+1+2,_)=some (PyData.tuple [.str "at",.str n,.int ((nf f).getD 0)],p+3,_);rw[hf];rfl
     ·have e:eW nf f=none:=by unfold eW;rw[hf];exact qf hk
      rw[e,qf (λz=>by cases z.1.2)]
      dsimp only
      rw[qf hk];rfl
 |bK n=>
  intro m r p sd rest hd hn hr;cases r with
  |zero=>exact l _ _ _ _
  |succ r=>
   obtain⟨c,d⟩:=lZ hd;have hn:=hn n (.head _);cases m with
   |true=>rw[qf (λz=>by cases z.2)];exact na hn c
   |false=>
    have g:Mi.pk ws (p+1)=Mi.pk rest 0:=by
     cases rest with
     |nil=>rw[HZ d];rfl
     |cons x t=>exact(lZ d).1
    show z0u nb nf ws ks (r+1) p sd=_;rw[wb,c,qf (ne hn q),qf (ne hn s)];unfold fW;rw[c,qe hn,g,qf hr,qe (show((Tr.bK n).dp<=r+1/\(Tr.bK n).ok nf=true)/\(Tr.bK n).wf false=true from⟨⟨d3 (c7 _),rfl⟩,rfl⟩)];rfl
 |un u t C=>
  intro m r p sd rest hd hn hr;cases r with
  |zero=>exact l _ _ _ _
  |succ r=>
   obtain⟨c,d⟩:=lZ hd;have E:=C m r (p+1) sd rest d hn hr
   have go:∀{w:Bool},(if(t.dp<=r/\t.ok nf=true)/\w=true then some (PyData.tuple [.str (fY u),t.lk nf ks],p+1+t.ws.length,sd++t.sy)else none)=(if((Tr.un u t).dp<=r+1/\(Tr.un u t).ok nf=true)/\w=true then some ((Tr.un u t).lk nf ks,p+(Tr.un u t).ws.length,sd++(Tr.un u t).sy)else none):=λ{w}=>by
    show _=if(t.dp+1<=r+1/\t.ok nf=true)/\w=true then some (PyData.tuple [.str (fY u),t.lk nf ks],p+(t.ws.length+1),sd++t.sy)else none
    rw[show p+(t.ws.length+1)=p+1+t.ws.length by omega];by_cases h:(t.dp<=r/\t.ok nf=true)/\w=true
    ·rw[qe h,qe ⟨⟨d3 h.1.1,h.1.2⟩,h.2⟩]
    ·rw[qf h,qf λz=>h ⟨⟨jm z.1.1,z.1.2⟩,z.2⟩]
   rcases RO u with rfl|⟨hu,K⟩
   ·have c:Mi.pk ws p="not":=c;rw[<-go];show _=if(t.dp<=r/\t.ok nf=true)/\t.wf m=true then some (PyData.tuple [.str "not",t.lk nf ks],p+1+t.ws.length,sd++t.sy)else none
    cases m with
    |true=>show z1f nb nf ws ks (r+1) p sd=_;rw[yH,c,qf dc,qe rfl,<-CT,<-E];rfl
    |false=>show z0u nb nf ws ks (r+1) p sd=_;rw[wb,c,qe rfl,<-CT,<-E];rfl
   ·have F:fY u≠"(":=by rcases hu with e|e<;>rw[e]<;>decide
    have G:fY u≠"not":=by rcases hu with e|e<;>rw[e]<;>decide
    rw[<-go,K];cases m with
    |true=>show z1f nb nf ws ks (r+1) p sd=_;rw[yH,c,qf F,qf G,qe hu,Bool.true_and,<-CT,<-C false r (p+1) sd rest d hn hr];rfl
    |false=>rw[qf (λz=>by cases z.2)];show z0u nb nf ws ks (r+1) p sd=_;rw[wb,c,qf G,qf F];unfold fW;rw[c,qf (by rcases hu with e|e<;>rw[e]<;>first|(rw[A];decide)|(rw[B];decide))]
 |two o a b L M=>
  intro m r p sd rest hd hn hr;cases r with
  |zero=>exact l _ _ _ _
  |succ r=>
   have hd:ws.drop p=("(":Str)::(a.ws++(opS o::(b.ws++(")":Str)::rest))):=by rw[hd];simp[Tr.ws]
   obtain⟨c,d⟩:=lZ hd
   have st:yG nb nf ws ks m (r+1) p sd=jW ws (yG nb nf ws ks m r) p sd:=by
    cases m with
    |true=>show z1f nb nf ws ks (r+1) p sd=_;rw[yH,c,qe rfl];rfl
    |false=>show z0u nb nf ws ks (r+1) p sd=_;rw[wb,c,qf dc,qe rfl];rfl
   rw[st];unfold jW;have v:opS o≠(">=":Str):=by cases o<;>decide
   rw[c,qe rfl,L m r (p+1) sd _ d (λn h=>hn n (db _ h)) v];show _=if(max a.dp b.dp+1<=r+1/\(a.ok nf&&b.ok nf)=true)/\(a.wf m&&b.wf m)=true then some (PyData.tuple [.str (opS o),a.lk nf ks,b.lk nf ks],p+(a.ws++opS o::(b.ws++[(")":Str)])).length.succ,sd++(a.sy++b.sy))else none
   have an:∀{x y:Bool},(x&&y)=true↔x=true/\y=true:=λ{x y}=>by rw[au]
   by_cases i:(a.dp<=r/\a.ok nf=true)/\a.wf m=true
   ·rw[qe i]
    dsimp only
    obtain⟨g,H⟩:=lZ (by rw[<-kj,d,mu]);rw[g,qe (RL o),M m r (p+1+a.ws.length+1) _ _ H (λn h=>hn n (bq _ h)) (by rw[HX];decide)];by_cases j:(b.dp<=r/\b.ok nf=true)/\b.wf m=true
    ·rw[qe j]
     dsimp only
     rw[(lZ (by rw[<-kj,H,mu])).1,qe rfl,qe ⟨⟨by omega,an.mpr ⟨i.1.2,j.1.2⟩⟩,an.mpr ⟨i.2,j.2⟩⟩,ib];simp;rw[show p+1+a.ws.length+1+b.ws.length+1=p+(a.ws.length+(b.ws.length+(0+1)+1)).succ by omega]
    ·rw[qf j,qf λz=>j ⟨⟨by omega,(an.mp z.1.2).2⟩,(an.mp z.2).2⟩]
   ·rw[qf i,qf λz=>i ⟨⟨by omega,(an.mp z.1.2).1⟩,(an.mp z.2).1⟩]
end
theorem yI:∀(t:Tr) (m:Bool),t.wf m=true->t.wf (!m)=false
 |.bI _ _,m,h=>by cases m<;>first|rfl|cases h
 |.bK _,m,h=>by cases m<;>first|rfl|cases h
 |.un .no t,m,h=>yI t m h
 |.un .so t,m,h=>by cases m<;>first|rfl|cases h
 |.un .al t,m,h=>by cases m<;>first|rfl|cases h
 |.two _ a b,m,h=>by have h:(a.wf m&&b.wf m)=true:=h;rw[au]at h;show(a.wf (!m)&&b.wf (!m))=false;rw[yI a m h.1];rfl
def Tr.enc:Tr->D
 |.bI n f=>.tuple [.str "at",.str n,.str f]
 |.bK n=>.tuple [.str "is",.str n]
 |.un u t=>.tuple [.str (fY u),t.enc]
 |.two o a b=>.tuple [.str (opS o),a.enc,b.enc]
theorem Tr.im:∀t:Tr,imm t.enc=true
 |.bI _ _=>rfl
 |.bK _=>rfl
 |.un _ t=>by show(true&&(imm t.enc&&true))=true;rw[t.im];rfl
 |.two o a b=>by show(true&&(imm a.enc&&(imm b.enc&&true)))=true;rw[a.im,b.im];rfl
def Tr.hd:Tr->Str
 |.bI _ _=>"at"
 |.bK _=>"is"
 |.un u _=>fY u
 |.two o _ _=>opS o
def Tr.kids:Tr->List Tr
 |.un _ t=>[t]
 |.two _ a b=>[a,b]
 |_=>[]
theorem Tr.CU:∀t:Tr,iD t.enc (.int 0)=.ok (.str t.hd)
 |.bI _ _=>rfl
 |.bK _=>rfl
 |.un _ _=>rfl
 |.two _ _ _=>rfl
theorem iT (t:Tr)(h:ρ[0]?=some (some (g,t.enc))):Tt [] Φ (.tv (.cmp .Eq (.ix (.var 0) (.int 0)) (.str w))) ρ (decide (t.hd=w)):=bF (eD (k:=decide (t.hd=w)) (aS (aD h) aE.e t.CU rfl).e aY.e (by show Res.ok (cC (.str _) (.str _))=_;rw[jU])).e rfl
def Tr.tx:Tr->Str
 |.bI n f=>n++(" >= ":Str)++f
 |.bK n=>n
 |.un u t=>fY u++(" ":Str)++t.tx
 |.two o a b=>("( ":Str)++a.tx++(" ":Str)++opS o++(" ":Str)++b.tx++(" )":Str)
theorem Ih:decide (("is":Str)=("at":Str))=false:=by decide
theorem t5 (u:Un):decide (fY u=("at":Str))=false/\decide (fY u=("is":Str))=false:=by cases u<;>decide
theorem Ii (u:Un):(fY u).length<=4:=by cases u<;>decide
theorem t6 (o:Bool):decide (opS o=("at":Str))=false/\decide (opS o=("is":Str))=false:=by cases o<;>decide
theorem RP:∀(t:Tr) (k:Nat),t.dp<=k->t.tx.length<=9000->fX k [t.enc]=.ok (.fr,.str t.tx):=by
 intro t
 induction t with
 |bI n f=>
  intro k hk c;obtain _|k:=k
  ·exact absurd hk (by unfold Tr.dp;omega)
  refine eT ?_;unfold Tr.tx at c;rw[bD,bD]at c;exact iS (iT _ rfl) (qk rfl) (bY (dA (aF (aF (aS (aD rfl) aE.e rfl rfl).e aY.e (nH (by omega)) rfl).e (aS (aD rfl) aE.e rfl rfl).e (nH (by rw[bD];omega)) rfl)))
 |bK n=>
  intro k hk c;obtain _|k:=k
  ·exact absurd hk (by unfold Tr.dp;omega)
  exact eT (fT (iT _ rfl) Ih (iS (iT _ rfl) (qk rfl) (bY (dA (aS (aD rfl) aE.e rfl rfl)))))
 |un u t d=>
  intro k hk c;obtain _|k:=k
  ·exact absurd hk (by unfold Tr.dp;omega)
  refine eT ?_;unfold Tr.tx at c;rw[bD]at c;refine fT (iT _ rfl) (t5 u).1 (fT (iT _ rfl) (t5 u).2 (iS (nX (eU (aV (aD rfl) bL) rfl rfl).e) rfl (bY (dA (aF (aF (aS (aD rfl) aE.e rfl rfl).e aY.e (nH (by have:=Ii u;show(fY u).length+1<=_;omega)) rfl).e (eX (aV (aS (aD rfl) aE.e rfl t.im).e bL) rfl (d k (jm hk) (by omega)) rfl).e (nH (by omega)) rfl)))))
 |two o a b g h=>
  intro k hk c;obtain _|k:=k
  ·exact absurd hk (by unfold Tr.dp;omega)
  refine eT ?_;unfold Tr.tx at c;have hd:max a.dp b.dp+1<=k+1:=hk;rw[bD,bD,bD,bD,bD,bD]at c;refine fT (iT _ rfl) (t6 o).1 (fT (iT _ rfl) (t6 o).2 (fT (nX (eU (aV (aD rfl) bL) rfl rfl).e) rfl (bY (dA ?_))));exact aF (aF (aF (aF (aF (aF aY.e (eX (Κ:=[]) (f:="_law_text") (aV (aS (aD (ρ:=[some (G.od,(Tr.two o a b).enc)]) (i:=0) rfl) (aE (i:=1)).e rfl a.im).e bL) (show[fX k][0]?=_ from rfl) (g k (by omega) (by omega)) rfl).e (nH (by omega)) rfl).e aY.e (nH (by rw[bD];omega)) rfl).e (aS (aD rfl) aE.e rfl rfl).e (nH (by rw[bD,bD];omega)) rfl).e aY.e (nH (by rw[bD,bD,bD];omega)) rfl).e (eX (Κ:=[]) (f:="_law_text") (aV (aS (aD (ρ:=[some (G.od,(Tr.two o a b).enc)]) (i:=0) rfl) (aE (i:=2)).e rfl b.im).e bL) (show[fX k][0]?=_ from rfl) (h k (by omega) (by omega)) rfl).e (nH (by rw[bD,bD,bD,bD];omega)) rfl).e aY.e (nH (by rw[bD,bD,bD,bD,bD];omega)) rfl
def Tr.lf:Tr->Bool
 |.bI _ _=>true
 |.bK _=>true
 |_=>false
theorem pR (a:List Tr):imms (a.map Tr.enc)=true:=mH.mpr λx b=>by obtain⟨t,_,rfl⟩:=cr.mp b;exact t.im
theorem yJ (t:Tr)(h:ρ[0]?=some (some (g,t.enc))):Tt [] Φ (.or (.tv (.cmp .Eq (.ix (.var 0) (.int 0)) (.str "at"))) (.tv (.cmp .Eq (.ix (.var 0) (.int 0)) (.str "is")))) ρ t.lf:=by
 have:=pH (iT (Φ:=Φ) (w:="at") t h) λ_=>iT (w:="is") t h;rw[show(decide (t.hd=("at":Str))||decide (t.hd=("is":Str)))=t.lf from ?_]at this
 ·exact this
 ·cases t with
  |two o a b=>show(decide (opS o=("at":Str))||decide (opS o=("is":Str)))=false;rw[(t6 o).1,(t6 o).2];rfl
  |un u t=>show(decide (fY u=("at":Str))||decide (fY u=("is":Str)))=false;rw[(t5 u).1,(t5 u).2];rfl
  |_=>rfl
theorem CV (t:Tr)(hf:t.lf=false):qF t.enc (some 1) none=.ok (.tuple (t.kids.map Tr.enc)):=by
 cases t with
 |bI=>cases hf
 |bK=>cases hf
 |_=>rfl
theorem CW (t:Tr)(hf:t.lf=false)(h:a[0]?=some (some (g,t.enc))):aG [] Φ (.sl (.var 0) (.tv (.int 1)) .nil) a=.ok (.fr,.tuple (t.kids.map Tr.enc)):=(r0 (aD h) (iQ aE.e) lQ (CV t hf) (pR _)).1
theorem CY {t:Tr}(h:c∈t.kids):c.dp+1<=t.dp:=by
 cases t with
 |bI=>cases h
 |bK=>cases h
 |un u t=>rw[ah.mp h];exact ag _
 |two o a b=>
  show c.dp+1<=max a.dp b.dp+1;rcases aq.mp h with rfl|h
  ·omega
  ·rw[ah.mp h];omega
theorem CZ (t:Tr):1<=t.dp:=by cases t<;>(unfold Tr.dp;omega)
theorem C3 (t:Tr)(hf:t.lf=false):aggD "max" true ((t.kids.filter λ_=>true).map λc=>.int c.dp)=.ok (.int ((t.dp:Int)-1)):=by
 cases t with
 |bI=>cases hf
 |bK=>cases hf
 |un u t=>show Res.ok (PyData.int (t.dp:Int))=.ok (.int (((t.dp+1:Nat):Int)-1));rw[show((t.dp+1:Nat):Int)-1=t.dp by omega]
 |two o a b=>show Res.ok (PyData.int (max (a.dp:Int) (b.dp:Int)))=.ok (.int (((max a.dp b.dp+1:Nat):Int)-1));rw[show((max a.dp b.dp+1:Nat):Int)-1=max (a.dp:Int) (b.dp:Int) by omega]
theorem Ij:∀k (t:Tr),t.dp<=k->pX k [t.enc]=.ok (.fr,.int t.dp)
 |0,t,h=>absurd (CZ t) (by omega)
 |k+1,t,h=>by
  refine eT ?_;cases hf:t.lf with
  |true=>rw[show t.dp=1 by cases t<;>first|rfl|cases hf];exact iS (yJ t rfl) hf (bY (dA aE))
  |false=>refine fT (yJ t rfl) hf (bY (dA ?_));have a:=z4i (Φ:=[pX k]) (ρ:=[some (.od,t.enc)]) (nt:=1) (js:=[]) (N':=["_law_part"]) (tg:=.nm 0) (it:=.tv (.sl (.var 0) (.tv (.int 1)) .nil)) (elt:=.call 0 "_law_depth" (.cons (.var 0) .nil)) (λ_=>true) (λc=>.int c.dp) (eR (CW t hf rfl) rfl) rfl (λc=>[some (.al,c.enc)]) (λc _=>yz c.im) (λ_ _=>r6) (λc b _=>eX (aV (v_var rfl c.im).e bL) rfl (Ij k c (by have:=CY b;omega)) rfl);have:=aF (op:=.Add) (d:=.int (1+(t.dp-1))) (aE).e (x8 (Ev.of a) rfl (C3 t hf) rfl).e rfl rfl;rw[show 1+((t.dp:Int)-1)=t.dp by omega]at this;exact this
def Tr.dU:Tr->List Tr
 |.bI n f=>[.bI n f]
 |.bK n=>[.bK n]
 |.un _ t=>t.dU
 |.two _ a b=>a.dU++b.dU
theorem RS (t:Tr)(hf:t.lf=false):t.kids.flatMap Tr.dU=t.dU:=by
 cases t with
 |bI=>cases hf
 |bK=>cases hf
 |un u t=>show t.dU++[]=t.dU;rw[bx]
 |two o a b=>show a.dU++(b.dU++[])=_;rw[bx];rfl
theorem Ik:∀k (t:Tr),t.dp<=k->t.dU.length<=1000->qR k [t.enc]=.ok (.fr,.list (t.dU.map Tr.enc))
 |0,t,h,_=>absurd (CZ t) (by omega)
 |k+1,t,h,d=>by
  refine eT ?_;cases hf:t.lf with
  |true=>rw[show t.dU=[t] by cases t<;>first|rfl|cases hf];exact iS (yJ t rfl) hf (bY (x9 nofun (gH (aQ (v_var rfl t.im) bT))))
  |false=>
   refine fT (yJ t rfl) hf ?_;have hk:=RS t hf
   let Q:Res Out->Prop:=λr=>r=.ok (.rt .fr (.list (t.dU.map Tr.enc)))
   show Q _;refine aO (iR (gH bT) rfl) (q_nm (GI nofun (CW t hf rfl) rfl) (λc=>c.im) (λpre ρ=>∃u,ρ=[some (.od,t.enc),some (.fr,.list ((pre.flatMap Tr.dU).map Tr.enc)),u]) ⟨none,rfl⟩ ?_ ?_)
   ·rintro pre c a ρ b ⟨u,rfl⟩
    have hm:c∈t.kids:=by rw[b];simp
    rw[b]at hk;have hk:=congrArg fj hk;rw[nh,pp,ax,ax]at hk;refine aO (iR (qL (aD rfl) (x5 (aV (v_var rfl c.im).e bL) rfl (Ik k c (by have:=CY hm;omega) (by omega))) (add_list (by grind)) (b8▸pR _)) (b8▸pR _)) (lX ⟨some (.al,c.enc),?_⟩);rw[nh,pp,List.flatMap_nil,bx,b8];rfl
   ·rintro ρ ⟨u,rfl⟩
    rw[hk];exact bY (z8z rfl)
theorem Tr.dV:∀t:Tr,imm (t.lk nf ks)=true
 |.bI _ _=>rfl
 |.bK n=>by unfold Tr.lk;split<;>rfl
 |.un _ t=>by show(true&&(imm (t.lk nf ks)&&true))=true;rw[t.dV];rfl
 |.two o a b=>by show(true&&(imm (a.lk nf ks)&&(imm (b.lk nf ks)&&true)))=true;rw[a.dV,b.dV];rfl
theorem wc (t:Tr)(hf:t.lf=false):t.lk nf a=.tuple ([.str t.hd]++t.kids.map (Tr.lk nf a)):=by
 cases t with
 |bI=>cases hf
 |bK=>cases hf
 |_=>rfl
theorem C4 {t:Tr}(h:t.ok nf=true)(d:c∈t.kids):c.ok nf=true:=by
 cases t with
 |bI=>cases d
 |bK=>cases d
 |un _ t=>rw[ah.mp d];exact h
 |two o a b=>
  have h:(a.ok nf&&b.ok nf)=true:=h;rw[au]at h;rcases aq.mp d with rfl|d
  ·exact h.1
  ·rw[ah.mp d];exact h.2
theorem RU (t:Tr):t.kids.length<=2:=by cases t<;>(unfold Tr.kids;simp)
theorem RV (h:(eW nf f).isSome=true):∃i,nf f=some i/\1<=i/\i<=10 ^ 30:=by
 unfold eW at h;split at h
 ·rename_i i e;split at h
  ·rename_i a;exact⟨i,e,a⟩
  ·cases h
 ·cases h
theorem z8b {fs:List Str}(hn:∀f i,nf f=some i->biD "int" [.str f]=.ok (.int i))(hk:∀n,n∈fs↔lkG ks n=some ("fact":Str)):∀(k:Nat) (t:Tr),t.dp<=k->t.ok nf=true->
  nG k [t.enc,.list (fs.map .str)]=.ok (.fr,t.lk nf ks)
 |0,t,h,_=>absurd (CZ t) (by omega)
 |k+1,t,h,l=>by
  refine eT ?_;have g:∀n:Str,Tr.bK n=t->Tt [] [nG k] (.tv (.cmp .In (.ix (.var 0) (.int 1)) (.var 1))) [some (.od,t.enc),some (.od,.list (fs.map .str))] (decide (n∈fs)):=λn e=>by subst e;exact bF (eD (op:=.In) (y:=.list (fs.map .str)) (aS (aD rfl) aE.e rfl rfl).e (aD rfl) (HP n fs)).e rfl
  cases hf:t.lf with
  |true=>
   cases t with
   |bI n f=>obtain⟨i,e,_⟩:=RV l;unfold Tr.lk;rw[e];exact iS (iT _ rfl) (qk rfl) (bY (dA (fD (aQ aY (aQ (aS (aD rfl) aE.e rfl rfl) (aQ (eU (aV (aS (aD rfl) aE.e rfl rfl).e bL) (hn f i e) rfl) bT))))))
   |bK n=>
    refine fT (iT _ rfl) Ih ?_;unfold Tr.lk;have d:=qM (iT (w:="is") (Tr.bK n) rfl) λ_=>g n rfl;by_cases h:n∈fs
    ·rw[qe ((hk n).mp h)];exact iS d (by rw[qk h];rfl) (bY (dA (fD (aQ aY (aQ (aS (aD rfl) aE.e rfl rfl) (aQ aE bT))))))
    ·rw[qf λz=>h ((hk n).mpr z)];exact fT d (by rw[ql h];rfl) (iS (iT _ rfl) (qk rfl) (bY (dA (v_var rfl rfl))))
   |un=>cases hf
   |two=>cases hf
  |false=>
   have q:decide (t.hd=("at":Str))=false:=by
    cases t with
    |two o a b=>exact(t6 o).1
    |un u t=>exact(t5 u).1
    |_=>cases hf
   have j:decide (t.hd=("is":Str))=false:=by
    cases t with
    |two o a b=>exact(t6 o).2
    |un u t=>exact(t5 u).2
    |_=>cases hf
   have d:Tt [] [nG k] (.and (.tv (.cmp .Eq (.ix (.var 0) (.int 0)) (.str "is"))) (.tv (.cmp .In (.ix (.var 0) (.int 1)) (.var 1)))) [some (.od,t.enc),some (.od,.list (fs.map .str))] (decide (t.hd=("is":Str))&&false):=qM (iT t rfl) λz=>by rw[j]at z;cases z
   refine fT (iT t rfl) q (fT d (by rw[j];rfl) (fT (iT t rfl) j (bY (dA ?_))));have m:=z4i (Φ:=[nG k]) (ρ:=[some (.od,t.enc),some (.od,.list (fs.map .str))]) (nt:=1) (js:=[1]) (N':=["_law_part","_law_facts"]) (tg:=.nm 0) (it:=.tv (.sl (.var 0) (.tv (.int 1)) .nil)) (elt:=.call 0 "_law_looked" (.cons (.var 0) (.cons (.var 1) .nil))) (λ_=>true) (Tr.lk nf ks) (eR (CW t hf rfl) rfl) rfl (λc=>[some (.al,c.enc),some (.od,.list (fs.map .str))]) (λc _=>yz c.im) (λ_ _=>r6) (λc p _=>eX (aV (v_var rfl c.im).e (aV (aD rfl) bL)) rfl (z8b hn hk k c (by have:=CY p;omega) (C4 l p)) c.dV);rw[show(t.kids.filter λ_=>true)=t.kids by simp]at m;have im:=by have:=t.dV (nf:=nf) (ks:=ks);rw[wc t hf]at this;exact this
   rw[wc t hf];exact x8 (Ev.of (qL (Ev.of (gH (aQ (aS (aD rfl) aE.e t.CU rfl) bT))) (Ev.of m) (add_list (by rw[ak];have:=RU t;show 1+_<=_;omega)) im)) rfl (Ph _ _) im
def dec (i:Int):Str:=(toString i:String)
theorem RW (h0:0<=i)(h:i<10 ^ 40):(dec i).length<=40:=by
 obtain⟨n,rfl⟩:=d4 h0;unfold dec;rw[Str.ofString_eq_toList];show(List.toArray (List.map fo n.repr.toList)).size<=40;rw[bn,ak,j7,mv];refine(km dc dc).mpr ?_;have:n<((10 ^ 40:Nat):Int):=by simpa using h
 exact Int.ofNat_lt.mp this
theorem RX {i:Int}(h0:0<=i)(h:i<10 ^ 40):i.natAbs.log2<1920:=by
 by_cases z:i.natAbs=0
 ·rw[z];decide
 ·have a:i.natAbs<2 ^ 200:=by omega
  have:=(Nat.log2_lt z).mpr a;omega
theorem Il (n:Nat):(dec (n:Int)).cps.toList=(di 10 n).map fo:=by have e:(toString (n:Int):String)=n.repr:=rfl;unfold dec;rw[e,Str.ofString_eq_toList,j7,mv]
theorem RY:∀n,∀c∈(di 10 n).map fo,33<=c/\c<127:=by
 have dc:∀d,d<10->(lc d).toNat=48+d:=by decide
 intro n
 induction n using l4 with
 |_ n b=>
  by_cases h:n<10
  ·rw[lp h];intro c a;rw[ah.mp a,dc n h];omega
  ·have t:di 10 (n/10)++di 10 (n%10)=di 10 (10*(n/10)+n%10):=j2 (by decide) (by omega) (by omega);rw[show 10*(n/10)+n%10=n by omega]at t;rw[<-t,b8];intro c a;rcases bh.mp a with a|a
   ·exact b (n/10) (by omega) c a
   ·exact b (n%10) (by omega) c a
abbrev Im (b:Nat)(f:Str):Prop:=f.length<=b/\∀c∈f.cps.toList,33<=c/\c<127
theorem RZ (h0:0<=i)(h:i<10 ^ 40):Im 40 (dec i):=by refine⟨RW h0 h,?_⟩;obtain⟨n,rfl⟩:=d4 h0;intro c a;exact RY n c (Il n▸a)
theorem Io:∀d:Nat,d<10->(lc d).toNat=48+d:=by decide
theorem Ip (h:d<10):di 10 d=[lc d]:=lp h
theorem R0 (a:0<q)(hd:d<10):di 10 (q*10+d)=di 10 q++[lc d]:=by rw[Nat.mul_comm,<-j2 dc a hd,Ip hd]
theorem R1 (l:List Nat)(c:Nat):gW (l++[c])=gW l*10+(c-48):=by unfold gW;rw[List.foldl_append];rfl
theorem R3:∀n:Nat,0<n->gW ((di 10 n).map fo)=n/\(∀c∈(di 10 n).map fo,iM c=true)/\(di 10 n).map fo≠[]/\((di 10 n).map fo).head?≠some 48:=by
 intro n
 induction n using l4 with
 |_ n g=>
  intro h0;have hm:n%10<10:=Nat.mod_lt n dc;have b:iM (48+n%10)=true:=by unfold iM;rw[qk (by omega),qk (by omega)];rfl
  by_cases h:n<10
  ·rw[Ip h,br,Io n h];refine⟨by show 0*10+(48+n-48)=n;omega,λc d=>?_,(by simp),λz=>?_⟩
   ·rw[ah.mp d];rw[show n%10=n by omega]at b;exact b
   ·have o:48+n=48:=qg z;omega
  ·have e:n/10*10+n%10=n:=by omega
   have q0:0<n/10:=by omega
   obtain⟨i,j,k,l⟩:=g (n/10) (by omega) q0;have m:(di 10 n).map fo=(di 10 (n/10)).map fo++[48+n%10]:=by rw[<-Io _ hm,<-e,R0 q0 hm,b8,e];rfl
   rw[m];refine⟨by rw[R1,i];omega,λc d=>?_,by simp,λz=>l ?_⟩
   ·rcases bh.mp d with d|d
    ·exact j c d
    ·rw[ah.mp d];exact b
   ·cases f:(di 10 (n/10)).map fo with
    |nil=>exact absurd f k
    |cons a r=>rw[f]at z;exact z
theorem R4 (h:n<=1000000000000000000000000000000):((di 10 n).map fo).length<=31:=by rw[ak];exact(km dc dc).mpr (by omega)
theorem R5 (h0:1<=n)(f:n<=1000000000000000000000000000000):(gW (dec n).cps.toList:Int)=n/\(∀c∈(dec n).cps.toList,iM c=true)/\1<=(dec n).cps.toList.length/\(dec n).cps.toList.length<=31/\(dec n).cps.toList.head?≠some 48:=by obtain⟨m,rfl⟩:=d4 (show 0<=n by omega);rw[Il];obtain⟨a,b,d,e⟩:=R3 m (by omega);refine⟨by rw[a],b,?_,R4 (by omega),e⟩;have:=j4.mpr d;omega
theorem R6 (h0:1<=i)(f:i<=1000000000000000000000000000000):(eW dM (dec i)).isSome=true:=by
 obtain⟨a,b,c,d,e⟩:=R5 h0 f;have:dM (dec i)=some i:=by unfold dM;rw[qe ⟨⟨c,d⟩,bj.mpr b,λz=>e z.1⟩,a]
 unfold eW;rw[this]
 dsimp only
 rw[qe ⟨h0,by omega⟩];rfl
def Tr.GLb (b:Nat)(ns:List Str):Tr->Prop
 |.bI w f=>w∈ns/\Im b f
 |.bK w=>w∈ns
 |.un _ t=>t.GLb b ns
 |.two _ x y=>x.GLb b ns/\y.GLb b ns
abbrev Tr.GM (m:Bool)(ns:List Str)(t:Tr):Prop:=t.GLb 40 ns/\t.ok dM=true/\t.wf m=true
theorem R7 (h0:0<=k)(h:k<10 ^ 40):biD "str" [.int k]=.ok (.str (dec k)):=by show(if k.natAbs.log2<1920 then _ else _)=_;rw[qe (RX h0 h)];rfl
theorem Iq {d:G}{ns:List Str}(hn:ns.length=27)(f:ρ[1]?=some (some (g,.list (ns.map .str))))(h:ρ[3]?=some (some (d,.int m)))(a:0<j/\j<=27):∃w∈ns,Vv [] Φ (.ix (.var 1) (.bin .Mod (.var 3) (.int j))) ρ (.str w):=by
 have b:0<=m%j:=i8 _ (by omega);have c:m%j<ns.length:=by have:=ol m a.1;omega
 exact⟨ns.getD (m%j).toNat ⟨#[]⟩,getD_mem b c,aS (aD f) (aF (aD h) aE.e (cM a.1) rfl).e (tO b c) rfl⟩
theorem R8 {n:Int}{ns:List Str}(hn:ns.length=27):∃t:Tr,t.lf=true/\t.GM false ns/\lC [.int n,.list (ns.map .str)]=.ok (.fr,t.enc):=by
 let Q:Res Out->Prop:=λr=>∃t:Tr,t.lf=true/\t.GM false ns/\r=.ok (.rt .fr t.enc)
 suffices h:Q (aK [] [] pW [some (.od,.int n),some (.od,.list (ns.map .str)),none,none,none]) by obtain⟨t,l,A,f⟩:=h;exact⟨t,l,A,eT f⟩
 unfold pW;refine aO (dE (aF (aD rfl) aE.e (cM dc) rfl)) (aO (dE (aF (d:=.int (n/10)) (aD rfl) aE.e (hV dc dc) rfl)) ?_);generalize n/10=m;show Q (aK [] [] _ [some (.od,.int n),some (.od,.list (ns.map .str)),some (.al,.int (n%10)),some (.al,.int m),none]);have g:∀{ρ:Rho} {j:Int},ρ[1]?=some (some (.od,.list (ns.map .str)))->ρ[3]?=some (some (.al,.int m))->0<j/\j<=27->∃t:Tr,t.lf=true/\t.GM false ns/\aK [] [] (.ret (.tup (.cons (.str "is") (.cons (.ix (.var 1) (.bin .Mod (.var 3) (.int j))) .nil)))) ρ=.ok (.rt .fr t.enc):=λl f x=>by obtain⟨w,y,e⟩:=Iq (Φ:=[]) hn l f x;exact⟨.bK w,rfl,⟨y,rfl,rfl⟩,dA (fD (aQ aY (aQ e bT)))⟩
 have o:∀{ρ:Rho} {j i:Int} {c:C},ρ[1]?=some (some (.od,.list (ns.map .str)))->ρ[3]?=some (some (.al,.int m))->0<j/\j<=27->Ev [] [] c ρ (.int i)->1<=i->i<=1000000000000000000000000000000->∃t:Tr,t.lf=true/\t.GM false ns/\aK [] [] (.ret (.tup (.cons (.str "at") (.cons (.ix (.var 1) (.bin .Mod (.var 3) (.int j))) (.cons (.bi "str" (.cons c .nil)) .nil))))) ρ=.ok (.rt .fr t.enc):=λl f x B u v=>by obtain⟨w,y,e⟩:=Iq (Φ:=[]) hn l f x;exact⟨.bI w (dec _),rfl,⟨⟨y,RZ (by omega) (by omega)⟩,R6 u v,rfl⟩,dA (fD (aQ aY (aQ e (aQ (eU (aV B bL) (R7 (by omega) (by omega)) rfl) bT))))⟩
 have z:∀{ρ:Rho} {p q:S},(∃t:Tr,t.lf=true/\t.GM false ns/\aK [] [] p ρ=.ok (.rt .fr t.enc))->Q (aK [] [] (.seq p q) ρ):=λ⟨t,a,b,c⟩=>⟨t,a,b,bY c⟩;refine qS (bF (eD (k:=decide (n%10<3)) (aD rfl) aE.e rfl).e rfl) (λ_=>?_) λ_=>?_
 ·obtain⟨t,a,b,c⟩:=g (ρ:=[some (.od,.int n),some (.od,.list (ns.map .str)),some (.al,.int (n%10)),some (.al,.int m),none]) (j:=6) rfl rfl dc;exact⟨_,_,bY c,t,a,b,rfl⟩
 refine qS (bF (eD (k:=decide (n%10<6)) (aD rfl) aE.e rfl).e rfl) (λ_=>?_) λ_=>?_
 ·have u:0<=m/3%4:=by omega
  have v:m/3%4<(([1,2+m/12%5,1000000000000000000000000000000,m/12%1000000000000000000000000000000+1]:List Int).length:Int):=by show _<(4:Int);omega
  have hm:=getD_mem (d:=(0:Int)) u v;simp only[aq,iz,or_false]at hm;have ev:∀{ρ:Rho},ρ[4]?=some (some (.fr,.list (([1,2+m/12%5,1000000000000000000000000000000,m/12%1000000000000000000000000000000+1]:List Int).map .int)))->ρ[3]?=some (some (.al,.int m))->Ev [] [] (.ix (.var 4) (.bin .Mod (.bin .FloorDiv (.var 3) (.int 3)) (.int 4))) ρ (.int (([1,2+m/12%5,1000000000000000000000000000000,m/12%1000000000000000000000000000000+1]:List Int).getD (m/3%4).toNat 0)):=λD f=>(aS (aD D) (aF (aF (d:=.int (m/3)) (aD f) aE.e (hV dc dc) rfl).e aE.e (cM dc) rfl).e (tP u v) rfl).e;have s:∀{ρ:Rho},ρ[3]?=some (some (.al,.int m))->Vv [] [] (.bin .FloorDiv (.var 3) (.int 12)) ρ (.int (m/12)):=λf=>aF (aD f) aE.e (hV dc dc) rfl;obtain⟨t,a,b,c⟩:=o (ρ:=[some (.od,.int n),some (.od,.list (ns.map .str)),some (.al,.int (n%10)),some (.al,.int m),some (.fr,.list (([1,2+m/12%5,1000000000000000000000000000000,m/12%1000000000000000000000000000000+1]:List Int).map .int))]) (j:=3) rfl rfl dc (ev rfl rfl) (by omega) (by omega);refine⟨_,_,hF (iR (gH (ds:=([1,2+m/12%5,1000000000000000000000000000000,m/12%1000000000000000000000000000000+1]:List Int).map .int) (aQ aE (aQ (aF aE.e (aF (s rfl).e aE.e (cM dc) rfl).e rfl rfl) (aQ GJ (aQ (aF (aF (s rfl).e GJ.e (cM dc) rfl).e aE.e rfl rfl) bT))))) rfl) (bY c),t,a,b,rfl⟩
 refine qS (nX (aD rfl)) (λ_=>?_) λ_=>?_
 ·obtain⟨t,a,b,c⟩:=o (ρ:=[some (.od,.int n),some (.od,.list (ns.map .str)),some (.al,.int (n%10)),some (.al,.int m),none]) (j:=9) (c:=.bin .Add (.int 1) (.bin .Mod (.bin .FloorDiv (.var 3) (.int 9)) (.int 3))) rfl rfl dc (aF (d:=.int (1+m/9%3)) aE.e (aF (aF (d:=.int (m/9)) (aD rfl) aE.e (hV dc dc) rfl).e aE.e (cM dc) rfl).e rfl rfl).e (by omega) (by omega);exact⟨_,_,bY c,t,a,b,rfl⟩
 refine qS (nX (aD rfl)) (λ_=>?_) λ_=>z (g rfl rfl dc);obtain⟨t,a,b,c⟩:=g (ρ:=[some (.od,.int n),some (.od,.list (ns.map .str)),some (.al,.int (n%10)),some (.al,.int m),none]) (j:=10) rfl rfl dc;exact⟨_,_,bY c,t,a,b,rfl⟩
theorem Ir (h:c[i]?=some (some (.fr,.list ((pre++[t]).map Tr.enc)))):aK [] Φ (.pop j i) c=.ok (.nx (((c.set i (some (.fr,.list (pre.map Tr.enc)))).map z0g).set j (some (.al,t.enc)))):=by
 show(match c[i]? with|some (some (.fr,.list a))=>(match lN a with|some d=>Res.ok (Out.nx (((c.set i (some (.fr,.list a.dropLast))).map z0g).set j (some (.al,d))))|none=>.no)|_=>.no)=_;have e:lN ((pre++[t]).map Tr.enc)=some t.enc:=by unfold lN;rw[b8];simp[Tr.im]
 have b:((pre++[t]).map Tr.enc).dropLast=pre.map Tr.enc:=by rw[b8];simp
 rw[h]
 dsimp only
 rw[e];rw[b]
theorem yK (h:ρ[i]?=some (some (.fr,.list ((pre++[t]).map Tr.enc))))(m:pre.length<=100)(j:(ρ.set i (some (.fr,.list (pre.map Tr.enc)))).map z0g=ρ1)(f:Vv [] Φ a ρ x)(g:Av [] Φ r ρ1 b):aK [] Φ (.pap i a r) ρ=.ok (.nx ((ρ1.set i (some (.fr,.list (pre.map Tr.enc++[.tuple (x::t.enc::b)])))).map z0g)):=by
 show(aG [] Φ a ρ>>=λx=>match ρ[i]? with|some (some (.fr,.list c))=>(match lN c with|some d=>dD [] Φ r ((ρ.set i (some (.fr,.list c.dropLast))).map z0g)>>=λb=>if(imm x.2&&imms (b.map (·.2))&&decide (c.length<=LIM))=true then Res.ok (Out.nx ((((ρ.set i (some (.fr,.list c.dropLast))).map z0g).set i (some (.fr,.list (c.dropLast++[.tuple (x.2::d::b.map (·.2))])))).map z0g))else .no|none=>.no)|_=>.no)=_;have e:lN ((pre++[t]).map Tr.enc)=some t.enc:=by unfold lN;rw[b8];simp[Tr.im]
 have k:((pre++[t]).map Tr.enc).dropLast=pre.map Tr.enc:=by rw[b8];simp
 rw[f.1,Res.aB,h]
 dsimp only
 rw[e]
 dsimp only
 rw[k,j,g.1,Res.aB];have l:(b.map λd=>((G.fr,d):GD)).map (·.2)=b:=by rw[dv];exact mr _
 rw[l,f.2,g.2,qk (show((pre++[t]).map Tr.enc).length<=LIM by rw[ak,ax];show pre.length+1<=LIM;unfold LIM;omega)];rfl
abbrev RT (x0 x1:D)(ts:List Tr)(u3 u4:Option GD):Rho:=[some (.od,x0),some (.od,x1),some (.fr,.list (ts.map Tr.enc)),u3,u4]
theorem t7 (pre:List Tr)(t:Tr):(pre++[t]).map Tr.enc=pre.map Tr.enc++[t.enc]:=by rw[b8];rfl
theorem merge {b:Tr}{W:C}(hl:pre.length<=90)(hW:Vv [] Φ W (RT x0 x1 (pre++[a]) (z0g u3) (some (.al,b.enc))) (.str (opS o))):
  ∃v3,aK [] Φ (.seq (.pop 4 2) (.seq (.pap 2 W (.cons (.var 4) .nil)) .nil)) (RT x0 x1 (pre++[a]++[b]) u3 u4)=.ok (.nx (RT x0 x1 (pre++[.two o a b]) v3 (some (.al,b.enc)))):=by
 have e2:=yK (ρ:=RT x0 x1 (pre++[a]) (z0g u3) (some (.al,b.enc))) (ρ1:=RT x0 x1 pre (z0g (z0g u3)) (some (.al,b.enc))) (i:=2) (r:=.cons (.var 4) .nil) rfl (by omega) (by show[_,_,_,_,z0g (some (.al,b.enc))]=_;rw[yA b.im];rfl) hW (aQ (v_var rfl b.im) bT);refine⟨z0g (z0g (z0g u3)),hF (Ir rfl) (hF (e2.trans ?_) pI)⟩;show Res.ok (Out.nx [_,_,some (.fr,.list (pre.map Tr.enc++[.tuple [.str (opS o),a.enc,b.enc]])),_,z0g (some (.al,b.enc))])=_;rw[yA b.im];show _=Res.ok (Out.nx [_,_,some (.fr,.list ((pre++[Tr.two o a b]).map Tr.enc)),_,_]);rw[t7];rfl
def Tr.nd:Tr->Nat
 |.bI _ _=>1
 |.bK _=>1
 |.un _ t=>t.nd+1
 |.two _ a b=>a.nd+b.nd
theorem yL:∀t:Tr,1<=t.nd
 |.bI _ _=>ag _
 |.bK _=>ag _
 |.un _ t=>by show 1<=t.nd+1;omega
 |.two _ a b=>by show 1<=a.nd+b.nd;have:=yL a;omega
theorem we:∀t:Tr,t.dp<=t.nd
 |.bI _ _=>ag _
 |.bK _=>ag _
 |.un _ t=>d3 (we t)
 |.two _ a b=>by show max a.dp b.dp+1<=a.nd+b.nd;have:=we a;have:=we b;have:=yL a;have:=yL b;omega
structure Cl (P:Tr->Prop)(w:Tr->Nat):Prop where
 pos:∀t,1<=w t
 w2:∀o a b,w (.two o a b)=w a+w b
 w1:∀a,w (.un .no a)=w a+1
 p2:∀o a b,P a->P b->P (.two o a b)
 p1:∀a,P a->P (.un .no a)
def iU (P:Tr->Prop)(w:Tr->Nat)(B:Nat)(ts:List Tr):Prop:=(∀t∈ts,P t)/\(ts.map w).sum<=B
section
variable {P:Tr->Prop}{w:Tr->Nat}{B:Nat}{ts pre:List Tr}{a b t:Tr}{o:Bool}
theorem t8 (c:Cl P w)(h:iU P w B ts):ts.length<=B:=by
 refine bp ?_ h.2;clear h
 induction ts with
 |nil=>exact ag _
 |cons t ts a=>rw[br,nr,ay];have:=c.pos t;omega
theorem C5 (h:∀x∈pre,P x)(b:P t)(hs:(pre.map w).sum+w t<=c):iU P w c (pre++[t]):=by
 refine⟨λx d=>?_,?_⟩
 ·rcases bh.mp d with a|a
  ·exact h x a
  ·rw[ah.mp a];exact b
 ·simp;omega
theorem yM (c:Cl P w)(h:iU P w B (pre++[a]++[b])):iU P w B (pre++[.two o a b]):=by have z:=h.2;simp at z;exact C5 (λx d=>h.1 x (by simp[d])) (c.p2 o a b (h.1 a (by simp)) (h.1 b (by simp))) (by rw[c.w2];omega)
theorem Iu (h:iU P w B ts)(a:P t)(b:w t=1):iU P w (B+1) (ts++[t]):=C5 h.1 a (by have:=h.2;omega)
theorem Iv (c:Cl P w)(h:iU P w B (pre++[a])):iU P w (B+1) (pre++[.un .no a]):=by have z:=h.2;simp at z;exact C5 (λx b=>h.1 x (by simp[b])) (c.p1 a (h.1 a (by simp))) (by rw[c.w1];omega)
theorem Iw (h:iU P w B ts):iU P w (B+1) ts:=⟨h.1,k4 h.2⟩
end
theorem Iy (x:a.GM m ns)(y:b.GM m ns):(Tr.two o a b).GM m ns:=⟨⟨x.1,y.1⟩,by show(a.ok dM&&b.ok dM)=true;rw[x.2.1,y.2.1];rfl,by show(a.wf m&&b.wf m)=true;rw[x.2.2,y.2.2];rfl⟩
theorem t9 (ns:List Str):Cl (Tr.GM false ns) Tr.nd:=⟨yL,λ_ _ _=>rfl,λ_=>rfl,λ_ _ _=>Iy,λ_ h=>h⟩
theorem tI {ts:List Tr}(h:1<ts.length):∃pre a b,ts=pre++[a]++[b]:=by refine⟨ts.dropLast.dropLast,ts.dropLast.getLast (λz=>by have:=congrArg fj z;rw[mh]at this;simp at this;omega),ts.getLast (λz=>by rw[z]at h;simp at h),?_⟩;rw[gr,gr]
theorem tH (h:ts≠[]):∃pre a,ts=pre++[a]:=⟨ts.dropLast,ts.getLast h,(gr h).symm⟩
theorem len_T {ts:List Tr}(h:ρ[2]?=some (some (g,.list (ts.map Tr.enc)))):Vv [] Φ (.bi "len" (.cons (.var 2) .nil)) ρ (.int (ts.length:Int)):=eU (aV (aD h) bL) (by show Res.ok (PyData.int ((ts.map Tr.enc).length:Int))=_;rw[ak]) rfl
theorem wg (a:ws=([("and":Str),("or":Str)])\/ws=([("or":Str),("and":Str)]))(h0:0<=i)(b:i<2):∃o,iD (.list (ws.map .str)) (.int i)=.ok (.str (opS o)):=by
 rcases a with rfl|rfl<;>rcases(show i=0\/i=1 by omega)with rfl|rfl
 ·exact⟨true,rfl⟩
 ·exact⟨false,rfl⟩
 ·exact⟨false,rfl⟩
 ·exact⟨true,rfl⟩
theorem Iz {P:Rho->Prop}(I:Nat->Rho->Prop)(hs:∀k m,I k m->(c m=.ok false/\P m)\/∃b a,k=b+1/\c m=.ok true/\f m=.ok (.nx a)/\I b a):∀k n m,k<n->I k m->∃a,sZ c f n m=.ok (.nx a)/\P a
 |k,0,_,h,_=>by omega
 |k,n+1,m,h,j=>by
  rcases hs k m j with⟨d,g⟩|⟨b,a,rfl,d,g,l⟩
  ·exact⟨m,by show(c m>>=_)=_;rw[d];rfl,g⟩
  ·obtain⟨i,e,p⟩:=Iz I hs b n a (by omega) l;refine⟨i,?_,p⟩;show(c m>>=_)=_;rw[d,g];exact e
theorem pD {Q:Res Out->Prop}{P:Rho->Prop}(I:Nat->Rho->Prop)(k:Nat)(hn:k<n)(h0:I k f)(hs:∀k f,I k f->(Tt Κ Φ c f false/\P f)\/∃d a,k=d+1/\Tt Κ Φ c f true/\aK Κ Φ b f=.ok (.nx a)/\I d a)(hk:∀a,P a->Q (aK Κ Φ rest a)):Q (aK Κ Φ (.seq (.wh n c b) rest) f):=by obtain⟨a,e,p⟩:=Iz I hs k n f hn h0;exact aO e (hk a p)
theorem yN (b:Tt Κ Φ c ρ k)(d:k=true->Nx I (aK Κ Φ p ρ))(f:k=false->Nx I (aK Κ Φ q ρ)):Nx I (aK Κ Φ (.seq (.aT c p q) .nil) ρ):=HJ (Q:=Nx I) (rest:=.nil) b (λh=>by
 obtain⟨a,e,z⟩:=d h;exact⟨a,e,lX z⟩) λh=>by
 obtain⟨a,e,z⟩:=f h;exact⟨a,e,lX z⟩
theorem IA (hn:ns.length=27)(h0:f≠[])(F:f.length<=20):∃t:Tr,t.GM false ns/\t.nd<=f.length/\iL [.list (f.map .int),.list (ns.map .str)]=.ok (.fr,t.enc):=by
 let Q:Res Out->Prop:=λr=>∃t:Tr,t.GM false ns/\t.nd<=f.length/\r=.ok (.rt .fr t.enc)
 suffices h:Q (aK [] [lC] sD [some (.od,.list (f.map .int)),some (.od,.list (ns.map .str)),none,none,none]) by obtain⟨t,v,w,y⟩:=h;exact⟨t,v,w,eT y⟩
 refine aO (iR (gH bT) rfl) (q_nm (B6 rfl rfl rfl) (λ_=>rfl) (λpre l=>∃c g d,l=RT (.list (f.map .int)) (.list (ns.map .str)) c g d/\iU (Tr.GM false ns) Tr.nd pre.length c/\(pre≠[]->c≠[])) ⟨[],none,none,rfl,⟨nofun,ag _⟩,λz=>absurd rfl z⟩ ?_ ?_)
 ·rintro pre x u l A ⟨c,g,d,rfl,ok,ne⟩
  have q:=congrArg fj A;rw[ax,ay]at q;have p:=t8 (t9 ns) ok;have pl:(pre++[x]).length=pre.length+1:=by simp
  refine yN (qM (bF (k:=decide ((1:Int)<c.length)) (eD (k:=decide ((1:Int)<c.length)) (len_T rfl).e aE.e rfl).e rfl) λ_=>bF (eD (k:=decide (x%5<2)) (aF (aD rfl) aE.e (cM dc) rfl).e aE.e rfl).e rfl) (λh=>?_) λh=>yN (qM (bF (k:=decide ((0:Int)<c.length)) (eD (k:=decide ((0:Int)<c.length)) (len_T rfl).e aE.e rfl).e rfl) λ_=>nX (aF (aD rfl) aE.e (cM dc) rfl).e) (λh=>?_) λh=>?_
  ·rw[au,decide_eq_true_eq]at h;obtain⟨j,a,b,rfl⟩:=tI (ts:=c) (by grind);obtain⟨o,s⟩:=wg (i:=x/5%2) (.inl rfl) (by omega) (by omega);have m:j.length<=90:=by simp at p;omega
   obtain⟨B,e⟩:=merge (x0:=.list (f.map .int)) (u3:=some (.al,.int x)) (a:=a) (W:=.ix (.lst (.cons (.str "and") (.cons (.str "or") .nil))) (.bin .Mod (.bin .FloorDiv (.var 3) (.int 5)) (.int 2))) m (aS (Ev.of (gH (aQ aY (aQ aY bT)))) (aF (aF (aD rfl) aE.e (hV dc dc) rfl).e aE.e (cM dc) rfl).e s rfl);exact⟨_,e,_,_,_,rfl,by rw[pl];exact Iw (yM (t9 ns) ok),λ_ z=>by simp at z⟩
  ·rw[au,decide_eq_true_eq]at h;obtain⟨j,a,rfl⟩:=tH (ts:=c) (λz=>by rw[z]at h;have:=h.1;simp at this);have m:j.length<=90:=by simp at p;omega
   refine⟨_,hF (yK (Φ:=[lC]) (ρ:=RT (.list (f.map .int)) (.list (ns.map .str)) (j++[a]) (some (.al,.int x)) d) (ρ1:=RT (.list (f.map .int)) (.list (ns.map .str)) j (some (.al,.int x)) (z0g d)) (i:=2) (a:=.str "not") (t:=a) rfl (by omega) rfl aY bT) pI,j++[.un .no a],some (.al,.int x),z0g (z0g d),?_,by rw[pl];exact Iv (t9 ns) ok,λ_ z=>by simp at z⟩;show([_,_,some (G.fr,PyData.list (j.map Tr.enc++[(Tr.un .no a).enc])),_,_]:Rho)=_;rw[<-t7];rfl
  ·obtain⟨t,C,D,E⟩:=R8 (n:=x/5) hn;refine aO (yb (eX (aV (aF (aD rfl) aE.e (hV dc dc) rfl).e (aV (aD rfl) bL)) rfl E t.im) rfl (by grind)) (lX ⟨c++[t],some (.al,.int x),z0g d,?_,by rw[pl];exact Iu ok D (by cases t<;>first|rfl|cases C),λ_ z=>by simp at z⟩);rw[<-t7];rfl
 ·rintro l ⟨c,g,d,rfl,ok,ne⟩
  have p:=t8 (t9 ns) ok;have H:=j4.mpr (ne h0);refine pD (P:=λl=>∃t g d,l=RT (.list (f.map .int)) (.list (ns.map .str)) [t] g d/\iU (Tr.GM false ns) Tr.nd f.length [t]) (λk l=>∃c g d,l=RT (.list (f.map .int)) (.list (ns.map .str)) c g d/\iU (Tr.GM false ns) Tr.nd f.length c/\c.length=k+1) (c.length-1) (by omega) ⟨c,g,d,rfl,ok,by omega⟩ ?_ ?_
  ·rintro k l ⟨c,g,d,rfl,ok,hk⟩
   have p:=t8 (t9 ns) ok;have tc:Tt [] [lC] (.tv (.cmp .Gt (.bi "len" (.cons (.var 2) .nil)) (.int 1))) (RT (.list (f.map .int)) (.list (ns.map .str)) c g d) (decide ((1:Int)<c.length)):=bF (eD (len_T rfl).e aE.e rfl).e rfl;cases k with
   |zero=>obtain⟨j,a,rfl⟩:=tH (ts:=c) (λz=>by rw[z]at hk;cases hk);have q:=gh (by simpa using hk);subst q;exact .inl ⟨tc,a,g,d,rfl,ok⟩
   |succ k=>
    rw[qk (by omega)]at tc;obtain⟨j,a,b,rfl⟩:=tI (ts:=c) (by omega);have m:j.length=k:=by simpa using hk
    obtain⟨o,s⟩:=wg (i:=((j++[a]).length:Int)%2) (.inr rfl) (by omega) (by omega);obtain⟨B,e⟩:=merge (W:=.ix (.lst (.cons (.str "or") (.cons (.str "and") .nil))) (.bin .Mod (.bi "len" (.cons (.var 2) .nil)) (.int 2))) (by omega) (aS (Ev.of (gH (aQ aY (aQ aY bT)))) (aF (len_T rfl).e aE.e (cM dc) rfl).e s rfl);exact .inr ⟨k,_,rfl,tc,e,_,_,_,rfl,yM (t9 ns) ok,by simp[m]⟩
  ·rintro l ⟨t,g,d,rfl,ok⟩
   exact⟨t,ok.1 t (by simp),by have:=ok.2;simpa using this,bY (dA (aS (aD rfl) aE.e rfl t.im))⟩
theorem ua:∀{t:Tr},t.GLb e ns->∀c∈t.dU,c.GLb e ns/\c.lf=true
 |.bI _ _,h,c,d=>by rw[ah.mp d];exact⟨h,rfl⟩
 |.bK _,h,c,d=>by rw[ah.mp d];exact⟨h,rfl⟩
 |.un _ t,h,c,d=>ua (t:=t) h c d
 |.two _ a b,h,c,d=>(bh.mp d).elim (ua h.1 c) (ua h.2 c)
theorem yO:∀t:Tr,t.dU.length<=t.nd
 |.bI _ _=>ag _
 |.bK _=>ag _
 |.un _ t=>k4 (yO t)
 |.two _ a b=>by show(a.dU++b.dU).length<=a.nd+b.nd;rw[ax];have:=yO a;have:=yO b;omega
def Tr.wt:Tr->Nat
 |.bI _ _=>70
 |.bK _=>70
 |.un _ t=>t.wt+5
 |.two _ a b=>a.wt+b.wt
theorem yP:∀t:Tr,t.wt<=70*t.nd
 |.bI _ _=>ag _
 |.bK _=>ag _
 |.un _ t=>by show t.wt+5<=70*(t.nd+1);have:=yP t;omega
 |.two _ a b=>by show a.wt+b.wt<=70*(a.nd+b.nd);have:=yP a;have:=yP b;omega
theorem R9 (o:Bool):(opS o).length<=3:=by cases o<;>decide
theorem yQ (c:d<=41)(hs:∀w∈ns,w.length<=13):∀{t:Tr},t.GLb d ns->t.tx.length+10<=t.wt
 |.bI w f,h=>by show(w++(" >= ":Str)++f).length+10<=70;rw[bD,bD];have:=hs w h.1;have:=h.2.1;have e:(" >= ":Str).length=4:=rfl;omega
 |.bK w,h=>by show w.length+10<=70;have:=hs w h;omega
 |.un u t,h=>by show(fY u++(" ":Str)++t.tx).length+10<=t.wt+5;rw[bD,bD];have:=yQ c hs (t:=t) h;have g:=Ii u;have i:(" ":Str).length=1:=rfl;omega
 |.two o a b,h=>by show(("( ":Str)++a.tx++(" ":Str)++opS o++(" ":Str)++b.tx++(" )":Str)).length+10<=a.wt+b.wt;rw[bD,bD,bD,bD,bD,bD];have:=yQ c hs h.1;have:=yQ c hs h.2;have:=R9 o;have g:("( ":Str).length=2:=rfl;have i:(" ":Str).length=1:=rfl;have j:(" )":Str).length=2:=rfl;omega
def Tr.nm:Tr->Str
 |.bI w _=>w
 |.bK w=>w
 |_=>⟨#[]⟩
theorem Tr.R' {t:Tr}(h:t.lf=true):iD t.enc (.int 1)=.ok (.str t.nm):=by cases t<;>first|rfl|cases h
def hJ (ns:List Str)(c:Tr):Bool:=!decide (c.nm∈cut ns none (some 6))||(decide (c.hd=("at":Str))&& !decide (c.nm∈cut ns none (some 3)))
def sG (ns:List Str)(l:List Tr):D:=match l.find? (hJ ns)with
 |some c=>.str c.nm
 |none=>.none
theorem IB (a:f[1]?=some (some (g,.list (ns.map .str))))(c:f[3]?=some (some (d,.str w))):Tt [] Φ (.tv (.cmp .NotIn (.var 3) (.sl (.var 1) .nil (.tv (.int j))))) f (!decide (w∈cut ns none (some j))):=bF (k:=!decide (w∈cut ns none (some j))) (eD (k:=!decide (w∈cut ns none (some j))) (aD c) (Ev.of (nY (m:=PyData.str) (λ_=>rfl) (aD a) lQ (iQ aE.e))) (by show(inD (.str _) (.list _)>>=λb=>Res.ok (!b))=_;rw[HP];rfl)).e rfl
theorem Sa {t:Tr}(hd:t.dp<=8)(m:t.dU.length<=1000)(n:t.GLb o ns):tX [t.enc,.list (ns.map .str)]=.ok (.fr,sG ns t.dU):=by
 refine eT ?_
 let Q:Res Out->Prop:=λr=>r=.ok (.rt .fr (sG ns t.dU))
 show Q (aK [] [qR 8] Cz [some (.od,t.enc),some (.od,.list (ns.map .str)),none,none]);refine zl9 (GI nofun (x6 (aV (v_var rfl t.im).e bL) rfl (Ik 8 t hd m)) rfl) (λpre d=>(∃f a,d=[some (.od,t.enc),some (.od,.list (ns.map .str)),f,a])/\∀c∈pre,hJ ns c=false) ⟨⟨none,none,rfl⟩,nofun⟩ ?_ ?_
 ·rintro pre c g d i ⟨⟨f,a,rfl⟩,b⟩
  refine⟨_,yz c.im,?_⟩;have j:aK [] [qR 8] (.asg (.nm 3) (.ix (.var 2) (.int 1))) [some (.od,t.enc),some (.od,.list (ns.map .str)),some (.al,c.enc),a]=.ok (.nx [some (.od,t.enc),some (.od,.list (ns.map .str)),some (.al,c.enc),some (.al,.str c.nm)]):=dE (aS (aD rfl) aE.e (Tr.R' ((ua n c (by rw[i];simp)).2)) rfl);have l:Tt [] [qR 8] (.or (.tv (.cmp .NotIn (.var 3) (.sl (.var 1) .nil (.tv (.int 6))))) (.and (.tv (.cmp .Eq (.ix (.var 2) (.int 0)) (.str "at"))) (.tv (.cmp .NotIn (.var 3) (.sl (.var 1) .nil (.tv (.int 3))))))) [some (.od,t.enc),some (.od,.list (ns.map .str)),some (.al,c.enc),some (.al,.str c.nm)] (hJ ns c):=pH (IB rfl rfl) λ_=>qM (bF (k:=decide (c.hd=("at":Str))) (eD (k:=decide (c.hd=("at":Str))) (aS (aD rfl) aE.e c.CU rfl).e aY.e (by show Res.ok (cC (.str _) (.str _))=_;rw[jU])).e rfl) λ_=>IB rfl rfl;cases hu:hJ ns c with
  |true=>refine .inr ⟨_,_,hF j (iS l hu (bY (dA (v_var rfl rfl)))),?_⟩;show Res.ok (Out.rt G.fr (PyData.str c.nm))=.ok (.rt .fr (sG ns t.dU));unfold sG;rw[i,List.find?_append,om.mpr (λx h=>by rw[b x h];exact ca),lw hu];rfl
  |false=>
   refine .inl ⟨_,hF j (fT l hu pI),⟨_,_,rfl⟩,λx h=>?_⟩;rcases bh.mp h with h|h
   ·exact b x h
   ·rw[ah.mp h];exact hu
 ·rintro d ⟨⟨f,a,rfl⟩,b⟩
  show _=Res.ok (Out.rt G.fr (sG ns t.dU));unfold sG;rw[om.mpr (λx h=>by rw[b x h];exact ca)];exact bY (dA x4)
theorem IC:Vv [] Φ (.bin .Pow (.int 10) (.int 34)) a (.int 10000000000000000000000000000000000):=aF aE.e aE.e rfl rfl
theorem Se (c:Int):∃L:List Int,L.length=50/\lB [.int c,.int 50]=.ok (.fr,.list (L.map .int)):=by
 let E (L:List Int) (a:Int) (b f g:Option GD):Rho:=[some (.od,.int c),some (.od,.int 50),some (.fr,.list (L.map .int)),some (.al,.int a),b,f,g]
 let Q:Res Out->Prop:=λr=>∃L:List Int,L.length=50/\r=.ok (.rt .fr (.list (L.map .int)))
 suffices h:Q (aK [] [] sA [some (.od,.int c),some (.od,.int 50),none,none,none,none,none]) by obtain⟨L,p,q⟩:=h;exact⟨L,p,eT q⟩
 refine aO (iR (gH bT) rfl) (aO (dE (aF (aD rfl) aE.e (hV dc dc) rfl)) (q_nm (xs:=dm 50) (yc (aV (aD rfl) bL) (tQ dc dc)) (λ_=>rfl) (λpre i=>∃L a b f g,i=E L a b f g/\L.length=pre.length) ⟨[],_,none,none,none,rfl,rfl⟩ ?_ ?_))
 ·rintro pre k l i o ⟨L,a,b,f,g,rfl,j⟩
  have hk:k∈dm 50:=by rw[o];simp
  have s:=congrArg fj o;simp at s;have hk:=ew.mp hk;have t:∃n:Int,0<=n/\n<2147483629/\(c%1000000007+7919*(k:Int)*k+104729)*48271%2147483629=n:=⟨_,by omega,by omega,rfl⟩;obtain⟨n,A,B,u⟩:=t;have v:∃m:Int,0<=m/\m<2147483587/\n*n%2147483587=m:=⟨_,by omega,by omega,rfl⟩;obtain⟨m,m0,C,w⟩:=v;refine aO (dE (aF (aF (aF (aF (aF (aD rfl) aE.e (cM dc) rfl).e ((λh=>aF (aF aE.e (aD h) (mY (by omega)) rfl).e (aD h) (mY (by omega)) rfl) rfl).e rfl rfl).e aE.e rfl rfl).e aE.e (mY dc) rfl).e aE.e (by rw[cM dc,u]) rfl)) (aO (dE (aF (aF (aD rfl) (aD rfl) (mY (by omega)) rfl).e aE.e (by rw[cM dc,w]) rfl)) (aO (dE (aF (d:=.int (m*(m+1)*69621*(m+k+2)/97)) (aF (aF (aF (aD rfl) (aF (aD rfl) aE.e rfl rfl).e (mY (by omega)) rfl).e aE.e (mY dc) rfl).e (aF (aF (aD rfl) (aD rfl) rfl rfl).e aE.e rfl rfl).e (mY (by omega)) rfl).e aE.e (hV dc dc) rfl)) ?_));generalize m*(m+1)*69621*(m+k+2)/97=z;refine aO (yb (aF (aS (Ev.of (gH (ds:=([z,a]:List Int).map .int) (aQ (v_var rfl rfl) (aQ (v_var rfl rfl) bT)))) (aF (aD rfl) aE.e (cM dc) rfl).e (tP (by omega) ((λx y=>by show c%2<2;omega) z a)) rfl).e IC.e (cM dc) rfl) rfl (by grind)) (aO (dE (aF (aD rfl) IC.e (hV dc dc) rfl)) (lX ⟨L++[([z,a]:List Int).getD (c%2).toNat 0%10000000000000000000000000000000000],a/10000000000000000000000000000000000,some (.al,.int k),some (.al,.int m),some (.al,.int z),?_,by rw[ax,ax,j];rfl⟩));simp only[E,b8];rfl
 ·rintro i ⟨L,a,b,f,g,rfl,j⟩
  exact⟨L,j,bY (z8z rfl)⟩
abbrev nA (ns:List Str)(i:Nat):Str:=ns.getD i ⟨#[]⟩
def qp (ns:List Str):List Str:=(cut ns none (some 3)).map (λn=>("fact ":Str)++n)++[("open ":Str)++nA ns 3++(" for ":Str)++nA ns 0++(" against ":Str)++nA ns 1]++[("word ":Str)++nA ns 4++(" if ":Str)++nA ns 3]++[("open ":Str)++nA ns 5++(" for against ":Str)++nA ns 4]++[("claim ":Str)++nA ns 6++(" if some ":Str)++nA ns 2]
theorem ID:(cut ns none (some j)).length<=ns.length:=by unfold cut;rw[c8,dh];omega
theorem Sf (hn:ns.length=27)(hs:∀w∈ns,w.length<=13):tV [.list (ns.map .str)]=.ok (.fr,.list ((qp ns).map .str)):=by
 refine eT ?_;have a:∀i:Nat,i<27->(nA ns i).length<=13:=λi h=>hs _ (by have:=getD_mem (ns:=ns) (i:=(i:Int)) (d:=⟨#[]⟩) (by omega) (by omega);rwa [jk]at this);have v:∀{f:Rho} (i:Nat),f[0]?=some (some (.od,.list (ns.map .str)))->i<27->Vv [] [] (.ix (.var 0) (.int (i:Int))) f (.str (nA ns i)):=λi h o=>aS (aD h) aE.e (by rw[tO (by omega) (by omega),jk]) rfl;have b:=z4i (Κ:=[]) (Φ:=[]) (ρ:=[some (.od,.list (ns.map .str)),none]) (nt:=1) (js:=[]) (N':=["_law_name"]) (tg:=.nm 0) (it:=.tv (.sl (.var 0) .nil (.tv (.int 3)))) (elt:=.bin .Add (.str "fact ") (.var 0)) (λ_=>true) (λn=>.str (("fact ":Str)++n)) (eR (nY (λ_=>rfl) (aD rfl) lQ (iQ aE.e)) rfl) rfl (λn=>[some (.al,.str n)]) (λn _=>rfl) (λ_ _=>r6) (λn hm _=>aF aY.e (aD rfl) (add_str (by have:=hs n (ik (il hm));show 5+n.length<=1000;omega)) rfl);rw[fv.mpr λ_ _=>rfl]at b;have m:((cut ns none (some 3)).map λn=>PyData.str (("fact ":Str)++n))=((cut ns none (some 3)).map λn=>("fact ":Str)++n).map .str:=by rw[dv];rfl
 rw[m]at b;generalize hf:((cut ns none (some 3)).map λn=>("fact ":Str)++n)=fs at b;have fl:fs.length<=27:=by rw[<-hf,ak];have:=ID (ns:=ns) (j:=3);omega
 have p:=a 0 dc;have q:=a 1 dc;have r:=a 2 dc;have s:=a 3 dc;have t:=a 4 dc;have u:=a 5 dc;have y:=a 6 dc;have l1:("open ":Str).length=5:=rfl;have l2:(" for ":Str).length=5:=rfl;have z:(" against ":Str).length=9:=rfl;have A:("word ":Str).length=5:=rfl;have B:(" if ":Str).length=4:=rfl;have D:(" for against ":Str).length=13:=rfl;have E:("claim ":Str).length=6:=rfl;have F:(" if some ":Str).length=9:=rfl;have g:∀{L:List Str} {c:C} {x:Str},L.length<=40->Vv [] [] c [some (.od,.list (ns.map .str)),some (.fr,.list (L.map .str))] (.str x)->aK [] [] (.mut "append" 1 (.cons c .nil)) [some (.od,.list (ns.map .str)),some (.fr,.list (L.map .str))]=.ok (.nx [some (.od,.list (ns.map .str)),some (.fr,.list ((L++[x]).map .str))]):=λ{L c x} h k=>by rw[yb k rfl (by grind),b8];rfl
 have l:∀{L:List Str} {c:C} {x:Str},L.length<=40->Vv [] [] c [some (.od,.list (ns.map .str)),some (.fr,.list (L.map .str))] (.str x)->aK [] [] (.ret (.bin .Add (.var 1) (.lst (.cons c .nil)))) [some (.od,.list (ns.map .str)),some (.fr,.list (L.map .str))]=.ok (.rt .fr (.list ((L++[x]).map .str))):=λ{L c x} h k=>by rw[b8];exact x9 nofun (qL (aD rfl) (Ev.of (gH (aQ k bT))) (add_list (by rw[ak];show L.length+1<=1000;omega)) (b8▸nT _))
 unfold qp;rw[hf];refine hF (iR b (nT _)) (hF (g (by omega) (aF (aF (aF (aF (v_add aY.e (v 3 rfl dc).e (by omega)).e aY.e (add_str (by rw[bD];omega)) rfl).e (v 0 rfl dc).e (add_str (by rw[bD,bD];omega)) rfl).e aY.e (add_str (by rw[bD,bD,bD];omega)) rfl).e (v 1 rfl dc).e (add_str (by rw[bD,bD,bD,bD];omega)) rfl)) (hF (g (by grind) (aF (aF (v_add aY.e (v 4 rfl dc).e (by omega)).e aY.e (add_str (by rw[bD];omega)) rfl).e (v 3 rfl dc).e (add_str (by rw[bD,bD];omega)) rfl)) (hF (g (by grind) (aF (aF (v_add aY.e (v 5 rfl dc).e (by omega)).e aY.e (add_str (by rw[bD];omega)) rfl).e (v 4 rfl dc).e (add_str (by rw[bD,bD];omega)) rfl)) (bY (l (by grind) (aF (aF (v_add aY.e (v 6 rfl dc).e (by omega)).e aY.e (add_str (by rw[bD];omega)) rfl).e (v 2 rfl dc).e (add_str (by rw[bD,bD];omega)) rfl))))))
def qV (ns:List Str):List D:=(cut ns none (some 3)).map (λn=>PyData.tuple [.str "fact",.str n])++[.tuple [.str "open",.str (nA ns 3),.tuple [.str (nA ns 0)],.tuple [.str (nA ns 1)]]]
def yR (ns:List Str):List D:=[.tuple [.str "word",.str (nA ns 4),.tuple [.str "is",.str (nA ns 3)]],.tuple [.str "open",.str (nA ns 5),.tuple [],.tuple [.str (nA ns 4)]]]
def sI (ns:List Str):List D:=qV ns++yR ns++[.tuple [.str "claim",.str (nA ns 6),.tuple [.str "some",.tuple [.str "at",.str (nA ns 2),.int 1]]]]
theorem wj (c:imms a=true)(d:imms b=true):imms (a++b)=true:=mH.mpr λx e=>(bh.mp e).elim (mH.mp c x) (mH.mp d x)
theorem wm (ns:List Str):imms (qV ns)=true:=wj (mH.mpr λx a=>by obtain⟨n,_,rfl⟩:=cr.mp a;rfl) rfl
theorem Sg (hn:ns.length=27):tW [.list (ns.map .str)]=.ok (.fr,.list (sI ns)):=by
 refine eT ?_;have v:∀{b:Rho} (i:Int),b[0]?=some (some (.od,.list (ns.map .str)))->0<=i->i<27->Vv [] [] (.ix (.var 0) (.int i)) b (.str (nA ns i.toNat)):=λi h h0 d=>aS (aD h) aE.e (tO h0 (by omega)) rfl;have c:=z4i (Κ:=[]) (Φ:=[]) (ρ:=[some (.od,.list (ns.map .str)),none]) (nt:=1) (js:=[]) (N':=["_law_name"]) (tg:=.nm 0) (it:=.tv (.sl (.var 0) .nil (.tv (.int 3)))) (elt:=.tup (.cons (.str "fact") (.cons (.var 0) .nil))) (λ_=>true) (λn=>.tuple [.str "fact",.str n]) (eR (nY (λ_=>rfl) (aD rfl) lQ (iQ aE.e)) rfl) rfl (λn=>[some (.al,.str n)]) (λn _=>rfl) (λ_ _=>r6) (λn hm _=>fD (aQ aY (aQ (v_var rfl rfl) bT)));rw[fv.mpr λ_ _=>rfl]at c;have f:=ID (ns:=ns) (j:=3);have g:(qV ns).length<=28:=by unfold qV;rw[ax,ak];show _+1<=28;omega
 exact hF (iR (qL (Ev.of c) (Ev.of (gH (aQ (fD (aQ (aY) (aQ (v 3 rfl dc dc) (aQ (fD (aQ (v 0 rfl dc dc) bT)) (aQ (fD (aQ (v 1 rfl dc dc) bT)) bT))))) bT))) (add_list (by rw[ak];show _+1<=1000;omega)) (wm ns)) (wm ns)) (hF (iR (qL (ρ:=[some (.od,.list (ns.map .str)),some (.fr,.list (qV ns))]) (a:=.var 1) (xs:=qV ns++yR ns) (aD rfl) (Ev.of (gH (aQ (fD (aQ (aY) (aQ (v 4 rfl dc dc) (aQ (fD (aQ (aY) (aQ (v 3 rfl dc dc) bT))) bT)))) (aQ (fD (aQ (aY) (aQ (v 5 rfl dc dc) (aQ (fD bT) (aQ (fD (aQ (v 4 rfl dc dc) bT)) bT))))) bT)))) (add_list (by show _+2<=1000;omega)) (wj (wm ns) rfl)) (wj (wm ns) rfl)) (bY (x9 (λi z=>by cases z) (qL (ρ:=[some (.od,.list (ns.map .str)),some (.fr,.list (qV ns++yR ns))]) (a:=.var 1) (xs:=sI ns) (aD rfl) (Ev.of (gH (aQ (fD (aQ (aY) (aQ (v 6 rfl dc dc) (aQ (fD (aQ (aY) (aQ (fD (aQ (aY) (aQ (v 2 rfl dc dc) (aQ (aE) bT)))) bT))) bT)))) bT))) (add_list (by rw[ax];show _+2+1<=1000;omega)) (wj (wj (wm ns) rfl) rfl)))))
theorem sJ:∀{a b:List Str},a≠[]->b≠[]->dO [z] (a++b)=dO [z] a++[z]++dO [z] b
 | [],_,h,_=>absurd rfl h
 | [x],[],_,h=>absurd rfl h
 | [x],y::b,_,_=>by
  show dO [z] (x::y::b)=_;rw[gM];have:dO [z] [x]=x.cps.toList:=by show x.cps.toList++[]=_;rw[bx]
  rw[this];simp
 |x::y::a,b,_,h=>by show dO [z] (x::y::(a++b))=_;rw[gM,gM,show y::(a++b)=(y::a)++b from rfl,sJ (z:=z) (a:=y::a) (by simp) h];simp
theorem yS:∀t:Tr,t.ws≠[]
 |.bI _ _=>by simp[Tr.ws]
 |.bK _=>by simp[Tr.ws]
 |.un _ _=>by simp[Tr.ws]
 |.two _ _ _=>by simp[Tr.ws]
theorem qq (z:List Nat)(x:Str):dO z [x]=x.cps.toList:=by show x.cps.toList++[]=_;rw[bx]
theorem qr:∀t:Tr,t.tx.cps.toList=dO [32] t.ws
 |.bI n f=>by show(n++(" >= ":Str)++f).cps.toList=dO [32] [n,">=",f];rw[cY,cY,gM,gM,qq,show(" >= ":Str).cps.toList=[32,62,61,32]from rfl,show(">=":Str).cps.toList=[62,61]from rfl];simp
 |.bK n=>by show n.cps.toList=dO [32] [n];rw[qq]
 |.un u t=>by show(fY u++(" ":Str)++t.tx).cps.toList=dO [32] ([fY u]++t.ws);rw[cY,cY,sJ (by simp) (yS t),qq,qr t];rfl
 |.two o a b=>by show(("( ":Str)++a.tx++(" ":Str)++opS o++(" ":Str)++b.tx++(" )":Str)).cps.toList=dO [32] ([("(":Str)]++(a.ws++([opS o]++(b.ws++[(")":Str)]))));rw[cY,cY,cY,cY,cY,cY,sJ (by simp) (by simp),sJ (yS a) (by simp),sJ (by simp) (by simp),sJ (yS b) (by simp),qq,qq,qq,qr a,qr b,show("( ":Str).cps.toList=[40,32]from rfl,show(" ":Str).cps.toList=[32]from rfl,show(" )":Str).cps.toList=[32,41]from rfl,show("(":Str).cps.toList=[40]from rfl,show(")":Str).cps.toList=[41]from rfl];simp
theorem yT (hn:∀w∈ns,Ch p1 w):∀{t:Tr},t.GLb g ns->∀w∈t.ws,∀c∈w.cps.toList,33<=c/\c<127
 |.bI n f,h,w,d=>by
  have d:w∈[n,">=",f]:=d;simp at d;rcases d with rfl|rfl|rfl
  ·intro c e;have:=hn w h.1 c e;unfold p1 at this;rw[au,decide_eq_true_eq,decide_eq_true_eq]at this;omega
  ·decide
  ·exact h.2.2
 |.bK n,h,w,d=>by rw[ah.mp d];intro c e;have:=hn n h c e;unfold p1 at this;rw[au,decide_eq_true_eq,decide_eq_true_eq]at this;omega
 |.un u t,h,w,d=>by
  rcases aq.mp d with rfl|d
  ·cases u<;>decide
  ·exact yT hn (t:=t) h w d
 |.two o a b,h,w,d=>by
  rcases aq.mp d with rfl|d
  ·decide
  rcases bh.mp d with d|d
  ·exact yT hn h.1 w d
  rcases aq.mp d with rfl|d
  ·cases o<;>decide
  rcases bh.mp d with d|d
  ·exact yT hn h.2 w d
  ·rw[ah.mp d];decide
def Tr.s1:Tr->D
 |.bI n _=>cR n (.tuple [.str "fact"])
 |t=>cR t.nm OFT
theorem yU:∀t:Tr,t.sy=t.dU.map Tr.s1
 |.bI _ _=>rfl
 |.bK _=>rfl
 |.un _ t=>yU t
 |.two _ a b=>by show a.sy++b.sy=(a.dU++b.dU).map Tr.s1;rw[b8,yU a,yU b]
theorem C6 {a:List Str}:((a.map PyData.str).any λy=>cC y (match o with|some s=>.str s|none=>.none))=decide (∃s∈a,o=some s):=by
 rw[j1,jt,decide_eq_true_iff];constructor
 ·rintro⟨x,b,e⟩
  obtain⟨s,hs,rfl⟩:=cr.mp b;cases o with
  |none=>cases e
  |some w=>
   rw[jU]at e;have:s=w:=by simpa using e
   exact⟨s,hs,by rw[this]⟩
 ·rintro⟨s,hs,rfl⟩
  refine⟨.str s,cr.mpr ⟨s,hs,rfl⟩,?_⟩;rw[jU];simp
theorem IE (d:∀n,n∈cut ns none (some 6)↔∃s∈([("fact":Str),("open":Str),("word":Str)]),lkG a n=some s)(e:∀n,n∈cut ns none (some 3)↔∃s∈([("fact":Str)]),lkG a n=some s)(b:∀n,n∈cut ns none (some 3)->n∈cut ns none (some 6)):∀L:List Tr,(∀c∈L,c.lf=true)->bM a (L.map Tr.s1)=(L.find? (hJ ns)).map Tr.nm
 | [],_=>rfl
 |c::L,g=>by
  have i:=IE d e b L λc h=>g c (ai _ h);have j:=g c aj;rw[dg];cases c with
  |bI n f=>
   show(if((([("fact":Str)]).map PyData.str).any λy=>cC y (match lkG a n with|some s=>.str s|none=>.none))=true then bM a (L.map Tr.s1)else some n)=_;rw[C6,decide_eq_decide.mpr (e n).symm]
   have hu:hJ ns (.bI n f)=!decide (n∈cut ns none (some 3)):=by
    show(!decide (n∈cut ns none (some 6))||(true&& !decide (n∈cut ns none (some 3))))=_;by_cases h:n∈cut ns none (some 3)
    ·rw[qk h,qk (b n h)];rfl
    ·rw[ql h];simp
   rw[hu];by_cases h:n∈cut ns none (some 3)
   ·rw[qk h,qe rfl,i];rfl
   ·rw[ql h,qf ca];rfl
  |bK n=>
   show(if((([("fact":Str),("open":Str),("word":Str)]).map PyData.str).any λy=>cC y (match lkG a n with|some s=>.str s|none=>.none))=true then bM a (L.map Tr.s1)else some n)=_;rw[C6,decide_eq_decide.mpr (d n).symm];have hu:hJ ns (.bK n)=!decide (n∈cut ns none (some 6)):=by show(!decide (n∈cut ns none (some 6))||(false&& !decide (n∈cut ns none (some 3))))=_;rw[Bool.false_and,Bool.or_false]
   rw[hu];by_cases h:n∈cut ns none (some 6)
   ·rw[qk h,qe rfl,i];rfl
   ·rw[ql h,qf ca];rfl
  |un=>cases j
  |two=>cases j
theorem yV:∀{t:Tr},t.GLb c ns->∀n∈t.nms,n∈ns
 |.bI _ _,h,n,hn=>by rw[ah.mp hn];exact h.1
 |.bK _,h,n,hn=>by rw[ah.mp hn];exact h
 |.un _ t,h,n,hn=>yV (t:=t) h n hn
 |.two _ a b,h,n,hn=>(bh.mp hn).elim (yV h.1 n) (yV h.2 n)
theorem Sh {t:Tr}(a:isn w=true)(hn:∀n∈t.nms,isn n=true):bU isn nf (("word":Str)::w::("if":Str)::t.ws) ks []=if(t.dp<=8/\t.ok nf=true)/\t.wf false=true then some (.tuple [.str "word",.str w,t.lk nf ks],3+t.ws.length,t.sy)else none:=by
 unfold bU cI;have hd:dJ isn (("word":Str)::w::("if":Str)::t.ws) 1=true:=by unfold dJ;rw[show Mi.pk (("word":Str)::w::("if":Str)::t.ws) 1=w from rfl,a];rfl
 have r:=ziw (nf:=nf) (ks:=ks) (qU dc) (show isn "("=false by decide+kernel) (qU dc) (qU dc) (ws:=("word":Str)::w::("if":Str)::t.ws) t false 8 3 [] [] (by rw[bx];rfl) hn (by rw[HY];decide);have r:z0u isn nf (("word":Str)::w::("if":Str)::t.ws) ks 8 3 []=_:=r;rw[qe hd,r];by_cases h:(t.dp<=8/\t.ok nf=true)/\t.wf false=true
 ·rw[qe h,qe h];show(if 3+t.ws.length<(("word":Str)::w::("if":Str)::t.ws).length then none else some _)=_;rw[qf (by grind)];rfl
 ·rw[qf h,qf h];rfl
theorem Si {t:Tr}(a:isn w=true)(hn:∀n∈t.nms,isn n=true):bU isn nf (("claim":Str)::w::("if":Str)::t.ws) ks []=if(t.dp<=8/\t.ok nf=true)/\t.wf true=true then some (.tuple [.str "claim",.str w,t.lk nf ks],3+t.ws.length,t.sy)else none:=by
 unfold bU cI;rw[show Mi.pk (("claim":Str)::w::("if":Str)::t.ws) 0="claim"from rfl,qf dc,qf dc,qf dc,qe rfl];have hd:dJ isn (("claim":Str)::w::("if":Str)::t.ws) 1=true:=by unfold dJ;rw[show Mi.pk (("claim":Str)::w::("if":Str)::t.ws) 1=w from rfl,a];rfl
 have r:=ziw (nf:=nf) (ks:=ks) (qU dc) (show isn "("=false by decide+kernel) (qU dc) (qU dc) (ws:=("claim":Str)::w::("if":Str)::t.ws) t true 8 3 [] [] (by rw[bx];rfl) hn (by rw[HY];decide);have r:z1f isn nf (("claim":Str)::w::("if":Str)::t.ws) ks 8 3 []=_:=r;rw[qe hd,r];by_cases h:(t.dp<=8/\t.ok nf=true)/\t.wf true=true
 ·rw[qe h,qe h];show(if 3+t.ws.length<(("claim":Str)::w::("if":Str)::t.ws).length then none else some _)=_;rw[qf (by grind)];rfl
 ·rw[qf h,qf h];rfl
theorem zqx {t:Tr}(hk:k≠24)(e:isn w=true)(hn:∀n∈t.nms,isn n=true)(hr:spW 32 r=("claim":Str)::w::("if":Str)::t.ws)(hh:hasG a w=false)(f:t.GLb l ns)
  (g:∀n,n∈cut ns none (some 6)↔∃s∈([("fact":Str),("open":Str),("word":Str)]),lkG a n=some s) (i:∀n,n∈cut ns none (some 3)↔∃s∈([("fact":Str)]),lkG a n=some s) (b:∀n,n∈cut ns none (some 3)->n∈cut ns none (some 6)):
  gL isn nf k d a [r]=if(t.dp<=8/\t.ok nf=true)/\t.wf true=true then(match(t.dU.find? (hJ ns)).map Tr.nm with|some u=>Rx.un u|none=>gL isn nf (k+1) (d++[.tuple [.str "claim",.str w,t.lk nf a]]) (a++[(w,("claim":Str))]) [])else .row k:=by
 rw[Ie,qf hk,hr,Si e hn];by_cases h:(t.dp<=8/\t.ok nf=true)/\t.wf true=true
 ·rw[qe h,qe h]
  dsimp only
  rw[show Mi.pk (("claim":Str)::w::("if":Str)::t.ws) 1=w from rfl,hh,qf ca,yU,IE g i b t.dU λc j=>(ua f c j).2];rfl
 ·rw[qf h,qf h]
def C7 (d:D):Prop:=sm isn d/\∀s,jM isn dM d=.tw s\/jM isn dM d=.un s->PyData.strOk s=true
open Classical in
def nI:Fn:=λds=>match ds with
 | [d]=>if C7 d then .ok (.fr,tU (jM isn dM d))else .no
 |_=>.no
def IF (W:Rx):Prop:=match W with|.tw s=>NW s|.un s=>NW s|_=>True
theorem NW.sk (h:NW s):PyData.strOk s=true:=Rk (v5 h.ch)
theorem Sj {W:Rx}(hr:∀r∈rs,lD r)(f:rs.length<=20)(hn:rs≠[])(h:gL isn dM 0 [] [] rs=W)(b:IF W):nI [.str (z0t "\n" rs)]=.ok (.fr,tU W):=by
 have c:=CN Rq (λr a=>Rl (hr r a).asc) hn;have d:jM isn dM (.str (z0t "\n" rs))=W:=by show gL isn dM 0 [] [] (spW 10 (z0t "\n" rs))=_;rw[c,h]
 have g:(z0t "\n" rs).length<=3801*20:=by exact bp (CP λr h=>(hr r h).len) (Nat.mul_le_mul (ag _) f)
 have ok:C7 (.str (z0t "\n" rs)):=⟨⟨CL,λt e=>by
  cases e;exact⟨⟨Rv hr,by unfold LIM;omega⟩,by unfold LIM;omega,by rw[c];omega⟩⟩,λs z=>by
  rw[d]at z;rcases z with z|z<;>rw[z]at b<;>exact NW.sk b⟩
 rw[<-d];exact qe ok
theorem Sk (b:imms a=true)(c:a.length<=100)(d:∀e∈a,fM k [e,e]=.ok (.fr,.bool true)):fM (k+1) [.tuple a,.tuple a]=.ok (.fr,.bool true):=t4 (.inl rfl) b c d
theorem yx (h:imms a=true)(b:imm x=true):imms (a++[x])=true:=mH.mpr λe c=>(bh.mp c).elim (mH.mp h e) λz=>by rw[ah.mp z];exact b
def w7 (n0 n1 n2 n3 n4 n5 n6:Str):List (List Str):=[["fact",n0],["fact",n1],["fact",n2],nZ n3 [n0] [n1],["word",n4,"if",n3],nZ n5 [] [n4],["claim",n6,"if","some",n2]]
def d7 (n0 n1 n2 n3 n4 n5 n6:Str):List D:=[.tuple [.str "fact",.str n0],.tuple [.str "fact",.str n1],.tuple [.str "fact",.str n2],wa n3 [n0] [n1],.tuple [.str "word",.str n4,.tuple [.str "is",.str n3]],wa n5 [] [n4],.tuple [.str "claim",.str n6,.tuple [.str "some",yF n2]]]
def k7 (n0 n1 n2 n3 n4 n5 n6:Str):List (Str×Str):=[(n0,"fact"),(n1,"fact"),(n2,"fact"),(n3,"open"),(n4,"word"),(n5,"open"),(n6,"claim")]
theorem yW:∀{L:List Str},(∀n∈L,∃s∈([("fact":Str),("open":Str),("word":Str)]),lkG ks n=some s)->bM ks (L.map λw=>cR w OFT)=none
 | [],_=>rfl
 |n::L,h=>by exact(qe (C6.trans (qk (h n (.head _))))).trans (yW λn hn=>h n (.tail _ hn))
theorem rd7 (hd:([c,d,f,g,i,j,k]:List Str).Nodup)(hn:∀x∈([c,d,f,g,i,j,k]:List Str),isn x=true)(hs:∀ws∈w7 c d f g i j k,spW 32 (z0t " " ws)=ws)(rest:List Str):
  gL isn nf 0 [] [] ((w7 c d f g i j k).map (z0t " ")++rest)=gL isn nf 7 (d7 c d f g i j k) (k7 c d f g i j k) rest:=by
 have sub:∀(a b:List Str) (x:Str),a++x::b=[c,d,f,g,i,j,k]->x∉a:=λa b x e z=>by rw[<-e,ig]at hd;exact hd.2.2 x z x (.head _) rfl
 have pre:∀(a b:List Str),a++b=[c,d,f,g,i,j,k]->a.Nodup:=λa b e=>by rw[<-e,ig]at hd;exact hd.1
 have m:=hn c (by simp);have o:=hn d (by simp);have p:=hn f (by simp);have q:=hn g (by simp);have r:=hn i (by simp);have s:lkG [(c,"fact"),(d,"fact"),(f,"fact"),(g,"open")] g=some ("open":Str):=qo (pre [c,d,f,g] [i,j,k] rfl) (by simp);have w1:=Sh (nf:=nf) (ks:=[(c,"fact"),(d,"fact"),(f,"fact"),(g,"open")]) (t:=.bK g) r (λx l=>by rw[ah.mp l];exact q);rw[qe ⟨⟨show 1<=8 by decide,rfl⟩,rfl⟩]at w1;unfold Tr.lk at w1;rw[s,qf dc]at w1;refine(sE dc (hs _ (.head _)) (CS m) rfl rfl).trans ((sE (ks:=[(c,"fact")]) dc (hs _ (.tail _ (.head _))) (CS o) (sF (sub [c] _ d rfl)) rfl).trans ((sE (ks:=[(c,"fact"),(d,"fact")]) dc (hs _ (.tail _ (.tail _ (.head _)))) (CS p) (sF (sub [c,d] _ f rfl)) rfl).trans ((sE dc (hs _ (.tail _ (.tail _ (.tail _ (.head _))))) (zc2 (nf:=nf) (ks:=[(c,"fact"),(d,"fact"),(f,"fact")]) q (λx l=>by rw[ah.mp l];exact m) (λx l=>by rw[ah.mp l];exact o) (show(0:Nat)≠4 by decide)) (sF (sub [c,d,f] _ g rfl)) (yW (L:=[c,d]) λn h=>⟨"fact",by simp,qo (pre [c,d,f] _ rfl) (by simp at h;rcases h with rfl|rfl<;>simp)⟩)).trans ((sE dc (hs _ (.tail _ (.tail _ (.tail _ (.tail _ (.head _)))))) w1 (sF (sub [c,d,f,g] _ i rfl)) (yW λn h=>⟨"open",by simp,by rw[ah.mp h];exact s⟩)).trans ((sE dc (hs _ (.tail _ (.tail _ (.tail _ (.tail _ (.tail _ (.head _))))))) (zc2 (nf:=nf) (ks:=[(c,"fact"),(d,"fact"),(f,"fact"),(g,"open"),(i,"word")]) (a:=[]) (hn j (by simp)) nofun (λx l=>by rw[ah.mp l];exact r) (show(1:Nat)≠4 by decide)) (sF (sub [c,d,f,g,i] _ j rfl)) (yW λn h=>⟨"word",by simp,by rw[ah.mp h];exact qo (pre [c,d,f,g,i] _ rfl) (by simp)⟩)).trans ?_)))));have l2:lkG [(c,"fact"),(d,"fact"),(f,"fact"),(g,"open"),(i,"word"),(j,"open")] f=some ("fact":Str):=qo (pre [c,d,f,g,i,j] _ rfl) (by simp);refine(sE dc (hs _ (.tail _ (.tail _ (.tail _ (.tail _ (.tail _ (.tail _ (.head _)))))))) (RJ (hn k (by simp)) p l2) (sF (sub [c,d,f,g,i,j] _ k rfl)) (RK l2)).trans ?_;rfl
theorem Sl:∀(t:Tr) (k:Nat),fM (k+t.dp+1) [t.lk nf ks,t.lk nf ks]=.ok (.fr,.bool true):=by
 have c:∀(k:Nat) (a b:Str) (i:Int),fM (k+2) [.tuple [.str a,.str b,.int i],.tuple [.str a,.str b,.int i]]=.ok (.fr,.bool true):=λk a b i=>t4 (.inl rfl) rfl (show 3<=100 by decide) λe d=>by
  simp at d;rcases d with rfl|rfl|rfl
  ·exact lY k _
  ·exact lY k _
  ·exact CM k _
 intro t
 induction t with
 |bI n f=>intro k;exact c k _ _ _
 |bK n=>
  intro k;unfold Tr.lk;split
  ·exact c k _ _ _
  ·exact yD (lY k _) (lY k _) rfl
 |un u t g=>intro k;exact yD (lY (k+t.dp) _) (g k) (by show(true&&(imm (t.lk nf ks)&&true))=true;rw[t.dV];rfl)
 |two o a b h j=>
  intro k;refine t4 (.inl rfl) (by show(true&&(imm (a.lk nf ks)&&(imm (b.lk nf ks)&&true)))=true;rw[a.dV,b.dV];rfl) (show 3<=100 by decide) λe d=>?_;simp at d;rcases d with rfl|rfl|rfl
  ·exact lY (k+max a.dp b.dp) _
  ·have :=h (k+(max a.dp b.dp-a.dp));rw[show k+(max a.dp b.dp-a.dp)+a.dp+1=k+max a.dp b.dp+1 by omega]at this;exact this
  ·have :=j (k+(max a.dp b.dp-b.dp));rw[show k+(max a.dp b.dp-b.dp)+b.dp+1=k+max a.dp b.dp+1 by omega]at this;exact this
theorem wo (h:7<=ns.length):sI ns=d7 (nA ns 0) (nA ns 1) (nA ns 2) (nA ns 3) (nA ns 4) (nA ns 5) (nA ns 6):=by
 match ns,h with
 |a::b::c::r,h=>
  unfold sI qV yR;have e:cut (a::b::c::r) none (some 3)=[a,b,c]:=by show((a::b::c::r).drop 0).take (min 3 (r.length+3)-0)=_;rw[gu (by omega)];rfl
  rw[e];rfl
theorem IG (h:0<=v):Mi.bE n d (some v)=min v.toNat n:=qf (by omega)
theorem wu (hd:([a,b,c,d,f,g,i]:List Str).Nodup)(n:Str):n∈([a,b,c,d,f,g]:List Str)↔∃s∈([("fact":Str),("open":Str),("word":Str)]),lkG (k7 a b c d f g i) n=some s:=by
 constructor
 ·intro h
  have hm:∃s∈([("fact":Str),("open":Str),("word":Str)]),(n,s)∈k7 a b c d f g i:=by
   simp at h;unfold k7;rcases h with rfl|rfl|rfl|rfl|rfl|rfl
   ·exact⟨"fact",by simp,by simp⟩
   ·exact⟨"fact",by simp,by simp⟩
   ·exact⟨"fact",by simp,by simp⟩
   ·exact⟨"open",by simp,by simp⟩
   ·exact⟨"word",by simp,by simp⟩
   ·exact⟨"open",by simp,by simp⟩
  obtain⟨s,hs,hm⟩:=hm;exact⟨s,hs,qo hd hm⟩
 ·rintro⟨s,hs,e⟩
  by_cases h:n∈([a,b,c,d,f,g]:List Str)
  ·exact h
  ·by_cases j:n=i
   ·have k:lkG (k7 a b c d f g i) i=some ("claim":Str):=qo hd (by unfold k7;simp);rw[j,k]at e;cases e;exact absurd hs dc
   ·have:lkG (k7 a b c d f g i) n=none:=zdw fun z=>by
     exact(bh.mp z).elim h λz=>j (ah.mp z)
    rw[this]at e;cases e
theorem wx (hd:([a,b,c,d,f,g,i]:List Str).Nodup)(n:Str):n∈([a,b,c]:List Str)↔∃s∈([("fact":Str)]),lkG (k7 a b c d f g i) n=some s:=by
 constructor
 ·intro h;refine⟨"fact",by simp,qo hd ?_⟩;simp at h;unfold k7;rcases h with rfl|rfl|rfl<;>simp
 ·rintro⟨s,hs,e⟩
  rw[ah.mp hs]at e;have j:=(wu hd n).mpr ⟨"fact",by simp,e⟩;have k:∀x s,(x,s)∈k7 a b c d f g i->s≠("fact":Str)->n≠x:=λx s hm hs z=>by have:=qo (ks:=k7 a b c d f g i) hd hm;rw[<-z,e]at this;exact hs (qg this).symm
  simp at j ⊢;rcases j with h|h|h|h|h|h
  ·exact .inl h
  ·exact .inr (.inl h)
  ·exact .inr (.inr h)
  ·exact absurd h (k _ "open" (by unfold k7;simp) dc)
  ·exact absurd h (k _ "word" (by unfold k7;simp) dc)
  ·exact absurd h (k _ "open" (by unfold k7;simp) dc)
theorem Sm (h:w∉([a,b,c,d,e,f,g]:List Str)):hasG (k7 a b c d e f g) w=false:=sF h
theorem xH (c:Ev Κ Φ a d x)(hk:(if vE x then !b else b)=k):Tt Κ Φ (.tv (.mI b a)) d k:=hk▸bF (Pz c).e rfl
theorem Sn (n:Str):z0t " " [n]=n:=nV (by rw[nW];show n.cps.toList++[]=_;rw[bx])
theorem C8 (n:Str):("fact ":Str)++n=z0t " " ["fact",n]:=by have:=RH "fact" n [] "fact " (by decide+kernel);rw[Sn]at this;exact this
theorem So (a b:Str):("word ":Str)++a++" if "++b=z0t " " ["word",a,"if",b]:=nV (by rw[cY,cY,cY,nW,qT];show _=_++32::(_++32::(_++32::(b.cps.toList++[])));rw[show("word ":Str).cps.toList=("word":Str).cps.toList++[32]from by decide+kernel,show(" if ":Str).cps.toList=32::(("if":Str).cps.toList++[32])from by decide+kernel];simp)
theorem Sq (a b:Str):("claim ":Str)++a++" if some "++b=z0t " " ["claim",a,"if","some",b]:=nV (by rw[cY,cY,cY,nW,qT];show _=_++32::(_++32::(_++32::(_++32::(b.cps.toList++[]))));rw[show("claim ":Str).cps.toList=("claim":Str).cps.toList++[32]from by decide+kernel,show(" if some ":Str).cps.toList=32::(("if":Str).cps.toList++32::(("some":Str).cps.toList++[32]))from by decide+kernel];simp)
def Tr.wq:Tr->Nat
 |.un .no t=>t.wq+1
 |.two _ a b=>a.wq+b.wq
 |_=>1
theorem yX:∀t:Tr,1<=t.wq
 |.bI _ _=>ag _
 |.bK _=>ag _
 |.un .no t=>d3 (c7 _)
 |.un .so _=>ag _
 |.un .al _=>ag _
 |.two _ a b=>bp (yX a) (gb _ _)
def QP (ns:List Str)(t:Tr):Prop:=t.GM true ns/\t.nd<=7*t.wq/\t.dp<=6+t.wq
theorem ub (ns:List Str):Cl (QP ns) Tr.wq:=⟨yX,λ_ _ _=>rfl,λ_=>rfl,λo a b x y=>⟨Iy x.1 y.1,by
 show a.nd+b.nd<=7*(a.wq+b.wq);have:=x.2.1;have:=y.2.1;omega,by
 show max a.dp b.dp+1<=6+(a.wq+b.wq);have:=x.2.2;have:=y.2.2;have:=yX a;have:=yX b;omega⟩,λa x=>⟨x.1,by
 show a.nd+1<=7*(a.wq+1);have:=x.2.1;omega,by
 show a.dp+1<=6+(a.wq+1);have:=x.2.2;omega⟩⟩
theorem Sr (hu:u≠.no)(h:t.GM false ns)(hn:t.nd<=6):QP ns (.un u t)/\(Tr.un u t).wq=1:=by
 have w:(Tr.un u t).wq=1:=by cases u<;>first|rfl|exact absurd rfl hu
 have e:(Tr.un u t).wf true=t.wf false:=by cases u<;>first|rfl|exact absurd rfl hu
 refine⟨⟨⟨h.1,h.2.1,by rw[e];exact h.2.2⟩,?_,?_⟩,w⟩
 ·rw[w];show t.nd+1<=7;omega
 ·rw[w];show t.dp+1<=7;have:=we t;omega
theorem Su (h0:0<=i)(a:i<2):∃u,u≠.no/\iD (.list (([("some":Str),("all":Str)]).map .str)) (.int i)=.ok (.str (fY u)):=by
 rcases(show i=0\/i=1 by omega)with rfl|rfl
 ·exact⟨.so,nofun,rfl⟩
 ·exact⟨.al,nofun,rfl⟩
abbrev RQ (x0 x1 x2:D)(ts:List Tr)(u4 u5 u6 u7:Option GD):Rho:=[some (.od,x0),some (.od,x1),some (.od,x2),some (.fr,.list (ts.map Tr.enc)),u4,u5,u6,u7]
theorem zhx {c d:D}{b:Tr}{W:C}(m:pre.length<=90)(g:Vv [] Φ W (RQ c d e (pre++[a]) (z0g u4) (z0g u5) (some (.al,b.enc)) (z0g f)) (.str (opS o))):
  ∃h j k,aK [] Φ (.seq (.pop 6 3) (.seq (.pap 3 W (.cons (.var 6) .nil)) .nil)) (RQ c d e (pre++[a]++[b]) u4 u5 n f)=.ok (.nx (RQ c d e (pre++[.two o a b]) h j (some (.al,b.enc)) k)):=by
 have l:=yK (ρ:=RQ c d e (pre++[a]) (z0g u4) (z0g u5) (some (.al,b.enc)) (z0g f)) (ρ1:=RQ c d e pre (z0g (z0g u4)) (z0g (z0g u5)) (some (.al,b.enc)) (z0g (z0g f))) (i:=3) (a:=W) (r:=.cons (.var 6) .nil) (pre:=pre) (t:=a) rfl (by omega) (by show[_,_,_,_,_,_,z0g (some (.al,b.enc)),_]=_;rw[yA b.im];rfl) g (aQ (v_var rfl b.im) bT);refine⟨z0g (z0g (z0g u4)),z0g (z0g (z0g u5)),z0g (z0g (z0g f)),hF (Ir rfl) (hF (l.trans ?_) pI)⟩;show Res.ok (Out.nx [_,_,_,some (.fr,.list (pre.map Tr.enc++[.tuple [.str (opS o),a.enc,b.enc]])),_,_,z0g (some (.al,b.enc)),_])=_;rw[yA b.im];show _=Res.ok (Out.nx [_,_,_,some (.fr,.list ((pre++[Tr.two o a b]).map Tr.enc)),_,_,_,_]);rw[t7];rfl
theorem yY {ts:List Tr}(h:ρ[3]?=some (some (g,.list (ts.map Tr.enc)))):Vv [] Φ (.bi "len" (.cons (.var 3) .nil)) ρ (.int (ts.length:Int)):=eU (aV (aD h) bL) (by show Res.ok (PyData.int ((ts.map Tr.enc).length:Int))=_;rw[ak]) rfl
theorem uc (h:0<=v):Mi.bE n d (some v)=min v.toNat n:=qf (by omega)
theorem Sv {L:List Int}(h:L.length=42){k m:Int}(k0:0<=k)(hk:k<=5)(h0:0<=m)(h1:m<=5):cut L (some (7*k+1)) (some (7*k+2+m))≠[]/\(cut L (some (7*k+1)) (some (7*k+2+m))).length<=6:=by
 obtain⟨a,rfl⟩:=d4 k0;obtain⟨b,rfl⟩:=d4 h0;have ha:a<=5:=pr.mp hk;have hb:b<=5:=pr.mp h1;have e:(cut L (some (7*(a:Int)+1)) (some (7*(a:Int)+2+b))).length=1+b:=by unfold cut;rw[uc (v:=7*(a:Int)+1) (by omega),uc (v:=7*(a:Int)+2+b) (by omega),c8,dh,h,show(7*(a:Int)+1).toNat=7*a+1 from rfl,show(7*(a:Int)+2+b).toNat=7*a+2+b from rfl];clear hk h1 k0 h0 h;rw[gu (show 7*a+1<=42 by omega),gu (show 7*a+2+b<=42 by omega),gu (by omega)];omega
 exact⟨λz=>by rw[z]at e;exact absurd (show 0=1+b from e) (by omega),by rw[e];omega⟩
theorem Sw {p:List Int}(hn:ns.length=27)(hd:p.length=42)(T:1<=B/\B<=6):∃t:Tr,QP ns t/\t.wq<=B.toNat/\tY [.list (p.map .int),.list (ns.map .str),.int B]=.ok (.fr,t.enc):=by
 let Q:Res Out->Prop:=λr=>∃t:Tr,QP ns t/\t.wq<=B.toNat/\r=.ok (.rt .fr t.enc)
 suffices h:Q (aK [] [iL] CB [some (.od,.list (p.map .int)),some (.od,.list (ns.map .str)),some (.od,.int B),none,none,none,none,none]) by obtain⟨t,E,F,H⟩:=h;exact⟨t,E,F,eT H⟩
 refine aO (iR (gH bT) rfl) (q_nm (yc (aV (aD rfl) bL) (tQ (by omega) (by omega))) (λ_=>rfl) (λpre q=>∃c j l f g,q=RQ (.list (p.map .int)) (.list (ns.map .str)) (.int B) c j l f g/\iU (QP ns) Tr.wq pre.length c/\(pre≠[]->c≠[])) ⟨[],none,none,none,none,rfl,⟨nofun,ag _⟩,λz=>absurd rfl z⟩ ?_ ?_)
 ·rintro pre k C q D ⟨c,j,l,f,g,rfl,ok,ne⟩
  have w:=congrArg fj D;rw[ax,ay,du]at w;have y:k∈dm B.toNat:=by rw[D];simp
  have hk:=ew.mp y;have v:=t8 (ub ns) ok;have pl:(pre++[k]).length=pre.length+1:=by simp
  refine aO (dE (aS (aD rfl) (aF aE.e (aD rfl) (rZ dc) rfl).e (tP (by omega) (by omega)) rfl)) ?_;generalize p.getD (7*(k:Int)).toNat 0=x;refine yN (qM (bF (k:=decide ((1:Int)<c.length)) (eD (k:=decide ((1:Int)<c.length)) (yY rfl).e aE.e rfl).e rfl) λ_=>bF (eD (aF (aD rfl) aE.e (cM dc) rfl).e aE.e rfl).e rfl) (λh=>?_) λh=>yN (qM (bF (k:=decide ((0:Int)<c.length)) (eD (k:=decide ((0:Int)<c.length)) (yY rfl).e aE.e rfl).e rfl) λ_=>nX (aF (aD rfl) aE.e (cM dc) rfl).e) (λh=>?_) λh=>?_
  ·rw[au,decide_eq_true_eq]at h;obtain⟨n,a,b,rfl⟩:=tI (ts:=c) (by grind);obtain⟨o,A⟩:=wg (i:=x/5%2) (.inl rfl) (by omega) (by omega);have s:n.length<=90:=by simp at v;omega
   obtain⟨I,J,K,e⟩:=zhx (u4:=some (.al,.int (k:Int))) (u5:=some (.al,.int x)) (W:=.ix (.lst (.cons (.str "and") (.cons (.str "or") .nil))) (.bin .Mod (.bin .FloorDiv (.var 5) (.int 5)) (.int 2))) s (aS (Ev.of (gH (aQ aY (aQ aY bT)))) (aF (aF (aD rfl) aE.e (hV dc dc) rfl).e aE.e (cM dc) rfl).e A rfl);exact⟨_,e,_,_,_,_,_,rfl,by rw[pl];exact Iw (yM (ub ns) ok),λ_ z=>by simp at z⟩
  ·rw[au,decide_eq_true_eq]at h;obtain⟨n,a,rfl⟩:=tH (ts:=c) (λz=>by rw[z]at h;have:=h.1;simp at this);have s:n.length<=90:=by simp at v;omega
   refine⟨_,hF (yK (Φ:=[iL]) (ρ:=RQ (.list (p.map .int)) (.list (ns.map .str)) (.int B) (n++[a]) (some (.al,.int (k:Int))) (some (.al,.int x)) f g) (ρ1:=RQ (.list (p.map .int)) (.list (ns.map .str)) (.int B) n (some (.al,.int (k:Int))) (some (.al,.int x)) (z0g f) (z0g g)) (i:=3) (a:=.str "not") rfl (by omega) rfl aY bT) pI,n++[.un .no a],some (.al,.int (k:Int)),some (.al,.int x),z0g (z0g f),z0g (z0g g),?_,by rw[pl];exact Iv (ub ns) ok,λ_ z=>by simp at z⟩;show([_,_,_,some (G.fr,PyData.list (n.map Tr.enc++[(Tr.un .no a).enc])),_,_,_,_]:Rho)=_;rw[<-t7];rfl
  ·obtain⟨L,U⟩:=Sv hd (k:=(k:Int)) (m:=x/10%6) (by omega) (by omega) (by omega) (by omega);obtain⟨t,M,V,N⟩:=IA hn L (by omega);obtain⟨u,hu,O⟩:=Su (i:=x/5%2) (by omega) (by omega);obtain⟨R,S⟩:=Sr hu M (by omega);refine aO (dE (eX (aV (Ev.of (nY (λ_=>rfl) (aD rfl) (iQ (aF (d:=.int (7*(k:Int)+1)) (aF aE.e (aD rfl) (rZ dc) rfl).e aE.e rfl rfl).e) (iQ (aF (d:=.int (7*(k:Int)+2+x/10%6)) (aF (aF aE.e (aD rfl) (rZ dc) rfl).e aE.e rfl rfl).e (aF (aF (aD rfl) aE.e (hV dc dc) rfl).e aE.e (cM dc) rfl).e rfl rfl).e))) (aV (aD rfl) bL)) rfl N t.im)) (aO (yb (fD (aQ (aS (Ev.of (gH (aQ aY (aQ aY bT)))) (aF (aF (aD rfl) aE.e (hV dc dc) rfl).e aE.e (cM dc) rfl).e O rfl) (aQ (v_var rfl t.im) bT))) rfl (by grind)) (lX ⟨c++[.un u t],some (.al,.int (k:Int)),some (.al,.int x),z0g f,z0g (some (.al,t.enc)),?_,by rw[pl];exact Iu ok R S,λ_ z=>by simp at z⟩));show([_,_,_,some (G.fr,PyData.list (c.map Tr.enc++[(Tr.un u t).enc])),_,_,_,_]:Rho)=_;rw[<-t7];rfl
 ·rintro q ⟨c,j,l,f,g,rfl,ok,ne⟩
  rw[du]at ok;have v:=t8 (ub ns) ok;have X:=j4.mpr (ne λz=>by have:=congrArg fj z;rw[du]at this;simp at this;omega);refine pD (P:=λq=>∃t j l f g,q=RQ (.list (p.map .int)) (.list (ns.map .str)) (.int B) [t] j l f g/\iU (QP ns) Tr.wq B.toNat [t]) (λk q=>∃c j l f g,q=RQ (.list (p.map .int)) (.list (ns.map .str)) (.int B) c j l f g/\iU (QP ns) Tr.wq B.toNat c/\c.length=k+1) (c.length-1) (by omega) ⟨c,j,l,f,g,rfl,ok,by omega⟩ ?_ ?_
  ·rintro k q ⟨c,j,l,f,g,rfl,ok,hk⟩
   have v:=t8 (ub ns) ok;have tc:Tt [] [iL] (.tv (.cmp .Gt (.bi "len" (.cons (.var 3) .nil)) (.int 1))) (RQ (.list (p.map .int)) (.list (ns.map .str)) (.int B) c j l f g) (decide ((1:Int)<c.length)):=bF (eD (yY rfl).e aE.e rfl).e rfl;cases k with
   |zero=>obtain⟨n,a,rfl⟩:=tH (ts:=c) (λz=>by rw[z]at hk;cases hk);have w:=gh (by simpa using hk);subst w;exact .inl ⟨tc,a,_,_,_,_,rfl,ok⟩
   |succ k=>
    rw[qk (by omega)]at tc;obtain⟨n,a,b,rfl⟩:=tI (ts:=c) (by omega);have s:n.length=k:=by simpa using hk
    obtain⟨o,A⟩:=wg (i:=((n++[a]).length:Int)%2) (.inr rfl) (by omega) (by omega);obtain⟨I,J,K,e⟩:=zhx (W:=.ix (.lst (.cons (.str "or") (.cons (.str "and") .nil))) (.bin .Mod (.bi "len" (.cons (.var 3) .nil)) (.int 2))) (by omega) (aS (Ev.of (gH (aQ aY (aQ aY bT)))) (aF (yY rfl).e aE.e (cM dc) rfl).e A rfl);exact .inr ⟨k,_,rfl,tc,e,_,_,_,_,_,rfl,yM (ub ns) ok,by simp[s]⟩
  ·rintro q ⟨t,j,l,f,g,rfl,ok⟩
   exact⟨t,ok.1 t (by simp),by have:=ok.2;simpa using this,bY (dA (aS (aD rfl) aE.e rfl t.im))⟩
theorem Sx {L:List Int}(h:L.length=6){m:Int}(h0:0<=m)(h1:m<=5):cut L none (some (1+m))≠[]/\(cut L none (some (1+m))).length<=6:=by
 obtain⟨b,rfl⟩:=d4 h0;have hb:b<=5:=pr.mp h1;have e:(cut L none (some (1+(b:Int)))).length=1+b:=by unfold cut;rw[uc (v:=1+(b:Int)) (by omega),c8,dh,h,show(1+(b:Int)).toNat=1+b from rfl];show min (min (1+b) 6-0) (6-0)=_;rw[gu (show 1+b<=6 by omega),Nat.sub_zero,gu (show 1+b<=6-0 by omega)]
 exact⟨λz=>by rw[z]at e;exact absurd (show 0=1+b from e) (by omega),by rw[e];omega⟩
structure TB (ns:List Str)(k:Nat)(mi:Bool)(t:Tr):Prop where
 gl:t.GLb 40 ns
 ok:t.ok dM=true
 wf:t.wf true=!mi
 dp:t.dp<=13+k
 nd:t.nd<=43+k
theorem TB.of (h:QP ns t)(a:t.wq<=6):TB ns 0 false t:=⟨h.1.1,h.1.2.1,h.1.2.2,by have:=h.2.2;omega,by have:=h.2.1;omega⟩
theorem TB.no (h:TB ns k a t):TB ns (k+1) a (.un .no t):=⟨h.gl,h.ok,h.wf,by show t.dp+1<=_;have:=h.dp;omega,by show t.nd+1<=_;have:=h.nd;omega⟩
theorem Sz {b:List Int}(hn:ns.length=27)(hd:b.length=6)(h:QP ns t)(p:t.wq<=6):∃a:Tr,TB ns 0 true a/\tZ [t.enc,.int n,.list (b.map .int),.list (ns.map .str)]=.ok (.fr,a.enc):=by
 let Q:Res Out->Prop:=λr=>∃a:Tr,TB ns 0 true a/\r=.ok (.rt .fr a.enc)
 suffices h:Q (aK [] [iL] CC [some (.od,t.enc),some (.od,.int n),some (.od,.list (b.map .int)),some (.od,.list (ns.map .str))]) by obtain⟨t,f,g⟩:=h;exact⟨t,f,eT g⟩
 have q:=h.2.1;have s:=h.2.2;refine qS (nX (aF (aD rfl) aE.e (cM dc) rfl).e) (λ_=>?_) λ_=>qS (nX (aF (aD rfl) aE.e (cM dc) rfl).e) (λ_=>?_) λ_=>?_
 ·obtain⟨j,u⟩:=Sx hd (m:=n/3%6) (by omega) (by omega);obtain⟨a,c,v,k⟩:=IA hn j (by omega);exact⟨_,_,bY (dA (eX (aV (Ev.of (nY (λ_=>rfl) (aD rfl) lQ (iQ (aF aE.e (aF (aF (aD rfl) aE.e (hV dc dc) rfl).e aE.e (cM dc) rfl).e rfl rfl).e))) (aV (aD rfl) bL)) rfl k a.im)),a,⟨c.1,c.2.1,yI a false c.2.2,by have:=we a;omega,by omega⟩,rfl⟩
 ·obtain⟨o,l⟩:=wg (i:=n/3%2) (.inl rfl) (by omega) (by omega);refine⟨_,_,bY (dA (fD (aQ (aS (Ev.of (gH (aQ aY (aQ aY bT)))) (aF (aF (aD rfl) aE.e (hV dc dc) rfl).e aE.e (cM dc) rfl).e l rfl) (aQ (v_var rfl t.im) (aQ (fD (aQ aY (aQ (aS (aD rfl) aE.e (tO dc (by omega)) rfl) bT))) bT))))),.two o t (.bK (ns.getD (0:Int).toNat ⟨#[]⟩)),⟨⟨h.1.1,(getD_mem (ns:=ns) (i:=0) (d:=⟨#[]⟩) dc (by omega))⟩,?_,?_,?_,?_⟩,rfl⟩
  ·show(t.ok dM&&true)=true;rw[h.1.2.1];rfl
  ·show(t.wf true&&false)=false;rw[Bool.and_false]
  ·show max t.dp 1+1<=13;omega
  ·show t.nd+1<=43;omega
 ·exact⟨.un .so t,⟨h.1.1,h.1.2.1,yI t true h.1.2.2,by show t.dp+1<=13;omega,by show t.nd+1<=43;omega⟩,bY (dA (fD (aQ aY (aQ (v_var rfl t.im) bT))))⟩
theorem SA (a b c:Str):("open ":Str)++a++" for "++b++" against "++c=z0t " " (nZ a [b] [c]):=nV (by rw[cY,cY,cY,cY,cY];show _=dO [32] [("open":Str),a,("for":Str),b,("against":Str),c];rw[gM,gM,gM,gM,gM,qq];rw[show("open ":Str).cps.toList=("open":Str).cps.toList++[32]from by decide+kernel,show(" for ":Str).cps.toList=32::(("for":Str).cps.toList++[32])from by decide+kernel,show(" against ":Str).cps.toList=32::(("against":Str).cps.toList++[32])from by decide+kernel];simp)
theorem SE (a b:Str):("open ":Str)++a++" for against "++b=z0t " " (nZ a [] [b]):=nV (by rw[cY,cY,cY];show _=dO [32] [("open":Str),a,("for":Str),("against":Str),b];rw[gM,gM,gM,gM,qq];rw[show("open ":Str).cps.toList=("open":Str).cps.toList++[32]from by decide+kernel,show(" for against ":Str).cps.toList=32::(("for":Str).cps.toList++32::(("against":Str).cps.toList++[32]))from by decide+kernel];simp)
theorem IH (a:Str)(t:Tr):("claim ":Str)++a++" if "++t.tx=z0t " " (("claim":Str)::a::("if":Str)::t.ws):=nV (by
 rw[cY,cY,cY,nW,qT,qr,gM,gM];have:dO [32] (("if":Str)::t.ws)=("if":Str).cps.toList++[32]++dO [32] t.ws:=by rw[<-qq [32] "if"];exact sJ (a:=[("if":Str)]) (by simp) (yS t)
 rw[this,show("claim ":Str).cps.toList=("claim":Str).cps.toList++[32]from by decide+kernel,show(" if ":Str).cps.toList=32::(("if":Str).cps.toList++[32])from by decide+kernel];simp)
theorem C9:∀x∈(["fact","open","for","against","word","if","claim","some"]:List Str),Wd x:=by
 have h:∀x∈(["fact","open","for","against","word","if","claim","some"]:List Str),x.cps.toList.all ac=true/\32∉x.cps.toList/\x.length<=13:=by decide+kernel
 exact λx a=>⟨Rj (h x a).1,(h x a).2.1,(h x a).2.2⟩
theorem SF (hn:∀x∈([c,d,e,f,g,i,j]:List Str),NW x):∀ws∈w7 c d e f g i j,spW 32 (z0t " " ws)=ws/\lD (z0t " " ws):=by
 intro ws h;have b:ws≠[]/\ws.length<=14/\∀x∈ws,x∈([c,d,e,f,g,i,j]:List Str)\/x∈(["fact","open","for","against","word","if","claim","some"]:List Str):=by unfold w7 nZ at h;simp at h;rcases h with rfl|rfl|rfl|rfl|rfl|rfl|rfl<;>refine⟨by simp,by simp,λx a=>?_⟩<;>simp at a ⊢<;>grind
 have hd:=λx a=>(b.2.2 x a).elim (λh=>(hn x h).wd) (C9 x);exact⟨CN qT (λr k=>(hd r k).no) b.1,Rr (λx a=>⟨(hd x a).asc,(hd x a).len⟩) b.2.1⟩
theorem SG (hk:k<=8)(hn:∀w∈ns,NW w)(d:NW w)(b:TB ns k f t):spW 32 (("claim ":Str)++w++" if "++t.tx)=("claim":Str)::w::("if":Str)::t.ws/\lD (("claim ":Str)++w++" if "++t.tx)/\t.tx.length<=3570:=by
 have e:=yT (λw h=>(hn w h).ch) b.gl;have g:=yQ dc (λw h=>by have:=(hn w h).l2;omega) b.gl;have i:=bp (yP t) (Nat.mul_le_mul_left 70 b.nd)
 have hd:∀x∈(("claim":Str)::w::("if":Str)::t.ws),lR x/\32∉x.cps.toList:=λx a=>by
  have z:x∈(["claim",w,"if"]:List Str)\/x∈t.ws:=by simp at a ⊢;grind
  rcases z with z|z
  ·simp at z
   have:Wd x:=by
    rcases z with rfl|rfl|rfl
    ·exact C9 _ dc
    ·exact d.wd
    ·exact C9 _ dc
   exact⟨this.asc,this.no⟩
  ·refine⟨λc a=>?_,λh=>by have :=e x z 32 h;omega⟩;have:=e x z c a;unfold ac;rw[au,decide_eq_true_eq];exact⟨by omega,by rw[kx,beq_eq_false_iff_ne];omega⟩
 refine⟨by rw[IH];exact CN qT (λr hr=>(hd r hr).2) (by simp),⟨?_,?_⟩,by omega⟩
 ·rw[IH];intro c a;rw[nW,qT]at a;rcases yE a with rfl|⟨x,h,a⟩
  ·decide
  ·exact(hd x h).1 c a
 ·rw[bD,bD,bD];have:=d.l2;have j:("claim ":Str).length=6:=rfl;have l:(" if ":Str).length=4:=rfl;omega
def sM:S:=(.seq (.asg (.nm 3) (.call 10 "_law_draws" (.cons (.bin .Add (.var 0) (.bin .Mult (.bin .Mult (.bin .Mult (.int 2) (.int 104729)) (.var 1)) (.var 1))) (.cons (.int 50) .nil))))
 (.seq (.asg (.nm 4) (.ix (.var 3) (.int 0)))
 (.seq (.asg (.nm 5) (.call 9 "_law_asking" (.cons (.sl (.var 3) (.tv (.int 2)) (.tv (.int 44))) (.cons (.var 2) (.cons (.bin .Add (.int 1) (.bin .Mod (.ix (.var 3) (.int 1)) (.int 6))) .nil)))))
 (.seq (.asg (.nm 6) (.cmp .Eq (.bin .Mod (.var 4) (.int 8)) (.int 1)))
 (.seq (.aT (.tv (.var 6))
 (.seq (.asg (.nm 5) (.call 8 "_law_mistaken" (.cons (.var 5) (.cons (.bin .FloorDiv (.var 4) (.int 8)) (.cons (.sl (.var 3) (.tv (.int 44)) .nil) (.cons (.var 2) .nil))))))
 .nil)
 .nil)
 (.seq (.aT (.tv (.cmp .Eq (.bin .Mod (.bin .FloorDiv (.var 4) (.int 256)) (.int 4)) (.int 1)))
 (.seq (.bO (.nm 7) (.gV (.cons (.bin .Mod (.bin .FloorDiv (.var 4) (.int 1024)) (.int 9)) .nil))
 (.seq (.asg (.nm 5) (.tup (.cons (.str "not") (.cons (.var 5) .nil))))
 .nil))
 .nil)
 .nil)
 (.seq (.asg (.nm 8) (.bin .Add (.bin .Add (.bin .Add (.str "claim ") (.ix (.var 2) (.int 9))) (.str " if ")) (.call 7 "_law_text" (.cons (.var 5) .nil))))
 (.seq (.asg (.nm 9) (.call 5 "_law_told" (.cons (.mt "join" (.str "\n") (.cons (.bin .Add (.call 6 "_law_ahead" (.cons (.var 2) .nil)) (.lst (.cons (.var 8) .nil))) .nil)) .nil)))
 (.seq (.aT (.or (.tv (.cmp .Gt (.call 4 "_law_depth" (.cons (.var 5) .nil)) (.int 8))) (.tv (.var 6)))
 (.seq (.ret (.call 0 "_law_alike" (.cons (.var 9) (.cons (.tup (.cons (.str "row") (.cons (.int 7) .nil))) .nil))))
 .nil)
 .nil)
 (.seq (.asg (.nm 10) (.call 3 "_law_first_unknown" (.cons (.var 5) (.cons (.var 2) .nil))))
 (.seq (.aT (.tv (.mI true (.var 10)))
 (.seq (.ret (.call 0 "_law_alike" (.cons (.var 9) (.cons (.tup (.cons (.str "unknown") (.cons (.var 10) .nil))) .nil))))
 .nil)
 .nil)
 (.seq (.ret (.call 0 "_law_alike" (.cons (.var 9) (.cons (.bin .Add (.call 1 "_law_ahead_told" (.cons (.var 2) .nil)) (.lst (.cons (.tup (.cons (.str "claim") (.cons (.ix (.var 2) (.int 9)) (.cons (.call 2 "_law_looked" (.cons (.var 5) (.cons (.sl (.var 2) .nil (.tv (.int 3))) .nil))) .nil)))) .nil))) .nil))))
 .nil))))))))))))
def ud:Fn:=bC [] [(fM 11),tW,(nG 8),tX,(pX 21),nI,tV,(fX 21),tZ,tY,lB] 11 sM
def ue:S:=(.seq (.asg (.nm 1) (.bin .Add (.var 0) (.lst (.cons (.int 0) .nil))))
 (.seq (.asg (.nm 2) (.call 1 "_law_pool" (.cons (.ix (.var 1) (.int 0)) .nil)))
 (.seq (.bO (.tp [3,4]) (.enum (.sl (.var 0) (.tv (.int 1)) (.tv (.int 17))))
 (.seq (.aT (.not (.tv (.call 0 "_law_good" (.cons (.var 4) (.cons (.var 3) (.cons (.var 2) .nil))))))
 (.seq (.ret (.bl false))
 .nil)
 .nil)
 .nil))
 (.seq (.ret (.call 0 "_law_good" (.cons (.bi "len" (.cons (.var 0) .nil)) (.cons (.int 20) (.cons (.var 2) .nil)))))
 .nil))))
def Dc:Fn:=bC [] [ud,lA] 5 ue
theorem II {Q:Res Out->Prop}(I:Rho->Prop)(b:Tt Κ Φ c g k)(d:k=true->Nx I (aK Κ Φ p g))(f:k=false->I g)(h:∀a,I a->Q (aK Κ Φ rest a)):Q (aK Κ Φ (.seq (.aT c p .nil) rest) g):=HK b (λz=>by obtain⟨a,e,i⟩:=d z;exact⟨a,e,h _ i⟩) λz=>h _ (f z)
def Dd:Nat->D->Bool
 |_+1,.str _=>true
 |_+1,.int _=>true
 |k+1,.tuple xs=>imms xs&&(decide (xs.length<=100)&&xs.all (Dd k))
 |_,_=>false
theorem IJ:∀(k:Nat) (d:D),Dd k d=true->fM k [d,d]=.ok (.fr,.bool true)
 |k+1,.str _,_=>lY k _
 |k+1,.int _,_=>CM k _
 |k+1,.tuple a,h=>by have h:(imms a&&(decide (a.length<=100)&&a.all (Dd k)))=true:=h;rw[au,au,decide_eq_true_eq,bj]at h;exact t4 (.inl rfl) h.1 h.2.1 λe b=>IJ k e (h.2.2 e b)
theorem IK (m:Np ns):([nA ns 0,nA ns 1,nA ns 2,nA ns 3,nA ns 4,nA ns 5,nA ns 6]:List Str).Nodup/\(∀x∈([nA ns 0,nA ns 1,nA ns 2,nA ns 3,nA ns 4,nA ns 5,nA ns 6]:List Str),NW x)/\NW (nA ns 9)/\nA ns 9∉([nA ns 0,nA ns 1,nA ns 2,nA ns 3,nA ns 4,nA ns 5,nA ns 6]:List Str)/\cut ns none (some 6)=[nA ns 0,nA ns 1,nA ns 2,nA ns 3,nA ns 4,nA ns 5]/\cut ns none (some 3)=[nA ns 0,nA ns 1,nA ns 2]:=by
 obtain⟨n,e,a⟩:=m;rcases ns with _|⟨f,_|⟨g,_|⟨h,_|⟨i,_|⟨j,_|⟨k,_|⟨l,_|⟨b,_|⟨c,_|⟨d,p⟩⟩⟩⟩⟩⟩⟩⟩⟩⟩<;>first|(simp at n;done)|skip
 have a:([f,g,h,i,j,k,l]++[b,c,d]:List Str).Nodup:=a;rw[ig]at a;refine⟨a.1,λx o=>e x (db (bs:=b::c::d::p) o),e _ (bq (as:=[f,g,h,i,j,k,l,b,c]) (aj)),λz=>a.2.2 _ z d (by simp) rfl,rfl,rfl⟩
theorem yZ (a:Np ns):qp ns=(w7 (nA ns 0) (nA ns 1) (nA ns 2) (nA ns 3) (nA ns 4) (nA ns 5) (nA ns 6)).map (z0t " "):=by unfold qp;rw[(IK a).2.2.2.2.2,SA,So,SE,Sq];show[("fact ":Str)++nA ns 0,("fact ":Str)++nA ns 1,("fact ":Str)++nA ns 2,_,_,_,_]=_;rw[C8,C8,C8];rfl
theorem SH (h:dM f=some i):biD "int" [.str f]=.ok (.int i):=by
 unfold dM at h;split at h
 ·rename_i z;cases h;exact HW z.1.1 z.1.2 z.2.1
 ·cases h
theorem SI (h:L.length=50):(cut L (some 2) (some 44)).length=42/\(cut L (some 44) none).length=6:=by unfold cut;rw[uc dc,uc dc,uc dc,c8,dh,c8,dh,h];exact⟨rfl,rfl⟩
abbrev y4:List Fn:=[fM 11,tW,nG 8,tX,pX 21,nI,tV,fX 21,tZ,tY,lB]
abbrev uf (c k:Int)(ns:List Str)(L:List Int)(t:Tr)(mi:Bool)(u7 u8 u9 SJ:Option GD):Rho:=[some (.od,.int c),some (.od,.int k),some (.od,.list (ns.map .str)),some (.fr,.list (L.map .int)),some (.al,.int (L.getD 0 0)),some (.al,t.enc),some (.al,.bool mi),u7,u8,u9,SJ]
theorem IL (a:Np ns)(h0:0<=k)(h1:k<=20):ud [.int c,.int k,.list (ns.map .str)]=.ok (.fr,.bool true):=by
 refine eT ?_
 let Q:Res Out->Prop:=λr=>r=.ok (.rt .fr (.bool true))
 show Q (aK [] y4 sM [some (.od,.int c),some (.od,.int k),some (.od,.list (ns.map .str)),none,none,none,none,none,none,none,none]);obtain⟨L,V,X⟩:=Se (c+2*104729*k*k);refine aO (iR (x6 (aV (aF (aD rfl) (aF (aF (aF aE.e aE.e rfl rfl).e (aD rfl) (rZ dc) rfl).e (aD rfl) (mY (by omega)) rfl).e rfl rfl).e (aV aE.e bL)) rfl X) (BW _)) (aO (dE (aS (aD rfl) aE.e (tP dc (by omega)) rfl)) ?_);obtain⟨Y,Z⟩:=SI V;obtain⟨H,q0,w0,et⟩:=Sw (B:=1+L.getD 1 0%6) a.1 Y ⟨by omega,by omega⟩;refine aO (dE (eX (aV (Ev.of (nY (λ_=>rfl) (aD rfl) (iQ aE.e) (iQ aE.e))) (aV (aD rfl) (aV (aF aE.e (aF (aS (aD rfl) aE.e (tP dc (by omega)) rfl).e aE.e (cM dc) rfl).e rfl rfl).e bL))) rfl et H.im)) (aO (dE (eD (k:=decide (L.getD 0 0%8=1)) (aF (aD rfl) aE.e (cM dc) rfl).e aE.e (by show Res.ok (cC (.int _) (.int _))=_;rw[Gz];rfl))) ?_);generalize Uc:decide (L.getD 0 0%8=1)=b;refine II (λm=>∃t:Tr,TB ns 0 b t/\m=uf c k ns L t b none none none none) (bF (k:=b) (aD rfl) rfl) (λhm=>?_) (λhm=>⟨H,by rw[hm];exact TB.of q0 (by omega),rfl⟩) ?_
 ·obtain⟨p,y,e1⟩:=Sz a.1 Z q0 (by omega);exact aO (dE (eX (aV (aD rfl) (aV (aF (aD rfl) aE.e (hV dc dc) rfl).e (aV (Ev.of (nY (λ_=>rfl) (aD rfl) (iQ aE.e) lQ)) (aV (aD rfl) bL)))) rfl e1 p.im)) (lX ⟨p,by rw[hm];exact y,rfl⟩)
 rintro m ⟨p,y,rfl⟩
 refine II (λm=>∃(t:Tr) (j:Nat) (u:Option GD),j<=8/\TB ns j b t/\m=uf c k ns L t b u none none none) (nX (aF (aF (aD rfl) aE.e (hV dc dc) rfl).e aE.e (cM dc) rfl).e) (λ_=>?_) (λ_=>⟨p,0,none,by decide,y,rfl⟩) ?_
 ·refine q_nm (yc (aV (aF (aF (aD rfl) aE.e (hV dc dc) rfl).e aE.e (cM dc) rfl).e bL) (tQ (by omega) (by omega))) (λ_=>rfl) (λpre m=>∃(t:Tr) (u:Option GD),TB ns pre.length b t/\m=uf c k ns L t b u none none none) ⟨p,none,y,rfl⟩ ?_ ?_
  ·rintro pre x I m q ⟨t,u,d,rfl⟩
   exact aO (dE (fD (aQ aY (aQ (v_var rfl t.im) bT)))) (lX ⟨.un .no t,_,by rw[ax];exact d.no,rfl⟩)
  ·rintro m ⟨t,u,d,rfl⟩
   rw[du]at d;exact lX ⟨t,_,u,by omega,d,rfl⟩
 rintro m ⟨t,j,u,hj,d,rfl⟩
 obtain⟨A,J,D,n4,K,E⟩:=IK a;obtain⟨s1,M,s3⟩:=SG hj a.2.1 D d;have N:=D.l2;have a1:("claim ":Str).length=6:=rfl;have O:t.dp<=21:=by have:=d.dp;omega
 refine aO (dE (v_add (v_add (v_add aY.e (aS (aD rfl) aE.e (tO dc (by rw[a.1];decide)) rfl).e (by rw[a1];show 6+(nA ns 9).length<=_;omega)).e aY.e (by rw[bD];show 6+(nA ns 9).length+4<=_;omega)).e (eX (aV (aD rfl) bL) rfl (RP t 21 O (by omega)) rfl).e (by rw[bD,bD];show 6+(nA ns 9).length+4+_<=_;omega))) ?_;show Q (aK [] y4 _ (uf c k ns L t b u (some (.al,.str (("claim ":Str)++nA ns 9++(" if ":Str)++t.tx))) none none));generalize hr:("claim ":Str)++nA ns 9++(" if ":Str)++t.tx=r at s1 M;have P:=SF J
 have o:∀x∈qp ns++[r],lD x:=λx q=>by
  rw[yZ a]at q;rcases bh.mp q with z|z
  ·obtain⟨ws,C,rfl⟩:=cr.mp z;exact(P ws C).2
  ·rw[ah.mp z];exact M
 have rl:(qp ns++[r]).length=8:=by rw[yZ a];rfl
 have rd:=rd7 (nf:=dM) A (λx q=>CQ (J x q)) (λws nU=>(P ws nU).1) [r];rw[<-yZ a,zqx dc (CQ D) (λn hn=>CQ (a.2.1 n (yV d.gl n hn))) s1 (Sm n4) d.gl (K▸wu A) (E▸wx A) (by rw[K,E];exact λn hn=>db [nA ns 3,nA ns 4,nA ns 5] hn)]at rd;have F:Aa [] y4 (.cons (.mt "join" (.str "\n") (.cons (.bin .Add (.call 6 "_law_ahead" (.cons (.var 2) .nil)) (.lst (.cons (.var 8) .nil))) .nil)) .nil) (uf c k ns L t b u (some (.al,.str r)) none none) [.str (z0t "\n" (qp ns++[r]))]:=aV (vF aY.e (aV (RG (x5 (aV (aD rfl) bL) rfl (Sf a.1 λw h=>by have:=(a.2.1 w h).l2;omega)) (Ib (aV (aD rfl) bL)) (by rw[yZ a];show 7+1<=1000;decide)) bL) (QZ (Ry rfl (λx h=>(o x h).len) dc (by omega))) rfl).e bL;have g:∀W:Rx,gL isn dM 0 [] [] (qp ns++[r])=W->IF W->nI [.str (z0t "\n" (qp ns++[r]))]=.ok (.fr,tU W):=λW e N=>Sj o (by omega) (by simp) e N;have G:∀x:Option GD,Tt [] y4 (.or (.tv (.cmp .Gt (.call 4 "_law_depth" (.cons (.var 5) .nil)) (.int 8))) (.tv (.var 6))) (uf c k ns L t b u (some (.al,.str r)) x none) (decide ((8:Int)<t.dp)||b):=λx=>pH (bF (eD (k:=decide ((8:Int)<t.dp)) (eX (aV (aD rfl) bL) rfl (Ij 21 t O) rfl).e aE.e rfl).e rfl) λ_=>bF (aD rfl) rfl;by_cases hk:(t.dp<=8/\t.ok dM=true)/\t.wf true=true
 ·rw[qe hk]at rd;have kf:(decide ((8:Int)<t.dp)||b)=false:=by have C:=hk.2;rw[d.wf]at C;rw[ql (by omega)];cases b<;>first|rfl|cases C
  have s:=Sa hk.1.1 (by have:=d.nd;have:=yO t;omega) d.gl;unfold sG at s;cases hu:t.dU.find? (hJ ns)with
  |some c=>
   rw[hu]at rd s
   have nc:NW c.nm:=a.2.1 _ (by
    obtain⟨R,g2⟩:=ua d.gl c (kr hu);cases c with
    |bI w f=>exact R.1
    |bK w=>exact R
    |un=>cases g2
    |two=>cases g2)
   refine aO (dE (eX F rfl (g (.un c.nm) rd nc) rfl)) (pJ (G _) kf (aO (dE (eX (aV (aD rfl) (aV (aD rfl) bL)) rfl s rfl)) (qS (xH (aD rfl) rfl) (λ_=>⟨_,_,bY (dA (eX (aV (aD rfl) (aV (fD (aQ aY (aQ (v_var rfl rfl) bT))).e bL)) rfl (yD (lY 9 "unknown") (lY 9 c.nm) rfl) rfl)),rfl⟩) nofun)))
  |none=>
   rw[hu]at rd s;have S:=t.dV (nf:=dM) (ks:=k7 (nA ns 0) (nA ns 1) (nA ns 2) (nA ns 3) (nA ns 4) (nA ns 5) (nA ns 6));generalize hK:k7 (nA ns 0) (nA ns 1) (nA ns 2) (nA ns 3) (nA ns 4) (nA ns 5) (nA ns 6)=l at rd S;have T:imm (.tuple [.str "claim",.str (nA ns 9),t.lk dM l])=true:=by show(true&&(true&&(imm (t.lk dM l)&&true)))=true;rw[S];rfl
   have U:imms (sI ns++[.tuple [.str "claim",.str (nA ns 9),t.lk dM l]])=true:=by rw[wo (by rw[a.1];decide)];exact yx rfl T
   rw[<-wo (by rw[a.1];decide)]at rd
   have al:fM 11 [.list (sI ns++[.tuple [.str "claim",.str (nA ns 9),t.lk dM l]]),.list (sI ns++[.tuple [.str "claim",.str (nA ns 9),t.lk dM l]])]=.ok (.fr,.bool true):=by
    refine t4 (.inr rfl) U (by rw[wo (by rw[a.1];decide)];show 7+1<=100;decide) λe v=>?_;rw[wo (by rw[a.1];decide)]at v;rcases bh.mp v with z|z
    ·refine IJ 10 e ?_;unfold d7 wa yF at z;simp at z;rcases z with rfl|rfl|rfl|rfl|rfl|rfl|rfl<;>rfl
    ·rw[ah.mp z];refine Sk T (show 3<=100 by decide) λe v=>?_;simp at v;rcases v with rfl|rfl|rfl
     ·exact lY 8 _
     ·exact lY 8 _
     ·have :=Sl (nf:=dM) (ks:=l) t (8-t.dp)
      rwa [show 8-t.dp+t.dp+1=9 by have:=hk.1.1;omega]at this
   refine aO (iR (x6 F rfl (g (.ok _) rd trivial)) U) (pJ (G _) kf (aO (dE (eX (aV (aD rfl) (aV (aD rfl) bL)) rfl s rfl)) (pJ (xH (aD rfl) rfl) rfl (bY (dA (eX (aV (aD rfl) (aV (Ia (x5 (aV (aD rfl) bL) rfl (Sg a.1)) (Ib (aV (PB (aV aY.e (aV (aS (aD rfl) aE.e (tO dc (by rw[a.1];decide)) rfl).e (aV (x5 (aV (aD rfl) (aV (Ev.of (nY (λ_=>rfl) (aD rfl) lQ (iQ aE.e))) bL)) rfl (z8b (ks:=l) (fs:=cut ns none (some 3)) (λf i h=>SH h) (λn=>by rw[E,wx A,hK];simp) 8 t hk.1.1 hk.1.2)) bL)))) bL)) (add_list (by rw[wo (by rw[a.1];decide)];show 7+1<=1000;decide))) bL)) rfl al rfl))))))
 ·rw[qf hk]at rd
  have kt:(decide ((8:Int)<t.dp)||b)=true:=by
   by_cases h8:t.dp<=8
   ·have :t.wf true=false:=by cases z:t.wf true with|true=>exact absurd ⟨⟨h8,d.ok⟩,z⟩ hk|false=>rfl
    rw[d.wf]at this;cases b with
    |true=>simp
    |false=>cases this
   ·rw[qk (by omega)];rfl
  exact aO (dE (eX F rfl (g (.row 7) rd trivial) rfl)) (qS (G _) (λ_=>⟨_,_,bY (dA (eX (aV (aD rfl) (aV (fD (aQ aY (aQ aE bT))).e bL)) rfl (yD (lY 9 "row") (CM 9 7) rfl) rfl)),rfl⟩) λz=>by rw[kt]at z;cases z)
theorem SK {xs:List Int}(h:xs.length<=63):(cut xs (some 1) (some 17)).length<=16:=by unfold cut;rw[IG (v:=1) (by decide),IG (v:=17) (by decide),c8,dh];refine bp (Nat.min_le_left _ _) ?_;show min 17 xs.length-min 1 xs.length<=16;clear h;generalize xs.length=n;omega
abbrev IM:List Fn:=[ud,lA]
theorem SM {xs:List Int}(i:xs.length<=63):Dc [.list (xs.map .int)]=.ok (.fr,.bool true):=by
 refine eT ?_
 let Q:Res Out->Prop:=λr=>r=.ok (.rt .fr (.bool true))
 show Q (aK [] IM ue [some (.od,.list (xs.map .int)),none,none,none,none]);refine aO (iR (xs:=(xs++[0]).map .int) (qL (aD rfl) (Ev.of (gH (aQ aE bT))) (by rw[add_list (by rw[ak];show _+1<=1000;omega),b8];rfl) (BW _)) (BW _)) ?_;have f:(xs++[0]).length=xs.length+1:=ax;generalize xs++[0]=cell at f;obtain⟨ns,g,j⟩:=Rh (cell.getD 0 0);refine aO (iR (x6 (aV (aS (aD rfl) aE.e (tP dc (by omega)) rfl).e bL) rfl j) (nT _)) ?_;have k:=SK i;refine zl9 (xs:=(cut xs (some 1) (some 17)).zipIdx) ((PF (nY (Κ:=[]) (Φ:=IM) (ρ:=[some (.od,.list (xs.map .int)),some (.fr,.list (cell.map .int)),some (.fr,.list (ns.map .str)),none,none]) (a:=.var 0) (b:=.tv (.int 1)) (c:=.tv (.int 17)) (λ_=>rfl) (aD rfl) (iQ aE.e) (iQ aE.e)) rfl (PH (by grind))).trans (by rw[GH PyData.int])) (λ_ d=>∃u v,d=[some (.od,.list (xs.map .int)),some (.fr,.list (cell.map .int)),some (.fr,.list (ns.map .str)),u,v]) ⟨none,none,rfl⟩ ?_ ?_
 ·rintro pre x h d l ⟨u,v,rfl⟩
  have m:=by have:=(bg.mp (Q4 (x:=x) (by rw[l];simp))).1;omega
  refine⟨_,PJ rfl rfl,.inl ?_⟩;exact pJ (tu (bF (eX (aV (aD rfl) (aV (aD rfl) (aV (aD rfl) bL))) rfl (IL g (by omega) (by omega)) rfl).e rfl)) rfl (lX ⟨_,_,rfl⟩)
 ·rintro d ⟨u,v,rfl⟩
  exact bY (dA (eX (aV (eU (aV (aD rfl) bL) (Q0 xs) rfl).e (aV aE.e (aV (aD rfl) bL))) rfl (IL g dc dc) rfl))
open PySem.Spec PyProof.Rows L2
def top (i:Nat):Stmt:=PySem.Challenge.pw_likebook_k54_askings.main.body.getD i (.Pass ⟨0,0,0,0⟩)
def eZ (i:Nat):Stmt->Stmt
 |.ClassDef _ _ _ b ..=>b.getD i (.Pass ⟨0,0,0,0⟩)
 |s=>s
def Sb:Nat->S
 |0=>.nil
 |n+1=>.seq .bad (Sb n)
def F0 (n k:Nat):Fn:=bC [] [] n (Sb k)
def IP:Fn:=bC [] [fM 11,tW,nG 8,tX,pX 21,F0 4 1,tV,fX 21,tZ,tY,lB] 11 sM
def SN:Fn:=bC [] [IP,lA] 5 ue
abbrev FREE:List Str:=["isinstance","str","len","all","range","list","tuple","int","bool","zip","enumerate","ValueError","max"]
abbrev dr (nm:Str)(i:Nat)(N:List Str)(k:Nat)(fr:List Str)(fs:List Nat)(s:S)(F:Fn):aI:=⟨nm,top i,N,N.take k,fr,fs,s,F,.n,[]⟩
abbrev nJ:aI:=dr "number_of" 18 ["figures"] 1 ["int","len","all"] [] vU sr
abbrev hr (nm:Str)(st:Stmt)(N:List Str)(k n:Nat)(kc:List (Str×List Str):=[]):aI:=⟨nm,st,N,N.take k,FREE,[],Sb n,F0 N.length n,.n,kc⟩
abbrev hm (nm:Str)(st:Stmt)(N:List Str)(k n:Nat):aI:=⟨nm,st,N,N.take k,FREE,[],Sb n,λ_=>.no,.n,[]⟩
abbrev Rp:List aI:=[
 ⟨"is_name",top 16,["thing"],["thing"],["all","len","isinstance","str"],[],vT,F_z0,.n,[("NO_NAMES",["and","or","not","if","is","some","all","for","against"])]⟩,
 nJ,
 hr "read_names" (top 30) ["row","names","name"] 1 3 [("OF_A_THING",["fact","open","word"])],
 hr "read_saying" (top 31) ["row","room","name"] 2 7 [("OF_A_THING",["fact","open","word"])],
 hr "read_asking" (top 32) ["row","room","word"] 2 6,
 hr "read_both" (top 33) ["row","read_part","room","one","sign","other"] 3 7,
 hr "read_bound" (top 34) ["row","name","number"] 2 5,
 hr "read_head" (top 28) ["row","name"] 1 3,
 hr "read_open" (top 29) ["row","name","fors"] 1 6,
 hr "read_row" (top 27) ["row","kind","told"] 1 4,
 hr "check_names" (top 26) ["row","told","name","tellers"] 2 2,
 hr "read_act" (top 25) ["text","act","kinds","number","written","row","told"] 1 5,
 hr "_law_told" (top 49) ["_law_text_here","e","_law_some","_law_kinds"] 1 1]
abbrev Mg:List aI:=[
 hm "__init__" (eZ 0 (top 24)) ["self","number","text","kinds"] 4 5,
 hm "peek" (eZ 1 (top 24)) ["self"] 1 1,
 hm "take" (eZ 2 (top 24)) ["self","word"] 1 3,
 hm "take_word" (eZ 3 (top 24)) ["self","word"] 2 1,
 hm "take_name" (eZ 4 (top 24)) ["self","name"] 1 3,
 hm "take_end" (eZ 5 (top 24)) ["self"] 1 1,
 hm "__init__" (eZ 0 (top 11)) ["self","row"] 2 1,
 hm "__init__" (eZ 0 (top 12)) ["self","name"] 2 1,
 hm "__init__" (eZ 0 (top 13)) ["self","name"] 2 1]
abbrev CRg:nD:=⟨"Row",["number","words","place","kinds","said"],[("__init__",eZ 0 (top 24)),("peek",eZ 1 (top 24)),("take",eZ 2 (top 24)),("take_word",eZ 3 (top 24)),("take_name",eZ 4 (top 24)),("take_end",eZ 5 (top 24))]⟩
abbrev wy (c:Str):List (Str×Bool):=(["Late","NoCourt","NoPack","NoReason","NoRow","NoRuling","NoSide","NotAllowed","NotYours","TooMuch","Twice","Unknown"]:List Str).map λx=>(x,x==c)
abbrev xA:XRow:=⟨"NoRow","row","BookError",wy "NoRow",eZ 0 (top 11)⟩
abbrev xB:XRow:=⟨"Twice","name","BookError",wy "Twice",eZ 0 (top 12)⟩
abbrev xC:XRow:=⟨"Unknown","name","BookError",wy "Unknown",eZ 0 (top 13)⟩
abbrev Xg:List XRow:=[xA,xB,xC]
abbrev Gg:List (Str×Int):=[("MOST_ROWS",24),("MOST_OPENS",4),("MOST_DEEP",8)]
abbrev eF (fs:List Nat)(s:S)(F:Fn):aI:=dr "_law_text" 42 ["_law_tree_here"] 1 ["len"] fs s F
abbrev dW (fs:List Nat)(s:S)(F:Fn):aI:=dr "_law_depth" 43 ["_law_tree_here"] 1 ["max"] fs s F
abbrev dG (fs:List Nat)(s:S)(F:Fn):aI:=dr "_law_leaves" 44 ["_law_tree_here","_law_found","_law_part"] 1 [] fs s F
abbrev dH (fs:List Nat)(s:S)(F:Fn):aI:=dr "_law_looked" 45 ["_law_tree_here","_law_facts"] 2 ["tuple","int"] fs s F
abbrev dX (fs:List Nat)(s:S)(F:Fn):aI:=dr "_law_alike" 50 ["_law_found","_law_due","_law_one","_law_two"] 2 ["zip","len","isinstance","list","tuple","int","bool","str"] fs s F
abbrev aR:aI:=dr "_law_good" 53 ["_law_cell","_law_k","_law_names","_law_draws_here","_law_number","_law_tree_here","_law_mistaken_here","_law_turn","_law_row","_law_found","_law_unknown"] 3 ["range"] [95,82,80,83,62,12,81,40,97,96,16] sM IP
def lv (L:List Nat->S->Fn->aI)(s:S)(F:Nat->Fn)(i:Nat):Nat->Nat->List aI
 |0,_=>[]
 |n+1,k=>L [i+k] s (F (k+1))::lv L s F i n (k+1)
abbrev Lz:List aI:=[
 dr "_law_mixed" 36 ["_law_cell","_law_k"] 2 [] [] vV pU,
 dr "_law_good_name" 37 ["_law_word"] 1 [] [] vW pV,
 dr "_law_pool" 38 ["_law_cell","_law_letters","_law_number","_law_many","_law_stem","_law_at","_law_signs","_law_k","_law_names"] 1 ["range"] [14,13] sx lA,
 dr "_law_draws" 39 ["_law_cell","_law_many","_law_found","_law_digits","_law_k","_law_number","_law_mixed_here"] 2 ["range"] [] sA lB,
 dr "_law_leaf" 40 ["_law_number","_law_names","_law_kind","_law_more","_law_some"] 2 ["str"] [] pW lC,
 dr "_law_tree" 41 ["_law_draws_here","_law_names","_law_held","_law_number","_law_last"] 2 ["len"] [17] sD iL,
 eF [] vY (fX 0)]++(lv eF vX fX 19 21 0++([
 dW [] Hw (pX 0)]++(lv dW Hv pX 41 21 0++([
 dG [] Hy (qR 0)]++(lv dG Hx qR 63 8 0++([
 dH [] HA (nG 0)]++(lv dH Hz nG 72 8 0++([
 dr "_law_ahead" 46 ["_law_names","_law_rows"] 1 [] [] HB tV,
 dr "_law_ahead_told" 47 ["_law_names","_law_rows"] 1 [] [] HC tW,
 dr "_law_first_unknown" 48 ["_law_tree_here","_law_names","_law_leaf_here","_law_name"] 2 [] [71] Cz tX,
 dX [] HE (fM 0)]++(lv dX HD fM 84 11 0++([
 dr "_law_asking" 51 ["_law_draws_here","_law_names","_law_most","_law_held","_law_k","_law_number","_law_last","_law_said"] 3 ["len","range"] [18] CB tY,
 dr "_law_mistaken" 52 ["_law_tree_here","_law_number","_law_draws_here","_law_names"] 4 [] [18] CC tZ,
 aR]))))))))))
abbrev Rz:List aI:=Rp++Lz
abbrev Lr:aI:=dr "law" 54 ["_law_script","_law_cells","_law_names","_law_k","_law_cell"] 1 ["len","enumerate"] [98,15] ue SN
abbrev Xt:List XR:=[]
theorem lE:oks (Rz++[Lr]) Xt FREE 0 (Rz++[Lr])=true:=by decide+kernel
theorem SO:pE (Rz++[Lr]) (Rz++[Lr]):=by repeat' first|exact trivial|refine⟨rfl,?_⟩
theorem t_P:oks Rp [] FREE 0 Rp=true:=by decide+kernel
theorem t_Mg:oks Mg [] FREE 0 Mg=true:=by decide+kernel
abbrev De:List (Str×Str):=[("NoRow","row"),("Twice","name"),("Unknown","name")]
abbrev Df:List Str:=["MOST_ROWS","MOST_OPENS","MOST_DEEP"]
abbrev y6 (c:Str):List (Str×Str×Bool):=(c,("ValueError":Str),true)::(wy c).map λy=>(c,y.1,y.2)
abbrev wz:List (Str×Str×Bool):=y6 "NoRow"++(y6 "Twice"++y6 "Unknown")
abbrev IQ:List (Str×Str):=[("NoRow","BookError"),("Twice","BookError"),("Unknown","BookError")]
abbrev gBg (st:Stmt)(N:List Str)(fns:List (Str×Nat))(cs:List Str):Gm:={N:=N,sc:=z09 st,free:=FREE,fns:=fns,cst:=cs,sub:=wz,rs:=[],fK:=IQ}
abbrev gg (r:aI)(fns:List (Str×Nat))(cs:List Str)(fn me cl hf:List (Str×Nat)):Gw:={g:=gBg r.st r.N fns cs,fn:=fn,me:=me,cl:=cl,gi:=Df,fld:=De,hf:=hf}
abbrev gg0 (r:aI)(me:List (Str×Nat)):Gw:={g:=gBg r.st r.N [] [],fn:=[],me:=me,cl:=[],gi:=Df}
abbrev N0:Str×Nat:=("peek",0)
abbrev N1:Str×Nat:=("take",0)
abbrev N2:Str×Nat:=("take_word",1)
abbrev N3:Str×Nat:=("take_name",0)
abbrev N4:Str×Nat:=("take_end",0)
abbrev NN:List (Str×Nat):=[N0,N1,N2,N3,N4]
abbrev OFc:List Str:=["OF_A_THING"]
abbrev mq (i:Nat):aI:=Mg.getD i nJ
abbrev pq (i:Nat):aI:=Rp.getD i nJ
def xig (f:Str):WS:=.seq (.yi (.raw 0) f (.raw 1)) .nil
theorem SQ {K:W.Frag}(F:FnOk P w K mg base (CXE P w base) k f fd ps sp)(h:∀vs H Q E,a vs H Q E->sp vs H Q λ_ _ _=>False):FnOk P w K mg base nN k f fd ps a:=
 ⟨λvs H Q E q=>F.len vs H Q _ (h _ _ _ _ q),λA outer s H args us vs Q E b c d g hs=>iw (F.run A outer s H args us vs Q _ b c d g (h _ _ _ _ hs)) λr s' z=>by
  cases r with
  |error e=>obtain⟨_,_,_,_,_,_,z⟩:=z;exact z.elim
  |ok x=>cases x<;>exact z⟩
theorem wB {K:W.Frag}:FnOk P w K mg base a k f fd ps (λ_ _ _ _=>False):=⟨λ_ _ _ _ z=>z.elim,λ_ _ _ _ _ _ _ _ _ _ _ _ _ z=>z.elim⟩
abbrev FX (P:cc)(w:World)(K:W.Frag)(mg:Str->Option Value)(base:Heap)(k:Nat)(f:Addr)(fd:ef)(ps:List Str)(sp:Sp):Prop:=FnOk P w K mg base (CXE P w base) k f fd ps sp
theorem IS {P:cc}{w:World}{K:W.Frag}{mg:Str->Option Value}{base:Heap}{Γ:Gm}{Κ:List D}{Φ:List Fn}{n i N k:Nat}{x:Str}{ps:List Str}{m:Fn}(D:Dok Γ Κ Φ P w K mg base n)(hx:Γ.fns[i]?=some (x,N))(hi:i<Φ.length)(hk:k<=n)(C1:Cal P w K mg base k x ps (spD K N m))(C2:jF P w K mg base k x ps N m):Dok Γ Κ (Φ.set i m) P w K mg base n where
 free:=D.free
 fns:=λj f n e=>by
  by_cases h:i=j
  ·subst h;cases hx.symm.trans e;exact⟨m,k,ps,cg hi,hk,C1⟩
  ·rw[bz h];exact D.fns j f n e
 cst:=D.cst
 kR:=λj f n e=>by
  by_cases h:i=j
  ·subst h;cases hx.symm.trans e;exact⟨m,k,ps,cg hi,hk,C2⟩
  ·rw[bz h];exact D.kR j f n e
 xk:=D.xk
section
variable {P:cc}{w:World}{K:W.Frag}{mg:Str->Option Value}{base:Heap}
theorem scg {i:Nat}(h:oks a [] FREE 0 a=true)(e:a[i]?=some r):FnScope r.N r.ps (z09 r.st):=(vA (vz h e)).1
theorem sN (i:Γ.sub=wz)(j:Γ.rs=[])(k:Γ.fK=IQ)(l:mg "ValueError"=none)(G:∀x v,W.nsIn K bc x=some (some v)->mg x=some v)(XX:∀r∈Xg,∃A D f fd,XAt K r A D f fd):tJ Γ K mg:=by
 have one:∀r∈Xg,∀c C b,(c,C,b)∈y6 r.c->(r.cs=wy r.c)->FQ K mg c C b:=λr d c C b h g=>by
  obtain⟨A,D,f,fd,a⟩:=XX r d;rcases aq.mp h with e|e
  ·cases e;exact⟨A,.ty "ValueError",.type "ValueError",G _ _ a.ns,a.xa,XV.val,a.sv,rfl,λw q=>q,.inr ⟨l,by decide+kernel,by decide⟩⟩
  ·obtain⟨y,m,e⟩:=cr.mp e;cases e;obtain⟨E,n,o,p,s⟩:=a.cs y (g▸m);exact⟨A,.ref E,.ref E,G _ _ a.ns,a.xa,XV.own p o,s,rfl,λw q=>q,.inl (G _ _ n)⟩
 have hn:∀r∈Xg,r.B="BookError"->∃A D,mg r.c=some (.ref A)/\mg "BookError"=some (.ref D)/\gG K A=true/\gG K D=true/\W.subIn K (.ref A) (.ref D)=some true:=λr d t=>by obtain⟨A,D,f,fd,a⟩:=XX r d;exact⟨A,D,G _ _ a.ns,by rw[<-t];exact G _ _ a.nb,a.xf.ex,a.ed,a.sd⟩
 refine⟨λc C b h=>?_,(λc h=>by rw[j]at h;cases h),λc B h=>?_⟩
 ·rw[i]at h;rcases bh.mp (ce.mp h)with h|h
  ·exact one xA (.head _) c C b h rfl
  ·rcases bh.mp h with h|h
   ·exact one xB (.tail _ (.head _)) c C b h rfl
   ·exact one xC (.tail _ (.tail _ (.head _))) c C b h rfl
 ·rw[k]at h;rcases aq.mp (ce.mp h)with e|e
  ·cases e;exact hn xA (.head _) rfl
  ·rcases aq.mp e with e|e
   ·cases e;exact hn xB (.tail _ (.head _)) rfl
   ·cases ah.mp e;exact hn xC (.tail _ (.tail _ (.head _))) rfl
variable (T:∀n∈FREE,mg n=none)(G:∀(x:Str) (v:Value),W.nsIn K bc x=some (some v)->mg x=some v)(XX:∀r∈Xg,∃A D f fd,XAt K r A D f fd)(GG:∀g∈Gg,∃t,W.nsIn K bc g.1=some (some (.int g.2 t)))
include T G XX
theorem dokg {st:Stmt}:Dok (gBg st N [] []) [] [] P w K mg base k where
 free:=λx a=>T x (ce.mp a)
 fns:=λj f n e=>by cases e
 cst:=λj x e=>by cases e
 kR:=λj f n e=>by cases e
 xk:=sN rfl rfl rfl (T _ dc) G XX
theorem dokc {st:Stmt}(b:za5 K mg ("OF_A_THING",["fact","open","word"])):Dok (gBg st N [] OFc) [OFT] [] P w K mg base k where
 free:=λx c=>T x (ce.mp c)
 fns:=λj f n e=>by cases e
 cst:=λj x e=>by
  rcases j with _|j
  ·cases e;obtain⟨a,d,g⟩:=b;exact⟨_,a,rfl,d,g⟩
  ·cases e
 kR:=λj f n e=>by cases e
 xk:=sN rfl rfl rfl (T _ dc) G XX
include GG
theorem Dg:∀(j:Nat) x,Df[j]?=some x->∃(n:Int) (t:Tok),([24,4,8]:List Int)[j]?=some n/\mg x=some (.int n t):=λj x e=>by
 rcases j with _|_|_|j
 ·cases e;obtain⟨t,e⟩:=GG _ (.head _);exact⟨24,t,rfl,G _ _ e⟩
 ·cases e;obtain⟨t,e⟩:=GG _ (.tail _ (.head _));simp_all
 ·cases e;obtain⟨t,e⟩:=GG _ (.tail _ (.tail _ (.head _)));exact⟨8,t,rfl,G _ _ e⟩
 ·cases e
theorem y7:∀(Γ:Gw) (X:Cx) (r:Nat),2<=r->Γ.fld=De->X.prog=P->X.w=w->X.K=K->X.mg=mg->X.base=base->Wfk Γ X r:=by
 have one:∀(r:XRow) (i:Nat),r∈Xg->Mg[i]?=some ⟨"__init__",r.st,["self",r.fl],["self",r.fl],FREE,[],Sb 1,fun _=>.no,.n,[]⟩->wkL (gg0 ⟨"__init__",r.st,["self",r.fl],["self",r.fl],FREE,[],Sb 1,fun _=>.no,.n,[]⟩ []) (xig r.fl) (z0l r.st)=true->(∀fd,(∃f,Fun K "__init__" (r.c++"."++"__init__") r.st f fd)->Binds K fd ["self",r.fl] [])->
   ∃C f fd ps k,mg r.c=some (.ref C)/\XF K C r.fl/\XI K C f/\k+1<=2/\FX P w K mg base k f fd ps (kU K r.fl)/\Binds K fd ps []:=λr i hr hi hw hb=>by
  obtain⟨A,D,f,fd,a⟩:=XX r hr;refine⟨A,f,fd,["self",r.fl],1,G _ _ a.ns,a.xf,a.xi,ag _,?_,hb fd ⟨f,a.fu⟩⟩;refine w_fn (Γ:=gg0 ⟨"__init__",r.st,["self",r.fl],["self",r.fl],FREE,[],Sb 1,λ_=>.no,.n,[]⟩ []) (Z:={K:=K,mg:=mg,Κ:=[],Φ:=[],E:=λ_ _ _=>False,fn:=[],me:=[],cl:=[],gi:=[24,4,8]}) (s:=xig r.fl) a.fu (scg t_Mg hi) rfl rfl (dokg T G XX) (λE=>⟨rfl,rfl,nofun,nofun,nofun,Dg T G XX GG,nofun⟩) rfl (.inl rfl) hw (by rintro _ _ _ _ ⟨_,_,_,_,_,rfl,_⟩;rfl) ?_
  rintro _ _ _ _ ⟨x,C,ob,ws,y,rfl,hx,hc,hd,da,xf,q⟩
  exact⟨y,rfl,.ref x,rfl,x,C,ob,ws,rfl,hx,hc,hd,da,xf,λdp h1 h2=>q dp h1 h2⟩
 intro Γ X r hr hf hP hw hK hm hb;subst hP hw hK hm hb;intro c fl hc;rw[hf]at hc;have up:∀{c fl:Str},(∃C f fd ps k,X.mg c=some (.ref C)/\XF X.K C fl/\XI X.K C f/\k+1<=2/\FnOk X.prog X.w X.K X.mg X.base (CXE X.prog X.w X.base) k f fd ps (kU X.K fl)/\Binds X.K fd ps [])->∃C f fd ps k,X.mg c=some (.ref C)/\XF X.K C fl/\XI X.K C f/\k+1<=r/\FnOk X.prog X.w X.K X.mg X.base (CXE X.prog X.w X.base) k f fd ps (kU X.K fl)/\Binds X.K fd ps []:=λ{c fl} ⟨C,f,fd,ps,k,h1,h2,h3,h4,h5,h6⟩=>⟨C,f,fd,ps,k,h1,h2,h3,bp h4 hr,h5,h6⟩;rcases aq.mp (ce.mp hc)with e|e
 ·cases e;exact up (one xA 6 (.head _) rfl (by decide+kernel) λfd ⟨f,Fu⟩=>Fu.binds λ_ _ _ _ _ _=>tM λ_ _=>rfl)
 ·rcases aq.mp e with e|e
  ·cases e;exact up (one xB 7 (.tail _ (.head _)) rfl (by decide+kernel) λfd ⟨f,Fu⟩=>Fu.binds λ_ _ _ _ _ _=>tM λ_ _=>rfl)
  ·cases ah.mp e;exact up (one xC 8 (.tail _ (.tail _ (.head _))) rfl (by decide+kernel) λfd ⟨f,Fu⟩=>Fu.binds λ_ _ _ _ _ _=>tM λ_ _=>rfl)
end
section
variable {P:cc}{w:World}{K:W.Frag}{mg:Str->Option Value}{base:Heap}{CR:Addr}
variable (T:∀n∈FREE,mg n=none)(G:∀(x:Str) (v:Value),W.nsIn K bc x=some (some v)->mg x=some v)(XX:∀r∈Xg,∃A D f fd,XAt K r A D f fd)(GG:∀g∈Gg,∃t,W.nsIn K bc g.1=some (some (.int g.2 t)))
abbrev zg (K:W.Frag)(mg:Str->Option Value)(fn:List Sp)(me:List (Addr×Str×Sp))(cl:List (Addr×Sp))(Κ:List D:=[])(hf:List (Addr×Sp):=[])(Φ:List Fn:=[]):Wc:={K:=K,mg:=mg,Κ:=Κ,Φ:=Φ,E:=λ_ _ _=>False,fn:=fn,me:=me,cl:=cl,gi:=[24,4,8],hf:=hf}
def ug (P:cc)(w:World)(K:W.Frag)(mg:Str->Option Value)(base:Heap)(CR:Addr)(k:Nat)(m:Str)(ps:List Str)(sp:Sp):Prop:=∃f fd,FX P w K mg base k f fd ps sp/\Meth K CR m f/\Binds K fd ps []
include T G XX GG in
theorem msg (CA:ClsAt K CRg CR)(Dn:Dok (gBg (mq 4).st (mq 4).N [("is_name",1)] []) [] [F_z0] P w K mg base 2):
  ug P w K mg base CR 1 "__init__" ["self","number","text","kinds"] (spRI K CR)/\ug P w K mg base CR 1 "peek" ["self"] (z1g K CR)/\ug P w K mg base CR 2 "take" ["self"] (z1b K CR)/\ug P w K mg base CR 3 "take_word" ["self","word"] (spTW K CR mg)/\ug P w K mg base CR 3 "take_name" ["self"] (spTN K CR mg isn)/\ug P w K mg base CR 3 "take_end" ["self"] (yn K CR mg):=by
 have rk:RowK K CR:=⟨CA.cls,CA.na⟩;obtain⟨f0,wC,IT,y8⟩:=CA.ms ("__init__",eZ 0 (top 24)) (.head _);obtain⟨f1,sO,IU,wD⟩:=CA.ms ("peek",eZ 1 (top 24)) (.tail _ (.head _));obtain⟨f2,fd2,Fu2,y9⟩:=CA.ms ("take",eZ 2 (top 24)) (.tail _ (.tail _ (.head _)));obtain⟨f3,wF,IV,Dh⟩:=CA.ms ("take_word",eZ 3 (top 24)) (.tail _ (.tail _ (.tail _ (.head _))));obtain⟨f4,wG,IW,Di⟩:=CA.ms ("take_name",eZ 4 (top 24)) (.tail _ (.tail _ (.tail _ (.tail _ (.head _)))));obtain⟨f5,wH,IX,Dj⟩:=CA.ms ("take_end",eZ 5 (top 24)) (.tail _ (.tail _ (.tail _ (.tail _ (.tail _ (.head _))))));have b0:Binds K wC ["self","number","text","kinds"] []:=IT.binds λ_ _ _ _ _ _=>by4 λ_ _ _ _=>rfl;have b1:Binds K sO ["self"] []:=IU.binds λ_ _ _ _ _ _=>tL λ_=>rfl;have b2:Binds K fd2 ["self"] []:=Fu2.binds λ_ _ _ _ _ _=>tL λ_=>rfl;have b3:Binds K wF ["self","word"] []:=IV.binds λ_ _ _ _ _ _=>tM λ_ _=>rfl;have b4:Binds K wG ["self"] []:=IW.binds λ_ _ _ _ _ _=>tL λ_=>rfl;have b5:Binds K wH ["self"] []:=IX.binds λ_ _ _ _ _ _=>tL λ_=>rfl;have gi:=Dg T G XX GG;have F0:FX P w K mg base 1 f0 wC ["self","number","text","kinds"] (spRI K CR):=w_fn (Γ:=gg0 (mq 0) []) (Z:=zg K mg [] [] []) (s:=Rd.init) IT (scg t_Mg (i:=0) rfl) rfl rfl (dokg T G XX) (λE=>⟨rfl,rfl,nofun,nofun,nofun,gi,nofun⟩) rfl (.inl rfl) (by decide+kernel) (by rintro _ _ _ _ ⟨_,_,_,_,_,rfl,_⟩;rfl) (by rintro _ _ _ _ ⟨x,dx,kd,n,t,rfl,hx,ok,q⟩;exact zpi rk hx ok q);have F1:FX P w K mg base 1 f1 sO ["self"] (z1g K CR):=w_fn (Γ:=gg0 (mq 1) []) (Z:=zg K mg [] [] []) (s:=Rd.peek) IU (scg t_Mg (i:=1) rfl) rfl rfl (dokg T G XX) (λE=>⟨rfl,rfl,nofun,nofun,nofun,gi,nofun⟩) rfl (.inl rfl) (by decide+kernel) (by rintro _ _ _ _ ⟨_,_,_,_,_,_,_,_,rfl,_⟩;rfl) (by rintro _ _ _ _ ⟨x,dx,wl,kd,sl,n,ws,p,rfl,r,q⟩;exact Qc rk r q)
 have F2:FX P w K mg base 2 f2 fd2 ["self"] (z1b K CR):=w_fn (Γ:=gg0 (mq 2) [N0]) (Z:=zg K mg [] [(CR,"peek",z1g K CR)] []) (s:=Rd.take) Fu2 (scg t_Mg (i:=2) rfl) rfl rfl (dokg T G XX) (fun E=>⟨rfl,rfl,nofun,(fun j x n e=>by
   rcases j with _|j
   ·cases e;exact⟨CR,_,f1,sO,_,1,rfl,ag _,F1,CA.cls,wD,b1⟩
   ·cases e),nofun,gi,nofun⟩) rfl (.inl rfl) (by decide+kernel)
  (by rintro _ _ _ _ ⟨_,_,_,_,_,_,_,_,rfl,_⟩;rfl) (by rintro _ _ _ _ ⟨x,dx,wl,kd,sl,n,ws,p,rfl,r,q⟩;exact Qd rk rfl r q)
 have Dk:∀(j:Nat) (m:Str) (n:Nat),[N0,N1][j]?=some (m,n)->∃C sp f fd ps k,[(CR,(("peek":Str),z1g K CR)),(CR,(("take":Str),z1b K CR))][j]?=some (C,m,sp)/\k<=2/\FX P w K mg base k f fd ps sp/\Cls K C/\Meth K C m f/\Binds K fd ps []:=λj m n e=>by
  rcases j with _|_|j
  ·cases e;exact⟨CR,_,f1,sO,_,1,rfl,by decide,F1,CA.cls,wD,b1⟩
  ·cases e;exact⟨CR,_,f2,fd2,_,2,rfl,ag _,F2,CA.cls,y9,b2⟩
  ·cases e
 have F3:FX P w K mg base 3 f3 wF ["self","word"] (spTW K CR mg):=w_fn (Γ:=gg (mq 3) [] [] [] [N0,N1] [] []) (Z:=zg K mg [] [(CR,"peek",z1g K CR),(CR,"take",z1b K CR)] []) (s:=Rd.takeWord) IV (scg t_Mg (i:=3) rfl) rfl rfl (dokg T G XX) (λE=>⟨rfl,rfl,nofun,Dk,nofun,gi,nofun⟩) rfl (.inr λX h1 h2 h3 h4 h5=>y7 T G XX GG _ X 2 (ag _) rfl h1 h2 h3 h4 h5) (by decide+kernel) (by rintro _ _ _ _ ⟨_,_,_,_,_,_,_,_,_,rfl,_⟩;rfl) (by rintro _ _ _ _ ⟨x,dx,wl,kd,sl,n,ws,p,w0,rfl,r,hw,q⟩;exact zqn rk rfl r hw q);have F4:FX P w K mg base 3 f4 wG ["self"] (spTN K CR mg isn):=w_fn (Γ:=gg (mq 4) [("is_name",1)] [] [] [N0,N1] [] []) (Z:=zg K mg [] [(CR,"peek",z1g K CR),(CR,"take",z1b K CR)] [] [] [] [F_z0]) (s:=Rd.iI) IW (scg t_Mg (i:=4) rfl) rfl rfl Dn (λE=>⟨rfl,rfl,nofun,Dk,nofun,gi,nofun⟩) rfl (.inr λX h1 h2 h3 h4 h5=>y7 T G XX GG _ X 2 (ag _) rfl h1 h2 h3 h4 h5) (by decide+kernel) (by rintro _ _ _ _ ⟨_,_,_,_,_,_,_,_,rfl,_⟩;rfl) (by rintro _ _ _ _ ⟨x,dx,wl,kd,sl,n,ws,p,rfl,r,q⟩;exact zov rk rfl ⟨F_z0,rfl,λs ok=>HM ok.2⟩ r q);have F5:FX P w K mg base 3 f5 wH ["self"] (yn K CR mg):=w_fn (Γ:=gg (mq 5) [] [] [] [N0,N1] [] []) (Z:=zg K mg [] [(CR,"peek",z1g K CR),(CR,"take",z1b K CR)] []) (s:=Rd.takeEnd) IX (scg t_Mg (i:=5) rfl) rfl rfl (dokg T G XX) (λE=>⟨rfl,rfl,nofun,Dk,nofun,gi,nofun⟩) rfl (.inr λX h1 h2 h3 h4 h5=>y7 T G XX GG _ X 2 (ag _) rfl h1 h2 h3 h4 h5) (by decide+kernel) (by rintro _ _ _ _ ⟨_,_,_,_,_,_,_,_,rfl,_⟩;rfl) (by rintro _ _ _ _ ⟨x,dx,wl,kd,sl,n,ws,p,rfl,r,q⟩;exact Qe rk r q);exact⟨⟨f0,wC,F0,y8,b0⟩,⟨f1,sO,F1,wD,b1⟩,⟨f2,fd2,F2,y9,b2⟩,⟨f3,wF,F3,Dh,b3⟩,⟨f4,wG,F4,Di,b4⟩,⟨f5,wH,F5,Dj,b5⟩⟩
theorem IY (F:FnOk P w K mg base nN k f fd ps (spD K n m)):FnOk P w K mg base h k f fd ps (spD K n m):=
 ⟨F.len,λA outer s H args a b Q E hr c d g hs=>iw (F.run A outer s H args a b Q E hr c d g hs) λr i z=>by
  cases r with
  |error e=>exact z.elim
  |ok x=>cases x<;>exact z⟩
theorem SR {mg:Str->Option Value}{x sl:Addr}{ks:List (Str×Str)}{nm:Str}{sd:List D}{H:Hp}{Q:Hp->Prop}{E:XK}(q:jL mg x sl ks nm sd H Q E):jL mg x sl ks nm sd H (λH'=>∀_:L2.St,Q H') E:=by
 unfold jL at q ⊢;split at q
 ·rename_i h;rw[qe h];exact q
 ·rename_i h;rw[qf h];cases hu:bM ks sd with
  |some u=>rw[hu]at q;exact q
  |none=>rw[hu]at q;exact λH' s _=>q H' s
include T G XX GG in
theorem rd5 {nf:Str->Option Int}(CA:ClsAt K CRg CR)(CO:za5 K mg ("OF_A_THING",["fact","open","word"]))(Dn:Dok (gBg (mq 4).st (mq 4).N [("is_name",1)] []) [] [F_z0] P w K mg base 2)(C0:Cal P w K mg base 1 "is_name" ["thing"] (spD K 1 F_z0)){Fn1:Fn}(C1:Cal P w K mg base 2 "number_of" ["figures"] (spD K 1 Fn1))(hnf:∀s,okS s->Fn1 [.str s]=.ok (.fr,optD (nf s)))(nf0:nf ""=none)(hi0:isn ""=false)(O:∀i r,i<13->Rp[i]?=some r->Own K mg r.nm r.st r.ps):
  ∃f fd,FX P w K mg base 25 f fd ["_law_text_here"] (spTg K isn nf)/\mg "_law_told"=some (.ref f)/\W.keepIn K (.ref f)=true/\Binds K fd ["_law_text_here"] []:=by
 have rk:RowK K CR:=⟨CA.cls,CA.na⟩;obtain⟨⟨f0,wC,F0,y8,b0⟩,⟨f1,sO,F1,wD,b1⟩,⟨f2,fd2,F2,y9,b2⟩,⟨f3,wF,F3,Dh,b3⟩,⟨f4,wG,F4,Di,b4⟩,⟨f5,wH,F5,Dj,b5⟩⟩:=msg T G XX GG CA Dn;have gi:=Dg T G XX GG;have fl:∀(Γ:Gw) (r:Nat),2<=r->Γ.fld=De->(Γ.fld=[]\/∀X:Cx,X.prog=P->X.w=w->X.K=K->X.mg=mg->X.base=base->Wfk Γ X r):=λΓ r hr hf=>.inr λX h1 h2 h3 h4 h5=>y7 T G XX GG Γ X r hr hf h1 h2 h3 h4 h5
 let ME:List (Addr×Str×Sp):=[(CR,(("peek":Str),z1g K CR)),(CR,(("take":Str),z1b K CR)),(CR,(("take_word":Str),spTW K CR mg)),(CR,(("take_name":Str),spTN K CR mg isn)),(CR,(("take_end":Str),yn K CR mg))]
 have qs:∀(r j:Nat) (m:Str) (n:Nat),3<=r->NN[j]?=some (m,n)->∃C sp f fd ps k,ME[j]?=some (C,m,sp)/\k<=r/\FX P w K mg base k f fd ps sp/\Cls K C/\Meth K C m f/\Binds K fd ps []:=λr j m n hr e=>by
  rcases j with _|_|_|_|_|j
  ·cases e;exact⟨CR,_,f1,sO,_,1,rfl,by omega,F1,CA.cls,wD,b1⟩
  ·cases e;exact⟨CR,_,f2,fd2,_,2,rfl,by omega,F2,CA.cls,y9,b2⟩
  ·cases e;exact⟨CR,_,f3,wF,_,3,rfl,hr,F3,CA.cls,Dh,b3⟩
  ·cases e;exact⟨CR,_,f4,wG,_,3,rfl,hr,F4,CA.cls,Di,b4⟩
  ·cases e;exact⟨CR,_,f5,wH,_,3,rfl,hr,F5,CA.cls,Dj,b5⟩
  ·cases e
 obtain⟨g2,gd2,Gu2,SS,SU,SV⟩:=O 2 _ (by decide) rfl;obtain⟨g3,qt,SW,wI,wJ,wK⟩:=O 3 _ (by decide) rfl;obtain⟨g4,sP,SX,za,zi,zj⟩:=O 4 _ (by decide) rfl;obtain⟨g5,wL,SY,IZ,I',Ja⟩:=O 5 _ (by decide) rfl;obtain⟨g6,gd6,Gu6,S0,S3,S4⟩:=O 6 _ (by decide) rfl;obtain⟨g7,Jb,S5,S6,S7,S8⟩:=O 7 _ (by decide) rfl;obtain⟨g8,gd8,Gu8,S9,S',Ta⟩:=O 8 _ (by decide) rfl;obtain⟨g9,gd9,Gu9,Tb,Tc,Td⟩:=O 9 _ (by decide) rfl;obtain⟨Jc,wM,Dl,Dm,Dp,Dq⟩:=O 10 _ (by decide) rfl;obtain⟨g11,gd11,Gu11,Dr,Ds,Dt⟩:=O 11 _ (by decide) rfl;obtain⟨g12,gd12,Gu12,Du,Dv,Dw⟩:=O 12 _ (by decide) rfl;obtain⟨i0,Te,I0,Tf,Th,Ti⟩:=C0;obtain⟨i1,Tj,I1,Tn,To,Tq⟩:=C1;have no:∀(j:Nat) (x:Str) (n:Nat) {α:Prop},([]:List (Str×Nat))[j]?=some (x,n)->α:=λj x n α e=>by cases e
 have H2:FX P w K mg base 4 g2 gd2 ["row"] (spNs K CR mg isn):=w_fn (Γ:=gg (pq 2) [] OFc [("is_name",1)] NN [] []) (Z:=zg K mg [spD K 1 F_z0] ME [] [OFT]) (s:=Rd.readNames) Gu2 (scg t_P (i:=2) rfl) rfl rfl (dokc T G XX CO) (fun E=>⟨rfl,rfl,(fun j x n e=>by
   rcases j with _|j
   ·cases e;exact⟨_,i0,Te,_,1,rfl,by decide,IY I0,Tf,Th,Ti⟩
   ·cases e),(λj m n e=>qs 3 j m n (ag _) e),nofun,gi,nofun⟩) rfl (fl _ 3 (by decide) rfl) (by decide+kernel)
  (by rintro _ _ _ _ ⟨_,_,_,_,_,_,_,_,_,_,rfl,_⟩;rfl) (by rintro _ _ _ _ ⟨x,dx,wl,kd,sl,n,ws,ks,p,sd,rfl,r,n0,q⟩;exact zn8 rk rfl rfl ⟨F_z0,rfl,λs ok=>HM ok.2⟩ rfl n0 r q)
 have H6:FX P w K mg base 4 g6 gd6 ["row","name"] (spBd K CR mg nf):=w_fn (Γ:=gg (pq 6) [] [] [("number_of",1)] NN [] []) (Z:=zg K mg [spD K 1 Fn1] ME []) (s:=Rd.readBound) Gu6 (scg t_P (i:=6) rfl) rfl rfl (dokg T G XX) (fun E=>⟨rfl,rfl,(fun j x n e=>by
   rcases j with _|j
   ·cases e;exact⟨_,i1,Tj,_,2,rfl,by decide,IY I1,Tn,To,Tq⟩
   ·cases e),(λj m n e=>qs 3 j m n (ag _) e),nofun,gi,nofun⟩) rfl (fl _ 3 (by decide) rfl) (by decide+kernel)
  (by rintro _ _ _ _ ⟨_,_,_,_,_,_,_,_,_,_,_,rfl,_⟩;rfl) (by rintro _ _ _ _ ⟨x,dx,wl,kd,sl,n,ws,ks,p,sd,nm,rfl,r,vS,q⟩;exact zrk rk rfl rfl ⟨Fn1,rfl,hnf⟩ nf0 r vS q)
 have Bo:∀(x:Str) (fa:Addr) (zk:ef) (k r:Nat) (f:List Str->List (Str×Str)->Nat->List D->Ro),wkL (gg (pq 5) [] [] [] NN [] [(x,2)]) Rd.fH (z0l (pq 5).st)=true->3<=k->FX P w K mg base k fa zk ["row","room"] (spR K CR mg r f)->mg x=some (.ref fa)->W.keepIn K (.ref fa)=true->Binds K zk ["row","room"] []->FX P w K mg base (k+1) g5 wL ["row","read_part","room"] (jK K CR mg fa r f):=λx fa zk k r f hv hk Ff hm Ts hb=>
  w_fn (Γ:=gg (pq 5) [] [] [] NN [] [(x,2)]) (Z:=zg K mg [] ME [] [] [(fa,spR K CR mg r f)]) (s:=Rd.fH) SY (scg t_P (i:=5) rfl) rfl rfl (dokg T G XX) (λE=>⟨rfl,rfl,nofun,(λj m n e=>qs k j m n hk e),nofun,gi,(λj x' n e=>by
   rcases j with _|j
   ·cases e;exact⟨_,fa,zk,_,k,rfl,ag _,Ff,hm,Ts,hb⟩
   ·cases e)⟩) rfl (fl _ k (by omega) rfl) hv
  (by rintro _ _ _ _ ⟨_,_,_,_,_,_,_,_,_,_,rfl,_⟩;rfl) (by rintro _ _ _ _ ⟨x,dx,wl,kd,sl,n,ws,ks,p,sd,rfl,g,q⟩;exact zgu rk rfl rfl rfl g q)
 have Jd:∀(r k:Nat) (s0 s1:Sp),(∃k',k'<=k/\FX P w K mg base k' g3 qt ["row","room"] s0)->(∃k',k'<=k/\FX P w K mg base k' g5 wL ["row","read_part","room"] s1)->4<=k->(∀r',r=r'+1->s0=(spR K CR mg r' λws ks=>z0u isn nf ws ks r')/\s1=jK K CR mg g3 r' λws ks=>z0u isn nf ws ks r')->FX P w K mg base (k+1) g3 qt ["row","room"] (spR K CR mg r λws ks=>z0u isn nf ws ks r):=λr k s0 s1 ⟨k0,l0,A0⟩ ⟨k1,l1,A1⟩ hk hz=>
  w_fn (Γ:=gg (pq 3) [] OFc [("read_saying",2),("read_both",3),("read_bound",2)] NN [] [("read_saying",2)]) (Z:=zg K mg [s0,s1,spBd K CR mg nf] ME [] [OFT] [(g3,s0)]) (s:=Rd.fF) SW (scg t_P (i:=3) rfl) rfl rfl (dokc T G XX CO) (λE=>⟨rfl,rfl,(λj x n e=>by
   rcases j with _|_|_|j
   ·cases e;exact⟨_,g3,qt,_,k0,rfl,l0,A0,wI,wJ,wK⟩
   ·cases e;exact⟨_,g5,wL,_,k1,rfl,l1,A1,IZ,I',Ja⟩
   ·cases e;exact⟨_,g6,gd6,_,4,rfl,hk,H6,S0,S3,S4⟩
   ·cases e),(λj m n e=>qs k j m n (by omega) e),nofun,gi,(λj x n e=>by
   rcases j with _|j
   ·cases e;exact⟨_,g3,qt,_,k0,rfl,l0,A0,wI,wJ,wK⟩
   ·cases e)⟩) rfl (fl _ k (by omega) rfl) (by decide+kernel)
  (by rintro _ _ _ _ ⟨_,_,_,_,_,_,_,_,_,_,rfl,_⟩;rfl) (by rintro _ _ _ _ ⟨x,dx,wl,kd,sl,n,ws,ks,p,sd,rfl,g,q⟩;exact zkc rk ⟨rfl,rfl,rfl,rfl,rfl,λr' e=>by obtain⟨rfl,rfl⟩:=hz r' e;exact⟨rfl,g3,_,rfl,rfl⟩⟩ hi0 g q)
 have Sy:∀r,FX P w K mg base (5+2*r) g3 qt ["row","room"] (spR K CR mg r λws ks=>z0u isn nf ws ks r):=λr=>by
  induction r with
  |zero=>exact Jd 0 4 (λ_ _ _ _=>False) (λ_ _ _ _=>False) ⟨0,by decide,wB⟩ ⟨0,by decide,wB⟩ (by decide) λr' e=>by cases e
  |succ r ih=>have hb:=Bo "read_saying" g3 qt (5+2*r) r _ (by decide+kernel) (by omega) ih wI wJ wK;rw[show 5+2*(r+1)=6+2*r+1 by omega];exact Jd (r+1) (6+2*r) _ _ ⟨_,by omega,ih⟩ ⟨_,by omega,hb⟩ (by omega) λr' e=>by cases e;exact⟨rfl,rfl⟩
 have Je:∀(r k:Nat) (s0 s1 s2:Sp),(∃k',k'<=k/\FX P w K mg base k' g4 sP ["row","room"] s0)->(∃k',k'<=k/\FX P w K mg base k' g5 wL ["row","read_part","room"] s1)->(∃k',k'<=k/\FX P w K mg base k' g3 qt ["row","room"] s2)->4<=k->(∀r',r=r'+1->s0=(spR K CR mg r' λws ks=>z1f isn nf ws ks r')/\(s1=jK K CR mg g4 r' λws ks=>z1f isn nf ws ks r')/\s2=spR K CR mg r' λws ks=>z0u isn nf ws ks r')->FX P w K mg base (k+1) g4 sP ["row","room"] (spR K CR mg r λws ks=>z1f isn nf ws ks r):=λr k s0 s1 s2 ⟨k0,l0,A0⟩ ⟨k1,l1,A1⟩ ⟨k2,l2,A2⟩ hk hz=>
  w_fn (Γ:=gg (pq 4) [] [] [("read_asking",2),("read_both",3),("read_saying",2)] NN [] [("read_asking",2)]) (Z:=zg K mg [s0,s1,s2] ME [] [] [(g4,s0)]) (s:=Rd.fG) SX (scg t_P (i:=4) rfl) rfl rfl (dokg T G XX) (λE=>⟨rfl,rfl,(λj x n e=>by
   rcases j with _|_|_|j
   ·cases e;exact⟨_,g4,sP,_,k0,rfl,l0,A0,za,zi,zj⟩
   ·cases e;exact⟨_,g5,wL,_,k1,rfl,l1,A1,IZ,I',Ja⟩
   ·cases e;exact⟨_,g3,qt,_,k2,rfl,l2,A2,wI,wJ,wK⟩
   ·cases e),(λj m n e=>qs k j m n (by omega) e),nofun,gi,(λj x n e=>by
   rcases j with _|j
   ·cases e;exact⟨_,g4,sP,_,k0,rfl,l0,A0,za,zi,zj⟩
   ·cases e)⟩) rfl (fl _ k (by omega) rfl) (by decide+kernel)
  (by rintro _ _ _ _ ⟨_,_,_,_,_,_,_,_,_,_,rfl,_⟩;rfl) (by rintro _ _ _ _ ⟨x,dx,wl,kd,sl,n,ws,ks,p,sd,rfl,g,q⟩;exact zli rk ⟨rfl,rfl,λr' e=>by obtain⟨rfl,rfl,rfl⟩:=hz r' e;exact⟨rfl,⟨g4,_,rfl,rfl⟩,rfl⟩⟩ g q)
 have Ak:∀r,FX P w K mg base (6+2*r) g4 sP ["row","room"] (spR K CR mg r λws ks=>z1f isn nf ws ks r):=λr=>by
  induction r with
  |zero=>exact Je 0 5 (λ_ _ _ _=>False) (λ_ _ _ _=>False) (λ_ _ _ _=>False) ⟨0,by decide,wB⟩ ⟨0,by decide,wB⟩ ⟨0,by decide,wB⟩ (by decide) λr' e=>by cases e
  |succ r ih=>have hb:=Bo "read_asking" g4 sP (6+2*r) r _ (by decide+kernel) (by omega) ih za zi zj;rw[show 6+2*(r+1)=7+2*r+1 by omega];exact Je (r+1) (7+2*r) _ _ _ ⟨_,by omega,ih⟩ ⟨_,by omega,hb⟩ ⟨_,by omega,Sy r⟩ (by omega) λr' e=>by cases e;exact⟨rfl,rfl,rfl⟩
 have H7:FX P w K mg base 4 g7 Jb ["row"] (spHg K CR mg isn):=w_fn (Γ:=gg (pq 7) [] [] [] NN [] []) (Z:=zg K mg [] ME []) (s:=Rd.iJ) S5 (scg t_P (i:=7) rfl) rfl rfl (dokg T G XX) (λE=>⟨rfl,rfl,nofun,(λj m n e=>qs 3 j m n (ag _) e),nofun,gi,nofun⟩) rfl (fl _ 3 (by decide) rfl) (by decide+kernel) (by rintro _ _ _ _ ⟨_,_,_,_,_,_,_,_,_,_,rfl,_⟩;rfl) (by rintro _ _ _ _ ⟨x,dx,wl,kd,sl,n,ws,ks,p,sd,rfl,g,q⟩;exact zo5 rfl rfl g q)
 have H8:FX P w K mg base 5 g8 gd8 ["row"] (spOg K CR mg isn):=w_fn (Γ:=gg (pq 8) [] [] [("read_names",1)] NN [] []) (Z:=zg K mg [spNs K CR mg isn] ME []) (s:=Rd.readOpen) Gu8 (scg t_P (i:=8) rfl) rfl rfl (dokg T G XX) (fun E=>⟨rfl,rfl,(fun j x n e=>by
   rcases j with _|j
   ·cases e;exact⟨_,g2,gd2,_,4,rfl,by decide,H2,SS,SU,SV⟩
   ·cases e),(λj m n e=>qs 4 j m n (by decide) e),nofun,gi,nofun⟩) rfl (fl _ 4 (by decide) rfl) (by decide+kernel)
  (by rintro _ _ _ _ ⟨_,_,_,_,_,_,_,_,_,_,rfl,_⟩;rfl) (by rintro _ _ _ _ ⟨x,dx,wl,kd,sl,n,ws,ks,p,sd,rfl,g,n0,q⟩;exact zq8 rk rfl rfl rfl rfl n0 g q)
 have H9:FX P w K mg base 23 g9 gd9 ["row"] (spRg K CR mg isn nf):=w_fn (Γ:=gg (pq 9) [] [] [("read_open",1),("read_head",1),("read_saying",2),("read_asking",2)] NN [] []) (Z:=zg K mg [spOg K CR mg isn,spHg K CR mg isn,spR K CR mg 8 fun ws ks=>z0u isn nf ws ks 8,spR K CR mg 8 fun ws ks=>z1f isn nf ws ks 8] ME []) (s:=Rd.readRow) Gu9 (scg t_P (i:=9) rfl) rfl rfl (dokg T G XX) (fun E=>⟨rfl,rfl,(fun j x n e=>by
   rcases j with _|_|_|_|j
   ·cases e;exact⟨_,g8,gd8,_,5,rfl,by decide,H8,S9,S',Ta⟩
   ·cases e;exact⟨_,g7,Jb,_,4,rfl,by decide,H7,S6,S7,S8⟩
   ·cases e;exact⟨_,g3,qt,_,21,rfl,by decide,Sy 8,wI,wJ,wK⟩
   ·cases e;exact⟨_,g4,sP,_,22,rfl,by decide,Ak 8,za,zi,zj⟩
   ·cases e),(λj m n e=>qs 22 j m n (by decide) e),nofun,gi,nofun⟩) rfl (fl _ 22 (by decide) rfl) (by decide+kernel)
  (by rintro _ _ _ _ ⟨_,_,_,_,_,_,_,_,_,rfl,_⟩;rfl) (by rintro _ _ _ _ ⟨x,dx,wl,kd,sl,n,ws,ks,sd,rfl,g,n0,q⟩;exact zo4 rk ⟨rfl,rfl,rfl,rfl,rfl,rfl,rfl,rfl⟩ n0 g q)
 have Tu:FX P w K mg base 4 Jc wM ["row","told"] (spCg K CR mg):=w_fn (Γ:=gg (pq 10) [] [] [] NN [] []) (Z:=zg K mg [] ME []) (s:=Rd.fE) Dl (scg t_P (i:=10) rfl) rfl rfl (dokg T G XX) (λE=>⟨rfl,rfl,nofun,(λj m n e=>qs 3 j m n (ag _) e),nofun,gi,nofun⟩) rfl (fl _ 3 (by decide) rfl) (by decide+kernel) (by rintro _ _ _ _ ⟨_,_,_,_,_,_,_,_,_,_,_,rfl,_⟩;rfl) (by rintro _ _ _ _ ⟨x,dx,wl,kd,sl,n,ws,ks,p,sd,nm,rfl,g,vS,q⟩;exact Qt rk g vS (SR q))
 have H11:FX P w K mg base 24 g11 gd11 ["text"] (spAg K mg isn nf):=w_fn (Γ:=gg (pq 11) [] [] [("read_row",1),("check_names",2)] [] [("Row",3)] []) (Z:=zg K mg [spRg K CR mg isn nf,spCg K CR mg] [] [(CR,spRI K CR)]) (s:=Rd.readAct) Gu11 (scg t_P (i:=11) rfl) rfl rfl (dokg T G XX) (fun E=>⟨rfl,rfl,(fun j x n e=>by
   rcases j with _|_|j
   ·cases e;exact⟨_,g9,gd9,_,23,rfl,by decide,H9,Tb,Tc,Td⟩
   ·cases e;exact⟨_,Jc,wM,_,4,rfl,by decide,Tu,Dm,Dp,Dq⟩
   ·cases e),nofun,(λj x n e=>by
   rcases j with _|j
   ·cases e;exact⟨CR,_,f0,wC,_,1,rfl,by decide,F0,⟨CA.QV,y8.at_,y8.fn,CA.kp⟩,G _ _ CA.ns,b0⟩
   ·cases e),gi,nofun⟩) rfl (fl _ 23 (by decide) rfl) (by decide+kernel)
  (by rintro _ _ _ _ ⟨_,_,_,rfl,_⟩;rfl) (by rintro _ _ _ _ ⟨v,d,B,rfl,rv,n0,hd,q⟩;exact zpw rfl rfl rfl rfl rv n0 hd q)
 have H12:FX P w K mg base 25 g12 gd12 ["_law_text_here"] (spTg K isn nf):=w_fn (Γ:=gg (pq 12) [] [] [("read_act",1)] [] [] []) (Z:=zg K mg [spAg K mg isn nf] [] []) (s:=Rd.toldg) Gu12 (scg t_P (i:=12) rfl) rfl rfl (dokg T G XX) (fun E=>⟨rfl,rfl,(fun j x n e=>by
   rcases j with _|j
   ·cases e;exact⟨_,g11,gd11,_,24,rfl,by decide,H11,Dr,Ds,Dt⟩
   ·cases e),nofun,nofun,gi,nofun⟩) rfl (fl _ 24 (by decide) rfl) (by decide+kernel)
  (by rintro _ _ _ _ ⟨_,_,_,rfl,_⟩;rfl) (by rintro _ _ _ _ ⟨v,d,B,rfl,rv,ra,ot,q⟩;exact QU rfl rv ra ot q)
 exact⟨g12,gd12,H12,Du,Dv,Dw⟩
end
theorem Jf:chkL (aR.G (Rz++[Lr]) Xt) sM (z0l (top 53))=true:=by decide+kernel
theorem Dx:chkL (Lr.G (Rz++[Lr]) Xt) ue (z0l (top 54))=true:=by decide+kernel
theorem Tv {x}(h:nI a=.ok x):∃d,a=[d]/\C7 d/\x=(.fr,tU (jM isn dM d)):=by
 unfold nI at h;split at h
 ·rename_i d;split at h
  ·rename_i b;cases h;simp_all
  ·cases h
 ·cases h
theorem Tw {c}(h:excOf (nI a)=some c):False:=by
 unfold nI at h;split at h
 ·split at h<;>cases h
 ·cases h
theorem allR {l:W.OpenLaw}{w:World}{K:W.Frag}{mg:Str->Option Value}{CR:Addr}{h:Heap}{fa:Addr}(X:K.In h)(Gn:h.Ns bc mg)(hfa:mg "law"=some (.ref fa))(hK:kOks K Rz)(kl:∃f fd,Kf K Lr f fd)(hz:∀n∈FREE,W.nsIn K bc n=some none)(hC:∀r∈Rz++[Lr],∀y∈r.kc,ck1 K y=true)(CA:ClsAt K CRg CR)(XX:∀r∈Xg,∃A D f fd,XAt K r A D f fd)(GG:∀g∈Gg,∃t,W.nsIn K bc g.1=some (some (.int g.2 t))):
  ∃fd:ef,(∀(s:aw) (v:Value),ox s fd ⟨[v],[]⟩ [("_law_script",v)])/\∀base:Heap,K.In base->base.Ns bc mg->FnOk l.prog w K mg base nN 100 fa fd ["_law_script"] (spD K 1 Dc):=by
 obtain⟨f,fd,a,oc,od,an,sl,kV,dc,pm,cd,ct,rfl,lk,hc,hk⟩:=kl;have e:=hfa.symm.trans (W.mg_of X Gn a);cases e;have T:∀n∈FREE,mg n=none:=λn hn=>W.mg_none_of X Gn (hz n hn);have Gx:∀(x:Str) (v:Value),W.nsIn K bc x=some (some v)->mg x=some v:=λx v e=>W.mg_of X Gn e;refine⟨W.fnOf "law" "law" (kF (top 54)) (z0l (top 54)) (z09 (top 54)) .none kV dc pm an cd ct,λs v=>.of_eq rfl,λbase _ _=>?_⟩;have O:∀i r,i<99->(Rz++[Lr])[i]?=some r->Own K mg r.nm r.st r.ps:=λi r hi e=>by rw[ec (show i<Rz.length from hi)]at e;obtain⟨⟨f,fd,a,oc,od,an,sl,kV,dc,pm,cd,ct,rfl,lk,hc,hk⟩,hb⟩:=Ga hK e;exact zrf X Gn a lk hc hk hb
 have xk:∀Γ:Gm,Γ.sub=(Xt.map XR.subs).flatten->Γ.rs=Xt.map (·.c)->(Γ.fK=Xt.map λr=>(r.c,r.B))->tJ Γ K mg:=λΓ h1 h2 h3=>⟨(λc C b z=>by rw[h1]at z;cases z),(λc z=>by rw[h2]at z;cases z),λc B z=>by rw[h3]at z;cases z⟩;have zl:∀r∈Rz++[Lr],∀y∈r.kc,za5 K mg y:=λr hr y hy=>O6 X Gn (hC r hr y hy);have bZ:∀j c,j<99->(Rz++[Lr])[j]?=some c->tK l.prog w K mg base j c:=λj c hj hc=>O5 lE SO T xk 99 zl O j c hj hc;have hr:(Rz++[Lr])[99]?=some Lr:=rfl;have ho:Lr.ok (Rz++[Lr]) Xt FREE 99=true:=vz lE hr;have D:=BF (P:=l.prog) (w:=w) (K:=K) (base:=base) hr ho T xk (zl Lr (bq _ (.head _))) bZ;have n0:=pF (bZ 0 _ (by decide) rfl) (Rs:=Rz++[Lr]) rfl rfl;have n1:=pF (bZ 1 _ (by decide) rfl) (Rs:=Rz++[Lr]) rfl rfl
 have Dn:Dok (gBg (mq 4).st (mq 4).N [("is_name",1)] []) [] [F_z0] l.prog w K mg base 2:={
  free:=λx hx=>T x (ce.mp hx)
  fns:=λj f n e=>by
   rcases j with _|j
   ·cases e;exact⟨F_z0,1,["thing"],rfl,by decide,n0.1⟩
   ·cases e
  cst:=λj x e=>by cases e
  kR:=λj f n e=>by
   rcases j with _|j
   ·cases e;exact⟨F_z0,1,["thing"],rfl,by decide,n0.2⟩
   ·cases e
  xk:=sN rfl rfl rfl (T _ (by decide)) Gx XX}
 have CO:=zl (Rp.getD 2 Lr) (.tail _ (.tail _ (.head _))) ("OF_A_THING",["fact","open","word"]) (.head _);obtain⟨ft,Jg,Ft,mt,kt,bt⟩:=rd5 (P:=l.prog) (w:=w) (base:=base) (nf:=dM) (Fn1:=sr) T Gx XX GG CA CO Dn n0.1 n1.1 (λs ok=>RC ok.2) RD CL λi r hi e=>O i r (by omega) (by have z:Rz++[Lr]=Rp++(Lz++[Lr]):=ib ..;rw[z,ec hi];exact e);have C1:Cal l.prog w K mg base 25 "_law_told" ["_law_text_here"] (spD K 1 nI):=by refine⟨ft,Jg,SQ Ft λvs H Q E ⟨A,ds,x,h1,h2,h3,q⟩=>?_,mt,kt,bt⟩;obtain⟨d,rfl,ht,rfl⟩:=Tv h3;obtain⟨v,t,rfl,rv,rt⟩:=h2;cases rt;exact⟨v,d,A,rfl,rv,ht.1,ht.2,λH' w s r=>q w H' s r⟩
 have C2:jF l.prog w K mg base 25 "_law_told" ["_law_text_here"] 1 nI:=by refine⟨ft,Jg,⟨λvs H Q E ⟨A,ds,c,h1,h2,h3,_⟩=>h1,λA outer s H args us vs Q E hr he hb hv ⟨B,ds,c,h1,h2,h3,_⟩=>?_⟩,mt,kt,bt⟩;exact(Tw h3).elim
 have hL:aR.ok (Rz++[Lr]) Xt FREE 98=true:=vz lE (i:=98) rfl;have iN:=BF (P:=l.prog) (w:=w) (K:=K) (base:=base) (i:=98) (r:=aR) rfl hL T xk (zl aR (de (i:=98) rfl)) λj c hj hc=>bZ j c (by omega) hc;have eG:Dok (aR.G (Rz++[Lr]) Xt) [] [fM 11,tW,nG 8,tX,pX 21,nI,tV,fX 21,tZ,tY,lB] l.prog w K mg base 98:=(IS iN (i:=5) rfl (by decide) (k:=25) (by decide) C1 C2);obtain⟨eI,eJ,eK,eL,eM,eN⟩:=O 98 aR (by decide) rfl;have hM:Cal l.prog w K mg base 99 "_law_good" ["_law_cell","_law_k","_law_names"] (spD K 3 ud):=⟨eI,eJ,d_fn (Γ:=aR.G (Rz++[Lr]) Xt) (Κ:=[]) (s:=sM) eK (scg lE (i:=98) rfl) rfl rfl rfl eG Jf,eL,eM,eN⟩;have hS:jF l.prog w K mg base 99 "_law_good" ["_law_cell","_law_k","_law_names"] 3 ud:=⟨eI,eJ,zqt (Γ:=aR.G (Rz++[Lr]) Xt) (Κ:=[]) (s:=sM) eK (scg lE (i:=98) rfl) rfl rfl rfl eG Jf,eL,eM,eN⟩;have D':Dok (Lr.G (Rz++[Lr]) Xt) [] [ud,lA] l.prog w K mg base 99:=(IS D (i:=0) rfl (by decide) (k:=99) (by decide) hM hS);exact d_fn (Γ:=Lr.G (Rz++[Lr]) Xt) (Κ:=[]) (s:=ue) (zT (st:=top 54) lk hc hk) (scg lE (i:=99) rfl) rfl rfl rfl D' Dx
def sQ:DefRec:=⟨"law",kF (top 54),z0l (top 54),z09 (top 54),⟨352,0,358,54⟩⟩
theorem zm:KEq sR (Rz++[Lr]) FREE Xt:=by
 rw[PySem.W.Fast.tkeq_eq];intro P
 kernel_rfl
theorem Tx:Tp.said PySem.Challenge.rw_likebook_k54_askings=true:=by
 rw[PySem.W.Fast.tsaid_eq]
 kernel_rfl
theorem Tz:W.opening l'=W.plainProg l'.main.scope.names:=by kernel_rfl
theorem TC:∀s,fenceModules? l' s=some s:=λs=>by kernel_rfl
theorem TF:W.defOf ui PySem.Challenge.rw_likebook_k54_askings.row.name=some (sQ,[]):=by kernel_rfl
theorem TH:l'.theDef PySem.Challenge.rw_likebook_k54_askings.row.name=some (sQ.params,sQ.body,sQ.scope):=by kernel_rfl
theorem TJ:W.kwWritten? sQ.params.kwonlyargs sQ.params.kw_defaults=some []:=by kernel_rfl
theorem TL:(!PySem.Challenge.rw_likebook_k54_askings.row.writes||PySem.Challenge.rw_likebook_k54_askings.row.records.isEmpty)=true:=by kernel_rfl
theorem TM:(W.chainsOk ui&&W.opensWell l'&&(W.frees PySem.Challenge.rw_likebook_k54_askings.row.toRowW&&PySem.Challenge.rw_likebook_k54_askings.row.within.isEmpty))=true:=by kernel_rfl
theorem walk {l:W.OpenLaw}{K:d9->W.Frag}(hn:l.most=some 63)(b:d.params.defaults=[])
  (e:∀(w:World) (h:Heap),g w h->(K w.params).In h)
  (F:∀(w:World) (mg:Str->Option Value) (c:Addr) (h:Heap),(K w.params).In h->h.Ns bc mg->mg d.name=some (.ref c)->∃fd:ef,(∀(s:aw) (u:Value),ox s fd ⟨[u],[]⟩ [("_law_script",u)])/\∀base:Heap,(K w.params).In base->base.Ns bc mg->FnOk l.prog w (K w.params) mg base nN 100 c fd ["_law_script"] (spD (K w.params) 1 Dc)):
  W.WalkO q loose m g l.row.toRowW d [] (λf i=>PySem.call f i):=
 L2.walk_of hn dc b ⟨rfl,by decide,by decide⟩ e F (λ_ _ a ns j _ k=>⟨_,_,_,rfl,O4 k,SM j,λv n _ r=>r⟩) λ_ _ _ _ _ z=>z
theorem TQ:KCq sR CRg:=by
 rw[PySem.W.Fast.tkcq_eq];intro P
 kernel_rfl
theorem kX:KXq sR Xg Gg:=by
 rw[PySem.W.Fast.tkxq_eq];intro P
 kernel_rfl
theorem Dy:rY Rz:=by repeat' first|exact trivial|refine⟨λ_ _ _ _ _ _=>tL λ_=>rfl,?_⟩|refine⟨λ_ _ _ _ _ _=>tM λ_ _=>rfl,?_⟩|refine⟨λ_ _ _ _ _ _=>F9 λ_ _ _=>rfl,?_⟩|refine⟨λ_ _ _ _ _ _=>by4 λ_ _ _ _=>rfl,?_⟩
end Mk
open PySem PySem.W PyProof.Rows Mi
set_option maxRecDepth 100000 in
set_option maxHeartbeats 0 in
theorem PySem.Challenge.cw_likebook_k54_askings_holds : PySem.Challenge.rw_likebook_k54_askings.Holds := by
 refine Tp.holds (l:=PySem.Challenge.rw_likebook_k54_askings) (q:=Mk.ui) (d:=Mk.sQ) (K:=Mk.sR) (M:=100000) (N:=200000) Mk.Tx (Tp.uh _ _ Mk.wN) Mk.Tz rfl Mk.TC (by decide) Mk.Ji Mk.Jj Mk.TF Mk.TH Mk.TJ Mk.TL Mk.TM ⟨rfl,rfl,rfl,rfl,rfl,by decide+kernel⟩ (by w_witness2) ?_;refine Mk.walk (l:=PySem.Challenge.rw_likebook_k54_askings) rfl rfl (λw h Y=>Y) ?_;intro w mg fa h KX G TR;obtain⟨CR,CA⟩:=QX Mk.TQ w.params;exact Mk.allR (CR:=CR) KX G TR (Gj (λr hr=>(xY Mk.zm w.params).1 r (db _ hr)) Mk.Dy) ((xY Mk.zm w.params).1 Mk.Lr (bq _ (.head _))) (xY Mk.zm w.params).2.1 (xY Mk.zm w.params).2.2.2 CA (Hu Mk.kX w.params).1 (Hu Mk.kX w.params).2
