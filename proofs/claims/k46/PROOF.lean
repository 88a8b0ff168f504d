import PyProof.Rows.All
import Wide.All
import OpenK.AllK
import PySem.Challenge.RW_likebook_k46_courts_founded
open Lean.Parser.Command in
local macro_rules|`(def $a:declId $b:optDeclSig $c:declVal)=>`(noncomputable def $a:declId $b:optDeclSig $c:declVal)
noncomputable section
open Array renaming getD_eq_getD_getElem?→ei,getElem?_eq_some_iff→gm,length_toList→jb,toArray_toList→kh,getElem?_eq_getElem→ll,Perm→m6,append_assoc→o8,find?_toList→pc
open Bool renaming and_eq_true_iff→ar,and_eq_true→bv,false_ne_true→dr,or_eq_true_iff→d2,beq_eq_decide_eq→j4,or_eq_true→ko,or_true→m8,eq_iff_iff→nq,or_false→oz,eq_false_iff→pw,not_eq_true'→py
open Int renaming toNat_natCast→fi,emod_nonneg→fv,emod_lt_of_pos→iw,le_refl→qh
open List renaming getD_eq_getElem?_getD→ac,getElem?_eq_getElem→ah,length_map→am,replicate→ao,getElem?_map→av,mem_of_getElem?→aw,mem_cons→ax,mem_cons_of_mem→ay,getElem?_eq_some_iff→ba,length_append→bf,length_cons→bh,mem_cons_self→bj,map_cons→bn,mem_map→bp,mem_append_right→br,mem_singleton→bu,length_replicate→bw,size_toArray→bz,all_eq_true→b6,getElem?_set_ne→b9,getElem?_replicate→cc,mem_iff_getElem?→ce,contains_iff_mem→cf,range→cg,all_cons→ci,lookup_cons→cn,length_set→cq,getElem?_set_self→cv,map_inj_left→cy,mem_append→cz,length_take→c9,getElem?_set→dg,map_append→dh,getElem?_append_right→dj,mem_append_left→dk,filterMap_cons→dm,getElem?_append_left→dn,nodup_cons→du,append_nil→dz,length_range→d4,length_singleton→d5,mem_filter→d6,find?_cons→d7,pairwise_cons→ee,getElem_mem→eh,ext_getElem?→er,length_filter_le→et,getElem?_eq_none→eu,length_eq_zero_iff→fg,getElem?_cons_succ→fh,filter_eq_self→fz,map_map→ge,take_length→gh,mem_range→gj,getElem?_take_of_lt→gy,any_cons→gz,not_mem_nil→g9,mem_filterMap→ig,toArray→iu,append_assoc→i3,drop_eq_getElem_cons→ja,getElem?_range→jc,contains_cons→jn,findIdx?_cons→jo,lookup→jq,pairwise_map→jx,nodup_append→j0,take_append_drop→j5,length_drop→j6,getElem?_append→ki,take_append_of_le_length→kl,mem_zipIdx_iff_getElem?→kr,map_congr_left→kt,take_succ→lh,length→lq,take_sublist→lr,Pairwise→lv,filterMap_cons_none→lx,filterMap_cons_some→ly,mem_flatten→l8,drop_length→l9,pairwise_singleton→mf,filter_cons_of_pos→mi,filter_cons_of_neg→mj,isEmpty_iff→ml,find?_cons_of_pos→mw,find?_cons_of_neg→mx,take_of_length_le→my,filter_eq_nil_iff→nc,of_mem_zip→nh,foldl_cons→nk,countP_mono_left→nv,replicate_succ→om,getElem_of_mem→on,take_succ_cons→ot,filter_append→pe,flatten_cons→p4,set_set→p9,find?_isSome→qa,find?_append→qb,map→qr
open Nat renaming le_refl→ae,le_trans→bq,lt_of_lt_of_le→b8,ne_of_lt→cb,lt_irrefl→cu,zero_le→db,le_of_lt→gv,le_succ→i5,lt_succ_self→i9,lt_of_le_of_lt→jm,lt_trans→ky,sub_self→k7,add_sub_cancel'→ol
open Option renaming map_eq_some_iff→bx,isNone_iff_eq_none→dq,bind_eq_some_iff→fj,isSome_map→i0
open Prod renaming fst→mh,snd→qq
open PyProof.Rows renaming seqObj→jf,AllBare→ku,subscriptTail_builtinR→mu,envOfC→n5,Constant_none→ou,IntsAre→qj
open PySem renaming wpAny_bind→aa,PyData→aq,sizeLine→au,Shared→az,wpAny_pure→bb,mainGlobals→bo,wpAny_loadPart_at→b7,Program→cj,compareOp→cw,starEach→cx,bootBuiltins→c7,sizeLine_eq→c8,FuncData→dt,behindInMarks→dw,assignEach→d8,Params→d9,wpAny_holding→ej,NameKind→ek,wpAny_truthy_bool→ey,PassesOwn→ez,foldedSetIterable→e6,Around→fk,wpAny_mono→fm,binaryOp→fy,wpAny_standAt→gf,wpAny_field→gg,wpAny_passesOwn→gr,noteFrame→gu,wpAny_newObj_type→gx,wpAny_isSubtype_exc→g6,wpAny_getItem_str_slice→g8,codeAny_mono→ij,wpAny_Call_Name_kw→il,tupleKind_room_in1→ip,setFlight→iy,backTo→iz,sysModules→i4,codeAny_call_builtin→i6,swapsWith→i7,codeAny→i8,attributeBase→jg,wpAny_execs_nil→jh,letOwnedTupleGo→jk,importedModules→jl,keywordEach→jr,wpAny_callSpecial?_slot→jt,sliceBounds→ju,treeTable→jv,Paired→jw,wpAny_setField→jy,plainObj_wpAny_Assign_Attribute→j3,wpAny_call_entry→j7,checkBuiltinCall→j8,OsState→j9,bindArgs→kb,unbindBehindTheSuite→kj,rawInt→km,post_val_or_str→kq,Keyword→kx,wpAny_typeOf→kz,wpAny_pyIter_tuple→k9,handleBy→lg,wpAny_pyIter_list→lm,excClassObj→ls,wpAny_comprehension_free→lw,tupleKind→l0,backToKw→l4,noFill_tuple_add→l5,wpAny_call→mn,concat_meets→mo,wpAny_rule→mz,isInstance→m9,codeAny_builtin→nn,wpAny_isTrue_Compare1→nr,codeAny_handlers_test→ny,wpAny_loadName_local→nz,sliceRange_one→n6,wpAny_seqItems→n8,methodCallForm→n9,BindsTo→oa,OwnTail→og,seqItems?→oh,wpAny_raiseNew_none→oo,wpAny_handleBy_cons→oq,swapsWithSole→ow,swappedStores→ox,seq_tuple_add→oy,ExceptHandler→o4,plainId_quiet→o6,methodCallPos→o7,wpAny_Name→pa,assign→pb,IsPart→pd,wpAny_assign_Name→pf,valueAt→pi,getItem→pj,call_meetsIn→pp,seqIndex_neg→pq,slot_list_getitem→pu,callerA→pv,Operator→pz,getAttr?→p5,wpAny_pyIter_enum→p7,GenState→p8,isTrue→qc,pyIter→qd,typeOf→qe,seqIndex_of→qf,builtinKind→qg,leaving→qi,builtinsNs→qk,typeIs_str→ql,PlainAttrs→qm,intItems→qo,excMatches→qp,getAttr→qs
open PySem.Builtin.Dict renaming updateFrom→ma
open PySem.Builtin.Slice renaming slicePlaces→gq,sliceAdjust→li
open PySem.Builtin.SmallTypes renaming nextOf→lj
open PySem.Builtin.Str renaming strSliceIndices→gc,occurrences→g7
open PySem.Calls renaming Name_function_global→gk,loadGlobal_global→jp,evalArgs_plain→kg,callWith_builtin→mv
open PySem.Heap renaming get?_push_of_some→ak,lt_size→bg,get?_push_size→bt,get?_update_other→eo,SameBut→gb,get?_update_self→gn,get?_none_of_le→gw,get?_update_ne→jd,size_push→k8,MadeExcOf→lb,get?_push_at→lu,NewExcOf→o5
open PySem.Heap.Ns1 renaming of_empty→ph
set_option Elab.async false
set_option genInjectivity false
set_option genSizeOf false
set_option linter.all false
set_option maxRecDepth 100000
theorem dc {p:Prop} [Decidable p] (h:decide p=true:=by rfl):p:=by simpa using h
theorem qt {c:Prop}{d:Decidable c}(h:c){α:Sort _}{a b:α}:@ite α c d a b=a:=if_pos h
theorem qu {c:Prop}{d:Decidable c}(h:¬c){α:Sort _}{a b:α}:@ite α c d a b=b:=if_neg h
theorem qv {α}{a b:α}(h:some a=some b):a=b:=Option.some.inj h
theorem qw {α β}{a c:α}{b d:β}(h:(a,b)=(c,d)):a=c∧b=d:=Prod.mk.inj h
theorem qx {p:Prop} [Decidable p] (h:decide p=true):p:=of_decide_eq_true h
theorem qy {p:Prop} [Decidable p] (h:p):decide p=true:=decide_eq_true h
theorem q8 {α} [BEq α] [LawfulBEq α] {a b:α}(h:(a==b)=true):a=b:=beq_iff_eq.mp h
abbrev Vx (x:PySem.Str):Prop:=(x==("__debug__":PySem.Str))=false
namespace Tp
open PySem PySem.W PyProof.Rows
def q0:Pos:=⟨0,0,0,0⟩
def an:Option Value:=some (.ref 6)
def ev (p:cj):Env:={scope:=p.main.scope,locals:=mainNs,globals:=mainNs,cells:=[],code:=.ref 13,frame:=some 14}
def cd (p:cj):Code:=.body (behindTheImports p) (ev p)
def grow:List Obj->Nat->BT->BT
 | [],_,t=>t
 |o::l,i,t=>grow l (i+1) (t.ins i o)
def lift (s:az):SharedT:=⟨grow s.heap.objs.toList 0 .nil,s.heap.objs.size,s.heap.life,s.gens,s.drawn,s.toks,s.os⟩
def pre (p:cj)(H:d9->Heap)(d:Drawn)(k:Nat)(w:World)(os:j9):Option (az×Thread):=topGo jv p w 11 an 12 ⟨H w.params,#[],d,k,os⟩ (topStub p)
def oB (p:cj)(H:d9->Heap)(d:Drawn)(k:Nat)(w:World)(os:j9):SharedT:=lift (((pre p H d k w os).map mh).getD ⟨H w.params,#[],d,k,os⟩)
def run (p:cj)(H:d9->Heap)(d:Drawn)(k N:Nat)(w:World)(os:j9):Option (Flow×SharedT×Code×Pos):=segRunT jv p w 11 an 1 N (oB p H d k w os) (piecesOf (behindTheImports p) (ev p) (cd p) q0 [topFrame q0])
def PreEq (p:cj)(H:d9->Heap)(d:Drawn)(k:Nat):Prop:=∀(w:World) (os:j9),((H w.params).isNs bo&&(#[]:Array p8).size==0,(H w.params).objs.size,(H w.params).nsMap bo "__annotations__",pre p H d k w os,λs c=>segRun jv p w 11 an 1 1 s (blockOf (behindTheImports p) (ev p) c q0 [topFrame q0]))=(true,11,an,some ((oB p H d k w os).abs,⟨denote jv (cd p),cd p,q0,[topFrame q0]⟩),λs c=>some (.next,s,c,q0))
def seen (p q:cj)(R:WRecords)(as:List Addr)(H:d9->Heap)(w:World)(s:SharedT):=(staticsOk (jl p.main.body) (H w.params) s.abs.heap&&namesBound p s.abs.heap&&gensDone s.abs&&laidKept (H w.params) s.abs.heap,openSeen q [] (jl p.main.body) (λs=>xlAt q [] s&&recOk R s) true s.abs,as.map s.abs.heap.get?)
def pick {α:Type}(f:SharedT->α):Flow×SharedT×Code×Pos->Option (Code×α)
 |(.next,s,c,_)=>some (c,f s)
 |_=>none
def jD (p q:cj)(R:WRecords)(as:List Addr)(K:d9->List (Addr×Obj))(H:d9->Heap)(d:Drawn)(k N:Nat):Prop:=∀(w:World) (os:j9),(run p H d k N w os).bind (pick (seen p q R as H w))=some (cd p,true,openGood q [],(K w.params).map λx=>some x.2)
theorem zQ (b:String->Option Builtin)(p:cj)(w:World)(n:Nat)(a:Option Value)(s:az)(c:Code)(ps q:Pos):topRun b p w n a 2 s ⟨doneF .next,c,ps,[topFrame q]⟩=some s:=by rfl
theorem left {K:d9->List (Addr×Obj)}(o:∀w,(fencedOpening jv p w N).map (fun s=>(s.heap,s.gens,s.drawn,s.toks))=some (boot_heap w.params,#[],boot_drawn,boot_toks))(le:12+(1+(M+2))<=N)
  (A:PreEq p boot_heap boot_drawn boot_toks) (B:jD p q R C K boot_heap boot_drawn boot_toks M):LeftO p q [] (λs=>xlAt q [] s&&recOk R s) (λs=>C.map s.heap.get?) (λw=>(K w.params).map λx=>some x.2) N:=λw=>by
 obtain⟨⟨h,gs,d,k,os⟩,e,D⟩:=bx.mp (o w);have g:=qw D;have i:=qw g.2;have j:=qw i.2;obtain rfl:h=boot_heap w.params:=g.1;obtain rfl:gs=#[]:=i.1;obtain rfl:d=boot_drawn:=j.1;obtain rfl:k=boot_toks:=j.2;have a:=qw (A w os);have l:=qw a.2;have m:=qw l.2;have n:=qw m.2;obtain⟨⟨f,s,c,ps⟩,E,r⟩:=fj.mp (B w os);cases f with
 |next=>
  have b:=qw (qv r);have u:=qw b.2;have v:=qw u.2;obtain rfl:c=cd p:=b.1;have y:topRun jv p w 11 an (M+2) (oB p boot_heap boot_drawn boot_toks w os).abs (restOf (behindTheImports p++[]) (ev p) (cd p) q0 [topFrame q0])=some s.abs:=piece_app (segRun_of E) (zQ jv p w 11 an s.abs (cd p) ps q0);rw[dz]at y;have F:=piece_block (congrFun (congrFun n.2 (oB p boot_heap boot_drawn boot_toks w os).abs) (cd p)) y;have G:=go_top n.1 F;have z:=topRun_mono (N-(12+(1+(M+2)))) _ _ _ _ G;rw[ol le]at z;have t:topFrom jv p w N ⟨boot_heap w.params,#[],boot_drawn,boot_toks,os⟩=some s.abs:=by unfold topFrom;rw[a.1,l.1,m.1,z];show(match staticsOk (jl p.main.body) (boot_heap w.params) s.abs.heap&&namesBound p s.abs.heap&&gensDone s.abs&&laidKept (boot_heap w.params) s.abs.heap with|true=>some s.abs|false=>none)=_;rw[u.1]
  unfold openEnds;rw[e];show(topFrom jv p w N _).map _=_;rw[t];exact congrArg some (Prod.ext v.1 v.2)
 |_=>cases r
theorem pre_r:PreEq=PreEq:=rfl
def zR (p q:cj)(R:WRecords)(H:d9->Heap)(w:World)(s:SharedT):=(staticsOk (jl p.main.body) (H w.params) s.abs.heap&&namesBound p s.abs.heap&&gensDone s.abs&&laidKept (H w.params) s.abs.heap,openSeen q [] (jl p.main.body) (λs=>xlAt q [] s&&recOk R s) true s.abs)
def RunA (p q:cj)(R:WRecords)(H:d9->Heap)(d:Drawn)(k N:Nat):Prop:=∀(w:World) (os:j9),(run p H d k N w os).bind (pick (zR p q R H w))=some (cd p,true,openGood q [])
def RunB (p:cj)(as:List Addr)(K:d9->List (Addr×Obj))(H:d9->Heap)(d:Drawn)(k N:Nat):Prop:=∀(w:World) (os:j9),(run p H d k N w os).bind (pick λs=>as.map s.abs.heap.get?)=some (cd p,(K w.params).map λx=>some x.2)
theorem Kw {e h:Type}{f:SharedT->e}{g:SharedT->h}{x:Option (Flow×SharedT×Code×Pos)}{a:e}{b:h}(d:x.bind (pick f)=some (c,a))(j:x.bind (pick g)=some (c,b)):x.bind (pick λs=>(f s,g s))=some (c,a,b):=by
 cases x with
 |none=>cases d
 |some y=>
  obtain⟨fl,s,k,ps⟩:=y;cases fl with
  |next=>have i:=qw (qv d);have l:=qw (qv j);show some (k,f s,g s)=_;rw[i.1,i.2,l.2]
  |_=>cases d
theorem rC {K:d9->List (Addr×Obj)}(f:RunA p q R H d k N)(g:RunB p a K H d k N):jD p q R a K H d k N:=λw os=>by
 have h:=Kw (f w os) (g w os);cases e:run p H d k N w os with
 |none=>rw[e]at h;cases h
 |some y=>
  rw[e]at h;obtain⟨fl,s,i,ps⟩:=y;cases fl with
  |next=>have b:=qw (qv h);have c:=qw b.2;show some (i,(zR p q R H w s).1,(zR p q R H w s).2,a.map s.abs.heap.get?)=_;rw[b.1,c.2,c.1]
  |_=>cases h
theorem runA_r:RunA=RunA:=rfl
theorem runB_r:RunB=RunB:=rfl
end Tp
lay_quick Tp.PreEq Tp.RunA Tp.RunB
name_quick tpre for Tp.PreEq by Tp.pre_r
name_quick truna for Tp.RunA by Tp.runA_r
name_quick trunb for Tp.RunB by Tp.runB_r
namespace Tp
open PySem PySem.W PyProof.Rows
theorem rn_r:run=run:=rfl
end Tp
name_quick trn for Tp.run by Tp.rn_r
namespace Tp
open PySem PySem.W PyProof.Rows
def obj (p:cj)(M:Nat)(P:d9)(a:Addr):Obj:=((PySem.W.Fast.trn p boot_heap boot_drawn boot_toks M ⟨λ_ _=>0,P⟩ default).map λx=>(x.2.1.tree.get a).getD default).getD default
def Ko (p:cj)(M:Nat)(as:List Addr)(P:d9):Frag:=as.map λa=>(a,obj p M P a)
theorem uC (p:cj)(M:Nat)(a:List Addr)(P:d9):a=(Ko p M a P).map (·.1):=by unfold Ko;rw[ge];exact(List.map_id _).symm
def said (l:OpenLaw):Bool:=l.wellSaid
theorem said_r:said=said:=rfl
theorem holds {K:d9->Frag}(ws:said l=true)(a:∀P,b=(K P).map (·.1))(c:opening l.row.prog=plainProg l.row.prog.main.scope.names)(g:Nat.ble 600 N=true)(h:∀s,fenceModules? l.row.prog s=some s)(le:12+(1+(M+2))<=N)
  (i:PreEq l.row.prog boot_heap boot_drawn boot_toks) (j:jD l.row.prog q l.row.records b K boot_heap boot_drawn boot_toks M) (k:defOf q l.row.name=some (d,[])) (m:l.row.prog.theDef l.row.name=some (d.params,d.body,d.scope)) (n:kwWritten? d.params.kwonlyargs d.params.kw_defaults=some []) (o:(!l.row.writes||l.row.records.isEmpty)=true)
  (p:(chainsOk q&&opensWell l.row.prog&&(frees l.row.toRowW&&l.row.within.isEmpty))=true) (r:l.row.prog.bare) (t:l.row.toRowW.promised) (call:WalkO q [] (XL q []) (InK K) l.row.toRowW d [] λf u=>PySem.call f u):l.Holds:=
 holds_law ws λz=>holds_open (left (boot_open c g h) le i j) (InK.of a) InK.keeps (λs e=>xl_of s (ar.mp e).1) XL.keeps k m n (λs e=>recFacts_of (ar.mp e).2) o z p r t call
end Tp
lay_quick Tp.said
name_quick tsaid for Tp.said by Tp.said_r
namespace Mk
open PySem PySem.Spec PyProof.Rows
abbrev lO:cj:=PySem.Challenge.rw_likebook_k46_courts_founded.row.prog
def uD:cj:=W.view lO [0,2,3,4,5,6,7,8,10,11,13,14,16,17,19,21,23,24,26,27,28,29,30,31,32,33,34,35,36,37,38,39,40,41,42,43,44,45,46,47,48]
def xY:List Addr:=cg 498
def pU:d9->W.Frag:=Tp.Ko lO 100000 xY
theorem Ky:Tp.PreEq lO W.boot_heap W.boot_drawn W.boot_toks:=by
 intro w os
 kernel_rfl
theorem zS:Tp.RunA lO uD PySem.Challenge.rw_likebook_k46_courts_founded.row.records W.boot_heap W.boot_drawn W.boot_toks 100000:=by
 rw[PySem.W.Fast.truna_eq];intro w os
 kernel_rfl
theorem zT:Tp.RunB lO xY pU W.boot_heap W.boot_drawn W.boot_toks 100000:=by
 rw[PySem.W.Fast.trunb_eq];intro w os
 kernel_rfl
theorem Kz:Tp.jD lO uD PySem.Challenge.rw_likebook_k46_courts_founded.row.records xY pU W.boot_heap W.boot_drawn W.boot_toks 100000:=Tp.rC zS zT
end Mk
namespace L2
open PySem PySem.Spec PyProof.Rows
abbrev Key:=Sum Int Str
def tP:Key->Value->Bool
 |.inl k,v=>Value.isInt k v
 |.inr x,v=>Value.isStrOf x v
def zU (w:World):Key->Int
 |.inl k=>hashInt k
 |.inr x=>hashStr w x
theorem nO:∀{k:Key} {v:Value},tP k v=true->(∃i t,k=Sum.inl i/\v=Value.int i t)\/(∃x t,k=Sum.inr x/\v=Value.str x t)
 |.inl i,v,h=>by obtain⟨t,e⟩:=Value.isInt_shape h;exact .inl ⟨i,t,rfl,e⟩
 |.inr x,v,h=>by obtain⟨t,e⟩:=Value.isStrOf_shape h;exact .inr ⟨x,t,rfl,e⟩
theorem KA (i:Int)(t:Tok):tP (.inl i) (.int i t)=true:=by simp[tP,Value.isInt]
theorem KC (x:Str)(t:Tok):tP (.inr x) (.str x t)=true:=by simp[tP,Value.isStrOf]
theorem KD (a b:Int):decide ((Sum.inl a:Key)=Sum.inl b)=(a==b):=by grind
theorem KG (a b:Str):decide ((Sum.inr a:Key)=Sum.inr b)=decide (a=b):=by grind
theorem KH (a:Int)(b:Str):decide ((Sum.inl a:Key)=Sum.inr b)=false:=decide_eq_false (λq=>nomatch q)
theorem KI (a:Str)(b:Int):decide ((Sum.inr a:Key)=Sum.inl b)=false:=decide_eq_false (λq=>nomatch q)
def gQ (prog:cj)(w:World):PySem.KeyKind prog w Key where
 is:=tP
 hash:=zU w
 inj:=λv a b ha hb=>by
  rcases nO ha with⟨i,t,rfl,rfl⟩|⟨x,t,rfl,rfl⟩
  ·rcases nO hb with⟨j,u,rfl,e⟩|⟨y,u,rfl,e⟩
   ·injection e with e1 _;rw[e1]
   ·exact nomatch e
  ·rcases nO hb with⟨j,u,rfl,e⟩|⟨y,u,rfl,e⟩
   ·exact nomatch e
   ·injection e with e1 _;rw[e1]
 byValue:=λk v h=>by rcases nO h with⟨i,t,rfl,rfl⟩|⟨x,t,rfl,rfl⟩<;>rfl
 pyHash:=λhv h=>by
  rcases nO hv with⟨i,t,rfl,rfl⟩|⟨x,t,rfl,rfl⟩
  ·exact wpAny_pyHash_int h
  ·exact wpAny_pyHash_str h
 eqBool:=λhu hv h=>by
  rcases nO hu with⟨i,t,rfl,rfl⟩|⟨x,t,rfl,rfl⟩
  ·rcases nO hv with⟨j,u,rfl,rfl⟩|⟨y,u,rfl,rfl⟩
   ·rw[KD]at h;exact wpAny_eqBool_int h
   ·rw[KH]at h;exact SeqAt.EqAt.int_str i t y u _ _ _ _ h
  ·rcases nO hv with⟨j,u,rfl,rfl⟩|⟨y,u,rfl,rfl⟩
   ·rw[KI]at h;exact SeqAt.EqAt.str_int x t j u _ _ _ _ h
   ·rw[KG]at h;exact wpAny_eqBool_str h
 «strs»:=λk x t v h=>by
  rcases nO h with⟨i,u,rfl,e⟩|⟨y,u,rfl,e⟩
  ·exact nomatch e
  ·injection e with e1 _;subst e1;cases v<;>rfl
theorem KJ (prog:cj)(w:World)(i:Int)(t:Tok):(gQ prog w).is (.inl i) (.int i t)=true:=KA i t
theorem KN (prog:cj)(w:World)(x:Str)(t:Tok):(gQ prog w).is (.inr x) (.str x t)=true:=KC x t
inductive V where
 |aK|bl (b:Bool)|int (i:Int)|str (x:Str)|ref (a:Addr)|ty (n:String)
 deriving DecidableEq
def RelV:V->Value->Prop
 |.aK,u=>u=Value.none
 |.bl b,u=>u=Value.bool b
 |.int i,u=>∃t,u=Value.int i t
 |.str x,u=>∃t,u=Value.str x t
 |.ref a,u=>u=Value.ref a
 |.ty n,u=>u=Value.type n
abbrev Vals:List V->List Value->Prop:=jw RelV
theorem Vals.length (r:Vals xs a):xs.length=a.length:=Paired.length r
theorem Vals.get:∀{a:List V} {b:List Value} {i:Nat} {x:V},Vals a b->a[i]?=some x->∃u,b[i]?=some u/\RelV x u
 |_,_,_,_,.nil,e=>by simp at e
 |_,_,0,_,.cons r _,e=>by simp at e;subst e;exact⟨_,rfl,r⟩
 |_,_,i+1,x,.cons _ t,e=>by obtain⟨u,c,d⟩:=Vals.get t (by simpa using e);exact⟨u,by simpa using c,d⟩
theorem Vals.set (r:RelV x u):∀{a:List V} {b:List Value} i,Vals a b->Vals (a.set i x) (b.set i u)
 |_,_,_,.nil=>.nil
 |_,_,0,.cons _ t=>.cons r t
 |_,_,i+1,.cons q t=>.cons q (Vals.set r i t)
theorem Vals.append {xs ys:List V}{a b:List Value}(h:Vals xs a)(s:Vals ys b):Vals (xs++ys) (a++b):=by
 induction h with
 |nil=>exact s
 |cons r t i=>exact .cons r i
theorem Vals.take:∀{xs:List V} {a:List Value} n,Vals xs a->Vals (xs.take n) (a.take n)
 |_,_,0,_=>.nil
 |_,_,_+1,.nil=>.nil
 |_,_,n+1,.cons r t=>.cons r (Vals.take n t)
theorem Vals.drop:∀{a:List V} {b:List Value} n,Vals a b->Vals (a.drop n) (b.drop n)
 |_,_,0,r=>r
 |_,_,_+1,.nil=>.nil
 |_,_,n+1,.cons _ t=>Vals.drop n t
def cG:Option V->Option Value->Prop
 |some v,some u=>RelV v u
 |none,none=>True
 |_,_=>False
def KV {κ:Type}:List (κ×V)->List (κ×Value)->Prop:=jw λ(p:κ×V) (q:κ×Value)=>p.1=q.1/\RelV p.2 q.2
def kV:Key->V
 |.inl i=>.int i
 |.inr x=>.str x
inductive HO where
 |lst (xs:List V)
 |tup (xs:List V)
 |dK (kvs:List (Key×V))|dT (kvs:List (List Key×V))
 |set (S:Int->Bool) (n:Nat)
 |ins (C dx:Addr) (fs:List (Str×V))
 |own (x:Addr)
 |xd (fs:List (Str×V))
 |eZ (o:Obj) (u:HO)
 |lP (ps:Array Value)
 |ext (φ:Heap->Prop)
abbrev Hp:=Addr->Option HO
def upd (H:Hp)(a:Addr)(o:HO):Hp:=λb=>if b=a then some o else H b
theorem bI:upd H a o a=some o:=by unfold upd;rw[qt rfl]
theorem aE (h:b≠a):upd H a o b=H b:=by unfold upd;rw[qu h]
theorem KO {H:Hp}(h:H a=some o)(c:H b=some u)(d:o≠u):a≠b:=by grind
theorem bQ {H:Hp}(h:H a=some o)(c:H b=none):a≠b:=by intro e;subst e;rw[h]at c;cases c
def TupN (h:Heap)(a:Addr)(l:Array Value):Prop:=∃n,h.get? a=some {cls:=.type "tuple",data:=.seq l n}
theorem TupN.tup {h:Heap}{a:Addr}{l:Array Value}(x:TupN h a l):IsTup h a l:=let⟨n,q⟩:=x;⟨_,q,rfl,n,rfl⟩
theorem TupN.new (h:Heap)(l:Array Value):TupN (h.push {cls:=.type "tuple",data:=.seq l}) h.objs.size l:=⟨_,bt _ rfl⟩
def KP (h:Heap)(a:Addr)(l:Array Value):Prop:=∃o n,h.get? a=some o/\o.cls=.type "tuple"/\o.dict=none/\o.data=.seq l n
section
variable (P:cj)(w:World)
def z14 (H:Hp)(h:Heap)(a:Addr):HO->Prop
 |.lst xs=>xs.length<=au/\∃(eI:List Value) (n:Nat),Vals xs eI/\h.get? a=some {cls:=.type "list",data:=.seq eI.toArray n}
 |.tup xs=>xs.length<=au/\∃eI:List Value,Vals xs eI/\TupN h a eI.toArray
 |.dK kvs=>kvs.length<=au/\(a==i4)=false/\∃vs,KV kvs vs/\h.DictOf (gQ P w) a vs
 |.dT kvs=>kvs.length<=au/\(a==i4)=false/\∃xs:List (List Key×Addr×Value),
  jw (λ(p:List Key×V) (q:List Key×Addr×Value)=>p.1=q.1/\H q.2.1=some (.tup (p.1.map kV))/\RelV p.2 q.2.2) kvs xs/\
  ∃o es ep,h.get? a=some o/\o.ExactDict/\o.data=.dict es ep/\es.toList=xs.map (entryOfKey (l0 (gQ P w)))/\(xs.map (·.1)).Nodup
 |.set S n=>h.SetOf (intKind P w) a S n
 |.ins C dx fs=>H dx=some (.own a)/\fs.length<=1000/\dx≠a/\h.get? a=some (W.instObj C dx)/\∃mA,h.Ns1 dx mA/\(∀f,cG (fs.lookup f) (mA f))/\PySem.Within mA (fs.map (·.1))
 |.own _=>∃o,h.get? a=some o
 |.xd fs=>∃mA,h.Ns1 a mA/\∀f,cG (fs.lookup f) (mA f)
 |.eZ o u=>h.get? a=some o/\z14 H h a u
 |.lP ps=>h.get? a=some {cls:=.none,data:=.fields ps}
 |.ext φ=>φ h/\(∃o,h.get? a=some o)/\∀h1 h2:Heap,φ h1->(∀o,h1.get? a=some o->h2.get? a=some o)->φ h2
def HOk (H:Hp)(h:Heap):Prop:=∀a o,H a=some o->z14 P w H h a o
end
theorem z14.lt (x:z14 P w H h a o):a<h.objs.size:=by
 cases o with
 |lst b=>obtain⟨_,_,_,_,e⟩:=x;exact bg e
 |tup b=>obtain⟨_,_,_,_,q⟩:=x;exact bg q
 |dK kvs=>obtain⟨_,_,_,_,o,_,_,e,_⟩:=x;exact bg e
 |dT kvs=>obtain⟨_,_,_,_,o,_,_,e,_⟩:=x;exact bg e
 |set S n=>obtain⟨o,_,_,_,e,_⟩:=x;exact bg e
 |ins C dx fs=>obtain⟨_,_,_,e,_⟩:=x;exact bg e
 |own y=>obtain⟨_,e⟩:=x;exact bg e
 |xd fs=>obtain⟨_,⟨_,_,_,e,_⟩,_⟩:=x;exact bg e
 |eZ ob u=>obtain⟨e,_⟩:=x;exact bg e
 |lP ps=>exact bg x
 |ext c=>obtain⟨_,⟨_,e⟩,_⟩:=x;exact bg e
theorem Paired.uE {e g:Type}{F G:e->g->Prop}{c:List e}{d:List g}(h:jw F c d)(f:∀a b,F a b->G a b):jw G c d:=by
 induction h with
 |nil=>exact .nil
 |cons r t i=>exact .cons (f _ _ r) i
theorem z14.stay (x:z14 P w H h a o)(k:∀b u,(b=a\/H b=some (.own a))->h.get? b=some u->h'.get? b=some u)
  (j:∀b,H b=some (.own a)->H' b=some (.own a)) (m:∀b f,H b=some (.tup f)->H' b=some (.tup f)):z14 P w H' h' a o:=by
 induction o with
 |lst f=>obtain⟨z,g,n,r,e⟩:=x;exact⟨z,g,n,r,k _ _ (.inl rfl) e⟩
 |tup f=>obtain⟨z,l,r,n,q⟩:=x;exact⟨z,l,r,n,k _ _ (.inl rfl) q⟩
 |dK kvs=>obtain⟨z,y,s,r,ob,es,ep,e,c⟩:=x;exact⟨z,y,s,r,ob,es,ep,k _ _ (.inl rfl) e,c⟩
 |dT kvs=>obtain⟨z,y,f,r,ob,es,ep,e,c⟩:=x;exact⟨z,y,f,Paired.uE r λp q z=>⟨z.1,m _ _ z.2.1,z.2.2⟩,ob,es,ep,k _ _ (.inl rfl) e,c⟩
 |set S n=>obtain⟨ob,es,ep,t,e,c⟩:=x;exact⟨ob,es,ep,t,k _ _ (.inl rfl) e,c⟩
 |ins C dx fs=>obtain⟨d,z,ne,e,i,⟨od,es,ep,v,c⟩,r⟩:=x;exact⟨j _ d,z,ne,k _ _ (.inl rfl) e,i,⟨od,es,ep,k _ _ (.inr d) v,c⟩,r⟩
 |own y=>obtain⟨ob,e⟩:=x;exact⟨ob,k _ _ (.inl rfl) e⟩
 |xd fs=>obtain⟨i,⟨od,es,ep,e,c⟩,r⟩:=x;exact⟨i,⟨od,es,ep,k _ _ (.inl rfl) e,c⟩,r⟩
 |eZ ob u A=>obtain⟨e,q⟩:=x;exact⟨k _ _ (.inl rfl) e,A q⟩
 |lP ps=>have e:h.get? a=some {cls:=.none,data:=.fields ps}:=x;exact k a _ (.inl rfl) e
 |ext B=>obtain⟨p,⟨o,e⟩,st⟩:=x;exact⟨st _ _ p λo q=>k _ _ (.inl rfl) q,⟨o,k _ _ (.inl rfl) e⟩,st⟩
theorem HOk.lt (x:HOk P w H h)(e:H a=some o):a<h.objs.size:=(x a o e).lt
theorem HOk.fresh (x:HOk P w H h)(e:h.objs.size<=a):H a=none:=by
 cases q:H a with
 |none=>rfl
 |some u=>exact absurd (b8 (x.lt q) e) (cu _)
theorem HOk.kept (x:HOk P w H h)(k:∀b u,h.get? b=some u->h'.get? b=some u):HOk P w H h':=λa o e=>(x a o e).stay (λb u _ q=>k b u q) (λ_ q=>q) λ_ _ q=>q
theorem HOk.laid (x:HOk P w H h)(k:∀b u,h.get? b=some u->h'.get? b=some u)(f:h.objs.size<=a)(new:z14 P w (upd H a o) h' a o):HOk P w (upd H a o) h':=λb u e=>by
 have hn:=x.fresh f;by_cases d:b=a
 ·subst d;rw[bI]at e;cases e;exact new
 ·rw[aE d]at e;exact(x b u e).stay (λc v _ q=>k c v q) (λc q=>by rw[aE (bQ q hn)];exact q) λc g q=>by rw[aE (bQ q hn)];exact q
def Rd (H:Hp)(a:Addr)(u:HO):Prop:=H a=some u\/∃o,H a=some (.eZ o u)
theorem Rd.ok (r:Rd H a u)(x:HOk P w H h):z14 P w H h a u:=by
 rcases r with r|⟨o,r⟩
 ·exact x a u r
 ·obtain⟨_,q⟩:=x a _ r;exact q
def Mut:Option HO->Prop
 |some (.lst _)=>True
 |some (.dK _)=>True
 |some (.dT _)=>True
 |some (.set _ _)=>True
 |some (.ins _ _ _)=>True
 |some (.ext _)=>True
 |_=>False
theorem HOk.write (ok:HOk P w H h)(f:Mut (H x))(l:e=x\/H e=some (.own x))(k:∀b u,b≠e->h.get? b=some u->h'.get? b=some u)(j:∃u,h'.get? e=some u)
  (new:z14 P w (upd H x o') h' x o'):HOk P w (upd H x o') h':=λb u q=>by
 have d:∀c y,H c=some (.own y)->c≠x:=λc y r z=>by subst z;rw[r]at f;exact f
 by_cases g:b=x
 ·subst g;rw[bI]at q;cases q;exact new
 ·rw[aE g]at q;by_cases a:b=e
  ·have m:H b=some (.own x):=by
    rcases l with z|z
    ·exact absurd (a.trans z) g
    ·rw[a];exact z
   rw[q]at m;cases m;obtain⟨v,o⟩:=j;exact⟨v,by rw[a];exact o⟩
  ·refine(ok b u q).stay (λc v i r=>k c v ?_ r) (λc r=>by rw[aE (d c b r)];exact r) λc n r=>by rw[aE ((λc n r z=>by subst z;rw[r]at f;exact f) c n r)];exact r
   rcases i with rfl|i
   ·exact a
   ·rintro rfl
    rcases l with z|z
    ·exact d c b i z
    ·rw[i]at z;cases z;exact g rfl
structure Un (fs ex:List Addr)(H H':Hp)(h h':Heap):Prop where
 keep:∀b o,h.get? b=some o->H b=none->b∉fs->b∉ex->h'.get? b=some o
 slot:∀b o,h.get? b=some o->H b=none->b∈fs->b∉ex->∃sl,h'.get? b=some {o with slots:=sl}
 free:∀b o,h.get? b=some o->H b=none->b∉ex->H' b=none
 there:∀b o,h.get? b=some o->b∉ex->∃o',h'.get? b=some o'
 cN:∀b xs,H b=some (.tup xs)->H' b=some (.tup xs)
 cJ:∀b o u,H b=some (.eZ o u)->H' b=some (.eZ o u)
 cO:∀b ps,H b=some (.lP ps)->∃more,H' b=some (.lP (ps++more))
theorem Un.any (u:Un fs ex H H1 h h1)(q:h.get? b=some ob)(n:H b=none)(a:b∉ex):∃sl,h1.get? b=some {ob with slots:=sl}:=by
 by_cases c:b∈fs
 ·exact u.slot b ob q n c a
 ·exact⟨ob.slots,u.keep b ob q n c a⟩
theorem Un.kept (k:∀b u,h.get? b=some u->h'.get? b=some u):Un fs ex H H h h':=⟨λb ob q _ _ _=>k b ob q,λb ob q _ _ _=>⟨ob.slots,k b ob q⟩,λ_ _ _ n _=>n,λb ob q _=>⟨ob,k b ob q⟩,λ_ _ q=>q,λ_ _ _ q=>q,λ_ ps q=>⟨#[],by rw[q];simp⟩⟩
theorem Un.refl:Un fs ex H H h h:=Un.kept λ_ _ q=>q
theorem Un.laid (k:∀b u,h.get? b=some u->h'.get? b=some u)(c:h.objs.size<=a)(hn:H a=none):Un fs ex H (upd H a o) h h' where
 keep:=λb u q _ _ _=>k b u q
 slot:=λb u q _ _ _=>⟨u.slots,k b u q⟩
 free:=λb u q n _=>by rw[aE (cb (b8 (bg q) c))];exact n
 there:=λb u q _=>⟨u,k b u q⟩
 cN:=λb d q=>by rw[aE (bQ q hn)];exact q
 cJ:=λb u d q=>by rw[aE (bQ q hn)];exact q
 cO:=λb ps q=>⟨#[],by rw[aE (bQ q hn),q];simp⟩
theorem Un.write (c:Mut (H x))(i:e=x\/H e=some (.own x))(k:∀b u,b≠e->h.get? b=some u->h'.get? b=some u)(d:∃u,h'.get? e=some u):Un fs ex H (upd H x o) h h':=by
 have f:∀b,H b=none->b≠x:=λb n z=>by subst z;rw[n]at c;exact c
 have g:∀b,H b=none->b≠e:=λb n z=>by
  subst z;rcases i with r|r
  ·exact f b n r
  ·rw[n]at r;cases r
 have hm:∀b u,H b=some u->¬Mut (some u)->b≠x:=λb u q nm z=>by subst z;rw[q]at c;exact nm c
 refine⟨λb u q n _ _=>k b u (g b n) q,λb u q n _ _=>⟨u.slots,k b u (g b n) q⟩,λb u q n _=>by rw[aE (f b n)];exact n,λb u q _=>?_,λb j q=>by rw[aE (hm b _ q λz=>z)];exact q,λb u j q=>by rw[aE (hm b _ q λz=>z)];exact q,λb ps q=>⟨#[],by rw[aE (hm b _ q λz=>z),q];simp⟩⟩;by_cases a:b=e
 ·subst a;exact d
 ·exact⟨u,k b u a q⟩
def zV (h:Heap)(H:Hp):List Addr:=(cg h.objs.size).filter λa=>(H a).isSome
def jT (h:Heap)(H:Hp):Heap:=W.hideAll h (zV h H)
theorem KQ (h:Heap)(H:Hp):(jT h H).objs.size=h.objs.size:=W.hideAll_size _ _
theorem KR (e:h.get? b=some o)(n:H b=none):(jT h H).get? b=some o:=W.hideAll_get _ e λhm=>by have q:=(d6.mp hm).2;rw[n]at q;simp at q
theorem KS (e:(jT h H).get? b=some o):h.get? b=some o/\H b=none:=by
 have a:=W.of_hideAll (zV h H) e;refine⟨a,?_⟩;cases q:H b with
 |none=>rfl
 |some x=>have z:(jT h H).get? b=none:=W.hideAll_none (zV h H) (d6.mpr ⟨gj.mpr (bg a),by simp[q]⟩);rw[z]at e;cases e
def uF (g h:Heap)(L:Addr):List (Addr×Obj):=(cg h.objs.size).filterMap λa=>if a=L\/(g.get? a).isSome=true then none else(h.get? a).map λo=>(a,o)
theorem EC (c:a≠L)(d:g.get? a=none)(b:h.get? a=some o):(a,o)∈uF g h L:=ig.mpr ⟨a,gj.mpr (bg b),by simp[c,d,b]⟩
theorem KU (a:p∈uF g h L):p.1≠L/\g.get? p.1=none/\h.get? p.1=some p.2:=by
 obtain⟨b,_,e⟩:=ig.mp a;split at e
 ·cases e
 ·rename_i hn;cases q:h.get? b with
  |none=>rw[q]at e;simp at e
  |some u=>
   rw[q]at e;simp at e;subst e;refine⟨λz=>hn (.inl z),?_,q⟩;cases r:g.get? b with
   |none=>rfl
   |some v=>exact(hn (.inr (by simp[r]))).elim
def rest (g h:Heap)(L d:Addr):List (Addr×Obj):=(uF g h L).filter λp=>decide (p.1≠d)
theorem KW:News g L h (uF g h L):=λp d=>let⟨a,b,c⟩:=KU d;⟨c,a,b⟩
structure Mod (K:W.Frag)(mg:Str->Option Value)(base:Heap):Prop where
 pV:K.In base
 glob:base.Ns bo mg
 blt:∃mb,base.Ns qk mb/\∀x:Str,x≠"__name__"->mb x=c7 x
 nolimit:base.NoLimit
structure Cx where
 prog:cj
 w:World
 K:W.Frag
 mg:Str->Option Value
 base:Heap
 A:fk
 N:List Str
 s₀:az
 gR:Hp
 env:Env
 outer:List Env
 stack:List Env
 ex:List Addr
 fn:Str->Bool
 calm:Bool
 pn:List (Addr×Obj)
 xe:Value->az->Prop
 fx:Option (Str×Value):=none
def frs (l:List Env):List Addr:=l.filterMap (·.frame)
abbrev Cx.fs (X:Cx):List Addr:=frs X.outer
def Vis (sc:Scope)(x:Str):Prop:=sc.names.lookup x=some .local\/sc.names.lookup x=some .cell\/sc.names.lookup x=some .free
def Loc (sc:Scope)(x:Str):Prop:=sc.names.lookup x=some .local\/sc.names.lookup x=some .cell
def Look (env:Env)(h:Heap)(m:Str->Option Value)(x:Str)(u:Value):Prop:=(env.kindOf x=some .local/\m x=some u)\/((env.kindOf x=some .cell\/env.kindOf x=some .free)/\∃c,env.cells.lookup x=some c/\h.IsCell c (some u))
structure Cx.Ok (X:Cx):Prop where
 mod:Mod X.K X.mg X.base
 kind:X.env.scope.kind=.function
 glob:X.env.globals=bo
 blt:X.env.builtins=qk
 above:X.s₀.heap.objs.size<=X.env.locals
 inj:∀x y c,X.env.cells.lookup x=some c->X.env.cells.lookup y=some c->x=y
 has:∀x,(X.env.kindOf x=some .cell\/X.env.kindOf x=some .free)->∃c,X.env.cells.lookup x=some c
 oE:∀x c,X.fn x=true->X.env.cells.lookup x=some c->X.s₀.heap.objs.size<=c
 hd:X.calm=true->X.A.handled=none
 frames:X.A.frames=some X.stack
 pW:X.stack=X.outer\/(X.stack=X.env::X.outer/\X.env.frame=some X.env.locals)
 iJ:∀b∈X.ex,b≠X.env.locals/\∀x c,X.env.cells.lookup x=some c->c≠b
 bs:∀b o,X.base.get? b=some o->X.s₀.heap.get? b=some o/\X.gR b=none
 iK:X.base.objs.size<=X.s₀.heap.objs.size
 fV:∀b o,X.base.get? b=some o->b∉X.ex
 fW:∀b∈X.ex,b∉X.fs
 bZ:X.s₀.heap.FunFrames X.base X.outer
 lQ:∀b∈X.fs,X.gR b=none
 tQ:∀x u,X.fx=some (x,u)->x∉X.N/\X.env.scope.names.lookup x=some .local
structure Inv (X:Cx)(pins:List (Addr×Obj))(σ:List (Option V))(H:Hp)(s:az):Prop where
 ok:X.Ok
 os:s.os=X.s₀.os
 bare:ku s.gens
 base:Un X.fs X.ex X.gR H X.s₀.heap s.heap
 loc:∃m,s.heap.Ns X.env.locals m/\∀(i:Nat) (x:Str) (v:V),X.N[i]?=some x->σ[i]?=some (some v)->Vis X.env.scope x->∃u,RelV v u/\Look X.env s.heap m x u
 cell:∀x c,X.env.cells.lookup x=some c->∃v,s.heap.IsCell c v
 free:H X.env.locals=none
 aW:∀x c,X.env.cells.lookup x=some c->H c=none
 pin:∀p∈X.pn++pins,s.heap.get? p.1=some p.2/\H p.1=none/\p.1≠X.env.locals/\p.1∉X.fs/\∀v,p.2.data≠.cell v
 hok:HOk X.prog X.w H s.heap
 len:σ.length=X.N.length
 fx:∀x u,X.fx=some (x,u)->∃m,s.heap.Ns X.env.locals m/\m x=some u
section
variable {X:Cx}
theorem Cx.Ok.uG (ok:X.Ok)(e:X.base.get? b=some o):b∉X.fs:=λa=>by have:=(ok.bZ.mem a).1;rw[e]at this;cases this
theorem Inv.bs (I:Inv X pins σ H s):∀b o,X.base.get? b=some o->s.heap.get? b=some o/\H b=none:=λb o e=>⟨I.base.keep b o (I.ok.bs b o e).1 (I.ok.bs b o e).2 (I.ok.uG e) (I.ok.fV b o e),I.base.free b o (I.ok.bs b o e).1 (I.ok.bs b o e).2 (I.ok.fV b o e)⟩
theorem Inv.bk (I:Inv X pins σ H s):∀b o,X.base.get? b=some o->s.heap.get? b=some o:=λb o e=>(I.bs b o e).1
theorem Inv.mod (I:Inv X pins σ H s):Mod X.K X.mg X.base:=I.ok.mod
theorem Inv.cH (I:Inv X pins σ H s):X.K.In s.heap:=I.ok.mod.pV.keeps I.bk
theorem Inv.fr (I:Inv X pins σ H s):∃m,Fr X.base X.env.locals s.heap m:=
 let⟨m,hn,_⟩:=I.loc
 ⟨m,hn,I.bk,bq I.ok.iK I.ok.above⟩
theorem Inv.lt (I:Inv X pins σ H s):X.env.locals<s.heap.objs.size:=let⟨_,hn,_⟩:=I.loc;hn.lt
theorem Inv.sz (I:Inv X pins σ H s):X.s₀.heap.objs.size<=s.heap.objs.size:=bq I.ok.above (gv I.lt)
theorem Inv.uH (I:Inv X pins σ H s)(h:s.heap.objs.size<=a):a∉X.fs:=λb=>by obtain⟨_,o,c,_⟩:=I.ok.bZ.mem b;exact absurd (b8 (bg c) (bq I.sz h)) (cu _)
theorem Inv.kW (I:Inv X pins σ H s):∀x c,X.env.cells.lookup x=some c->c≠X.env.locals:=λx c e z=>by obtain⟨v,o,d,hd⟩:=I.cell x c e;obtain⟨m,⟨f,es,ep,a,b,_⟩,_⟩:=I.loc;rw[z,a]at d;cases d;rw[b]at hd;cases hd
theorem Inv.bZ (I:Inv X pins σ H s):s.heap.FunFrames X.base X.outer:=by
 have all:∀l,(∀b∈frs l,b∈X.fs)->X.s₀.heap.FunFrames X.base l->s.heap.FunFrames X.base l:=by
  intro l
  induction l with
  |nil=>intro _ _;trivial
  |cons env r d=>
   rintro hs ⟨f,⟨L,o,hf,hn,g,hd⟩,hr⟩
   have a:=hs L (by unfold frs;rw[dm,hf];exact bj);obtain⟨sl,e⟩:=I.base.slot L o g (I.ok.lQ L a) a λz=>I.ok.fW L z a;exact⟨f,⟨L,_,hf,hn,e,hd⟩,d (λb c=>hs b (by unfold frs;rw[dm,hf];exact ay _ c)) hr⟩
 exact all X.outer (λ_ c=>c) I.ok.bZ
theorem Inv.stack (I:Inv X pins σ H s):s.heap.FunFrames X.base X.stack:=by
 rcases I.ok.pW with e|⟨e,hf⟩
 ·rw[e];exact I.bZ
 ·rw[e];obtain⟨m,hn,_⟩:=I.loc;refine .cons (by rw[I.ok.kind];decide) hf hn ?_ I.bZ;exact gw (bq I.ok.iK I.ok.above)
theorem Inv.fX (I:Inv X pins σ H s):∀b∈frs X.stack,b∈X.env.locals::X.fs:=λb a=>by
 rcases I.ok.pW with e|⟨e,hf⟩
 ·rw[e]at a;simp_all
 ·rw[e]at a;unfold frs at a;rw[dm,hf]at a;exact a
theorem Inv.fY (I:Inv X pins σ H s):∀b∈frs X.stack,H b=none:=λb a=>by
 rcases ax.mp (I.fX b a)with e|a
 ·rw[e];exact I.free
 ·obtain⟨_,o,c,_⟩:=I.ok.bZ.mem a;exact I.base.free b o c (I.ok.lQ b a) λz=>I.ok.fW b z a
theorem Inv.step {ch:List Addr}(I:Inv X pins σ H s)
  (f:∀b∈ch,(b∈X.ex\/X.s₀.heap.objs.size<=b)/\b≠X.env.locals/\(∀x c,X.env.cells.lookup x=some c->c≠b)/\∀p∈X.pn++pins,p.1≠b)
  (keep:∀b o,b≠X.env.locals->b∉X.fs->b∉ch->s.heap.get? b=some o->H b=none->h'.get? b=some o)
  (slot:∀b o,b≠X.env.locals->b∈X.fs->b∉ch->s.heap.get? b=some o->H b=none->∃sl,h'.get? b=some {o with slots:=sl}) (free:∀b o,b∉ch->s.heap.get? b=some o->H b=none->H' b=none)
  (there:∀b o,b∉ch->s.heap.get? b=some o->∃C,h'.get? b=some C)
  (cN:∀b y,H b=some (.tup y)->H' b=some (.tup y)) (cJ:∀b o u,H b=some (.eZ o u)->H' b=some (.eZ o u)) (cO:∀b ps,H b=some (.lP ps)->∃D,H' b=some (.lP (ps++D)))
  (ns:∀m,s.heap.Ns X.env.locals m->h'.Ns X.env.locals m) (hok:HOk X.prog X.w H' h') (L:ku g'):
  Inv X pins σ H' {s with heap:=h',gens:=g',drawn:=d',toks:=t'}:=by
 have E:∀b o,X.s₀.heap.get? b=some o->b≠X.env.locals:=λb o e=>cb (b8 (bg e) I.ok.above)
 have j:∀b o,X.s₀.heap.get? b=some o->b∉X.ex->b∉ch:=λb o e a A=>by
  rcases(f b A).1 with z|z
  ·exact a z
  ·exact absurd (b8 (bg e) z) (cu _)
 have g:∀x c,X.env.cells.lookup x=some c->∀v,s.heap.IsCell c v->h'.IsCell c v:=λx c e v ⟨o,B,hd⟩=>by
  have h:=λz=>(f c z).2.2.1 x c e rfl;by_cases J:c∈X.fs
  ·obtain⟨sl,q⟩:=slot c o (I.kW x c e) J h B (I.aW x c e);exact⟨_,q,hd⟩
  ·exact⟨o,keep c o (I.kW x c e) J h B (I.aW x c e),hd⟩
 refine⟨I.ok,I.os,L,⟨λb o e n A a=>?_,λb o e n A a=>?_,λb o e n a=>?_,λb o e a=>?_,λb y e=>cN b y (I.base.cN b y e),λb o y e=>cJ b o y (I.base.cJ b o y e),λb ps e=>?_⟩,?_,λx c e=>?_,?_,λx c e=>?_,λp K=>?_,hok,I.len,λx u e=>let⟨m,hn,q⟩:=I.fx x u e;⟨m,ns m hn,q⟩⟩
 ·exact keep b o (E b o e) A (j b o e a) (I.base.keep b o e n A a) (I.base.free b o e n a)
 ·obtain⟨sl,t⟩:=I.base.slot b o e n A a;obtain⟨G,F⟩:=slot b _ (E b o e) A (j b o e a) t (I.base.free b o e n a);exact⟨G,F⟩
 ·obtain⟨C,t⟩:=I.base.there b o e a;exact free b C (j b o e a) t (I.base.free b o e n a)
 ·obtain⟨C,t⟩:=I.base.there b o e a;exact there b C (j b o e a) t
 ·obtain⟨m1,t⟩:=I.base.cO b ps e;obtain⟨M,F⟩:=cO b _ t;exact⟨m1++M,by rw[F,o8]⟩
 ·obtain⟨m,hn,N⟩:=I.loc;refine⟨m,ns m hn,λi x v t F O=>?_⟩;obtain⟨u,r,l⟩:=N i x v t F O;refine⟨u,r,?_⟩;rcases l with l|⟨k,c,e,z⟩
  ·exact .inl l
  ·exact .inr ⟨k,c,e,g x c e _ z⟩
 ·obtain⟨v,z⟩:=I.cell x c e;exact⟨v,g x c e v z⟩
 ·obtain⟨m,⟨o,_,_,B,_⟩,_⟩:=I.loc;exact free _ o (λz=>(f _ z).2.1 rfl) B I.free
 ·obtain⟨v,o,B,hd⟩:=I.cell x c e;exact free c o (λz=>(f c z).2.2.1 x c e rfl) B (I.aW x c e)
 ·obtain⟨e,n,ne,nf,d⟩:=I.pin p K;have h:=λz=>(f p.1 z).2.2.2 p K rfl;exact⟨keep p.1 p.2 ne nf h e n,free p.1 p.2 h e n,ne,nf,d⟩
theorem Inv.un (I:Inv X pins σ H s)(u:Un X.fs [] H H' s.heap h')(hok:HOk X.prog X.w H' h'):Inv X pins σ H' {s with heap:=h',toks:=t'}:=by obtain⟨m,⟨o,es,ep,g,r⟩,_⟩:=id I.loc;obtain⟨sl,h⟩:=u.any g I.free (by simp);exact I.step (ch:=[]) (λ_ z=>nomatch z) (λb o _ c _ e n=>u.keep b o e n c (by simp)) (λb o _ c _ e n=>u.slot b o e n c (by simp)) (λb o _ e n=>u.free b o e n (by simp)) (λb o _ e=>u.there b o e (by simp)) u.cN u.cJ u.cO (λj ⟨k,d,f,a,i⟩=>by rw[g]at a;cases a;exact⟨_,d,f,h,i⟩) hok I.bare
theorem Inv.call (I:Inv X pins σ H s)(u:Un (frs X.stack) ch H H' s.heap h')(hok:HOk X.prog X.w H' h')(k:ku l)
  (d:∀b∈ch,(b∈X.ex\/X.s₀.heap.objs.size<=b)/\b≠X.env.locals/\(∀x c,X.env.cells.lookup x=some c->c≠b)/\∀p∈X.pn++pins,p.1≠b):
  Inv X pins σ H' {s with heap:=h',gens:=l,drawn:=d',toks:=t'}:=by
 obtain⟨m,⟨o,es,ep,j,r⟩,_⟩:=id I.loc;obtain⟨sl,g⟩:=u.any j I.free λz=>(d _ z).2.1 rfl;exact I.step d (λb o g q a e n=>u.keep b o e n (λz=>(ax.mp (I.fX b z)).elim g q) a) (λb o _ _ a e n=>u.any e n a) (λb o a e n=>u.free b o e n a) (λb o a e=>u.there b o e a) u.cN u.cJ u.cO (λv ⟨y,h,i,f,t⟩=>by rw[j]at f;cases f;exact⟨_,h,i,g,t⟩) hok k
theorem Inv.turned (I:Inv X pins σ H s)(k:∀b o,b≠it->s.heap.get? b=some o->h'.get? b=some o)(hn:H it=none)(f:it≠X.env.locals)
  (g:it∈X.ex\/X.s₀.heap.objs.size<=it) (h:∀x c,X.env.cells.lookup x=some c->c≠it) (i:∀p∈X.pn++pins,p.1≠it):Inv X pins σ H {s with heap:=h',toks:=t'}:=by
 have d:∀b u,H b=some u->b≠it:=λb u e z=>by rw[z,hn]at e;cases e
 refine I.step (ch:=[it]) (λb j=>?_) (λb o _ _ a e _=>k b o (λz=>a (by simp[z])) e) (λb o _ _ a e _=>⟨o.slots,k b o (λz=>a (by simp[z])) e⟩) (λ_ _ _ _ n=>n) (λb o a e=>⟨o,k b o (λz=>a (by simp[z])) e⟩) (λ_ _ e=>e) (λ_ _ _ e=>e) (λb ps e=>⟨#[],by rw[e];simp⟩) (λm hm=>?_) (λb u e=>?_) I.bare
 ·have e:b=it:=by simpa using j
  subst e;exact⟨g,f,h,i⟩
 ·obtain⟨o,es,ep,l,r⟩:=hm;exact⟨o,es,ep,k _ o (Ne.symm f) l,r⟩
 ·refine(I.hok b u e).stay (λc v a q=>k c v ?_ q) (λ_ q=>q) λ_ _ q=>q;rcases a with z|z
  ·rw[z];exact d b u e
  ·exact d c _ z
theorem Inv.tok (I:Inv X pins σ H s)(t:Nat):Inv X pins σ H {s with toks:=t}:=I.un (h':=s.heap) (t':=t) Un.refl I.hok
theorem Inv.kept (I:Inv X pins σ H s)(k:∀b u,s.heap.get? b=some u->h'.get? b=some u):Inv X pins σ H {s with heap:=h',toks:=t'}:=I.un (Un.kept k) (I.hok.kept k)
theorem Inv.laid (I:Inv X pins σ H s)(k:∀b u,s.heap.get? b=some u->h'.get? b=some u)(c:s.heap.objs.size<=a)(new:z14 X.prog X.w (upd H a o) h' a o): Inv X pins σ (upd H a o) {s with heap:=h',toks:=t'}:=I.un (Un.laid k c (I.hok.fresh c)) (I.hok.laid k c new)
theorem Inv.write (I:Inv X pins σ H s)(c:Mut (H x))(d:e=x\/H e=some (.own x))(k:∀b u,b≠e->s.heap.get? b=some u->h'.get? b=some u)(a:∃u,h'.get? e=some u) (new:z14 X.prog X.w (upd H x o) h' x o):Inv X pins σ (upd H x o) {s with heap:=h',toks:=t'}:=I.un (Un.write c d k a) (I.hok.write c d k a new)
theorem Inv.weak (I:Inv X pins σ H s)(b:a.length=σ.length)(w:∀(i:Nat) v,a[i]?=some (some v)->σ[i]?=some (some v)):Inv X pins a H s:=⟨I.ok,I.os,I.bare,I.base,let⟨m,hn,zW⟩:=I.loc;⟨m,hn,λi x v c d e=>zW i x v c (w i v d) e⟩,I.cell,I.free,I.aW,I.pin,I.hok,b.trans I.len,I.fx⟩
theorem Inv.fZ (I:Inv X pins σ H s)(h:∀p∈pX,s.heap.get? p.1=some p.2/\H p.1=none/\p.1≠X.env.locals/\p.1∉X.fs/\∀v,p.2.data≠.cell v):Inv X pX σ H s:=⟨I.ok,I.os,I.bare,I.base,I.loc,I.cell,I.free,I.aW,λp a=>(cz.mp a).elim (λz=>I.pin p (dk _ z)) (h p),I.hok,I.len,I.fx⟩
theorem KY {h:Heap}(x:h.Ns a m)(y:h.Ns a g)(n:Str):m n=g n:=by obtain⟨o,es,ep,e,d,_,f⟩:=x;obtain⟨l,i,j,b,c,_,k⟩:=y;rw[e]at b;cases b;rw[d]at c;cases c;rw[<-f n,k n]
theorem xZ {N:List Str}(hN:N.Nodup){j:Nat}(a:N[i]?=some x)(b:N[j]?=some x):i=j:=by obtain⟨e,c⟩:=ba.mp a;obtain⟨f,d⟩:=ba.mp b;exact(List.getElem_inj hN).mp (c.trans d.symm)
theorem z46 (I:Inv X pins σ H s)(hN:X.N.Nodup)(O:X.N[i]?=some x)(t:Loc X.env.scope x)(r:RelV v u)
  (h:∀Y,Inv X pins (σ.set i (some v)) H Y->(∃a,gb a s.heap Y.heap/\(a=X.env.locals\/X.env.cells.lookup x=some a))->Q () Y) (hf:X.fn x=true\/X.env.scope.names.lookup x=some .local:=by first|exact .inl rfl|exact .inr rfl|assumption):wpAny M A (storeName X.env x u) Q E s:=by
 obtain⟨m,hn,hl⟩:=id I.loc;have D:i<σ.length:=I.len▸(ba.mp O).1;have kW:=I.kW
 have f:∀{a:Addr} {h':Heap},(∃o,s.heap.get? a=some o/\H a=none)->gb a s.heap h'->HOk X.prog X.w H h':=λ{a h'} ha hs b ob e=>by
  obtain⟨_,_,B⟩:=ha;refine(I.hok b ob e).stay (λc V l q=>(hs.2 c ?_).trans q) (λ_ q=>q) λ_ _ q=>q
  rintro rfl
  rcases l with rfl|l
  ·rw[B]at e;cases e
  ·rw[B]at l;cases l
 rcases t with F|F
 ·refine wpAny_storeName_local F hn (λh' P hs=>?_) (by rw[I.ok.kind];rfl);obtain⟨oL,_,_,KZ,_⟩:=id hn;refine h _ ⟨I.ok,I.os,I.bare,⟨λb o e n G t=>?_,λb o e n G t=>?_,I.base.free,λb o e t=>?_,I.base.cN,I.base.cJ,I.base.cO⟩,⟨_,P,λj y v' g C e3=>?_⟩,λy c e=>?_,I.free,I.aW,λp hp=>?_,f ⟨oL,KZ,I.free⟩ hs,by simpa using I.len,λy u e=>by obtain⟨m',J,q⟩:=I.fx y u e;refine⟨_,P,?_⟩;have hy:y≠x:=λz=>(I.ok.tQ y u e).1 (z▸aw O);have:=KY hn J y;simp[hy,this,q]⟩ ⟨_,hs,.inl rfl⟩
  ·exact(hs.2 b (cb (b8 (bg e) I.ok.above))).trans (I.base.keep b o e n G t)
  ·obtain⟨sl,g⟩:=I.base.slot b o e n G t;exact⟨sl,(hs.2 b (cb (b8 (bg e) I.ok.above))).trans g⟩
  ·obtain⟨o',g⟩:=I.base.there b o e t;exact⟨o',(hs.2 b (cb (b8 (bg e) I.ok.above))).trans g⟩
  ·by_cases K:j=i
   ·subst K;rw[O]at g;cases g;rw[cv D]at C;cases C;exact⟨u,r,.inl ⟨F,by simp⟩⟩
   ·rw[b9 (Ne.symm K)]at C;obtain⟨u',r',q⟩:=hl j y v' g C e3;refine⟨u',r',?_⟩;rcases q with⟨k,e⟩|⟨k,c,e,z⟩
    ·refine .inl ⟨k,?_⟩;have:y≠x:=λe=>K (xZ hN g (e▸O));simp[this,e]
    ·exact .inr ⟨k,c,e,z.sameBut hs (kW y c e)⟩
  ·obtain⟨V,z⟩:=I.cell y c e;exact⟨V,z.sameBut hs (kW y c e)⟩
  ·obtain⟨e,n,ne,nf,d⟩:=I.pin p hp;exact⟨(hs.2 p.1 ne).trans e,n,ne,nf,d⟩
 ·have L:X.fn x=true:=by
   rcases hf with z|z
   ·exact z
   ·rw[z]at F;cases F
  obtain⟨c,l⟩:=I.ok.has x (.inl F);obtain⟨V,z⟩:=I.cell x c l;refine wpAny_storeName_cell I.ok.kind F l z (λh' R hs=>?_);obtain⟨oc,S,T⟩:=id z;refine h {s with heap:=h'} ⟨I.ok,I.os,I.bare,⟨λb o e n G t=>?_,λb o e n G t=>?_,I.base.free,λb o e t=>?_,I.base.cN,I.base.cJ,I.base.cO⟩,⟨m,hn.sameBut hs (Ne.symm (kW x c l)),λj y v' g C e3=>?_⟩,λy W e=>?_,I.free,I.aW,λp hp=>?_,f ⟨oc,S,I.aW x c l⟩ hs,by simpa using I.len,λy u e=>let⟨m',J,q⟩:=I.fx y u e;⟨m',J.sameBut hs (Ne.symm (kW x c l)),q⟩⟩ ⟨c,hs,.inr l⟩
  ·exact(hs.2 b (cb (b8 (bg e) (I.ok.oE x c L l)))).trans (I.base.keep b o e n G t)
  ·obtain⟨sl,g⟩:=I.base.slot b o e n G t;exact⟨sl,(hs.2 b (cb (b8 (bg e) (I.ok.oE x c L l)))).trans g⟩
  ·obtain⟨o',g⟩:=I.base.there b o e t;exact⟨o',(hs.2 b (cb (b8 (bg e) (I.ok.oE x c L l)))).trans g⟩
  ·by_cases K:j=i
   ·subst K;rw[O]at g;cases g;rw[cv D]at C;cases C;exact⟨u,r,.inr ⟨.inl F,c,l,R⟩⟩
   ·rw[b9 (Ne.symm K)]at C;obtain⟨u',r',q⟩:=hl j y v' g C e3;refine⟨u',r',?_⟩;rcases q with q|⟨k,W,e,z'⟩
    ·exact .inl q
    ·refine .inr ⟨k,W,e,z'.sameBut hs ?_⟩
     rintro rfl
     exact K (xZ hN g (I.ok.inj _ _ _ e l▸O))
  ·by_cases U:W=c
   ·subst U;exact⟨_,R⟩
   ·obtain⟨w2,z2⟩:=I.cell y W e;exact⟨w2,z2.sameBut hs U⟩
  ·obtain⟨e,n,ne,nf,d⟩:=I.pin p hp;refine⟨(hs.2 p.1 ?_).trans e,n,ne,nf,d⟩;intro q;rw[q,S]at e;exact d V (qv e▸T)
theorem z6r (I:Inv X pins σ H s)(hN:X.N.Nodup)(b:X.N[i]?=some x)(c:Loc X.env.scope x)(r:RelV v u)
  (h:∀a,Inv X pins (σ.set i (some v)) H a->Q () a) (hf:X.fn x=true\/X.env.scope.names.lookup x=some .local:=by first|exact .inl rfl|exact .inr rfl|assumption):wpAny M A (storeName X.env x u) Q E s:=
 z46 I hN b c r (λa d _=>h a d) hf
theorem Inv.call' (I:Inv X pins σ H s)(e:a.os=s.os)(u:Un (frs X.stack) f H H' s.heap a.heap)(hok:HOk X.prog X.w H' a.heap)(g:ku a.gens)
  (d:∀b∈f,(b∈X.ex\/X.s₀.heap.objs.size<=b)/\b≠X.env.locals/\(∀x c,X.env.cells.lookup x=some c->c≠b)/\∀p∈X.pn++pins,p.1≠b):Inv X pins σ H' a:=by
 obtain⟨h',h,i,j,k⟩:=a;subst e;exact I.call u hok g d
end
abbrev XK:=Value->Option Addr->Hp->Prop
abbrev St:=List (Option V)
abbrev VK:=V->Hp->Prop
abbrev TE:=St->Hp->VK->Prop
abbrev TT:=St->Hp->(Bool->Hp->Prop)->Prop
abbrev TA:=St->Hp->(List V->Hp->Prop)->Prop
structure Ends where
 nx:St->Hp->Prop
 rt:VK
 bk:St->Hp->Prop:=λ_ _=>False
 ct:St->Hp->Prop:=λ_ _=>False
abbrev TS:=Ends->St->Hp->Prop
def EP (X:Cx)(pins:List (Addr×Obj))(σ:St)(Q:VK)(u:Value)(s':az):Prop:=∃v H',Inv X pins σ H' s'/\RelV v u/\Q v H'
def TP (X:Cx)(pins:List (Addr×Obj))(σ:St)(Q:Bool->Hp->Prop)(b:Bool)(s':az):Prop:=∃H',Inv X pins σ H' s'/\Q b H'
def AP (X:Cx)(pins:List (Addr×Obj))(σ:St)(Q:List V->Hp->Prop)(us:List Value)(s':az):Prop:=∃vs H',Inv X pins σ H' s'/\Vals vs us/\Q vs H'
def SP (X:Cx)(pins:List (Addr×Obj))(D:Ends)(f:Flow)(s':az):Prop:=
 match f with
 |.next=>∃bR H',Inv X pins bR H' s'/\D.nx bR H'
 |.brk=>∃bR H',Inv X pins bR H' s'/\D.bk bR H'
 |.cont=>∃bR H',Inv X pins bR H' s'/\D.ct bR H'
 |.ret u=>∃v bR H',Inv X pins bR H' s'/\RelV v u/\D.rt v H'
def PE (X:Cx)(e:Expr)(t:TE):Prop:=∀(pins:List (Addr×Obj)) (s:az) (σ:St) (H:Hp) (Q:VK),Inv X pins σ H s->t σ H Q->wpAny (model X.prog X.w) X.A (eval e X.env) (EP X pins σ Q) X.xe s
def PT (X:Cx)(e:Expr)(t:TT):Prop:=∀(pins:List (Addr×Obj)) (s:az) (σ:St) (H:Hp) (Q:Bool->Hp->Prop),Inv X pins σ H s->t σ H Q->wpAny (model X.prog X.w) X.A (qc e X.env (eval e X.env)) (TP X pins σ Q) X.xe s
def PW (X:Cx)(e:Expr)(t:TT):Prop:=∀(whole:Sem Value) (pins:List (Addr×Obj)) (s:az) (σ:St) (H:Hp) (Q:Bool->Hp->Prop),Inv X pins σ H s->t σ H Q->wpAny (model X.prog X.w) X.A (qc e X.env whole) (TP X pins σ Q) X.xe s
theorem PW.pt (h:PW X e t):PT X e t:=h _
def PA (X:Cx)(es:List Expr)(t:TA):Prop:=∀(pos:Pos) (pins:List (Addr×Obj)) (s:az) (σ:St) (H:Hp) (Q:List V->Hp->Prop),Inv X pins σ H s->t σ H Q->wpAny (model X.prog X.w) X.A (spliced (iz pos (cx es X.env))) (AP X pins σ Q) X.xe s
def PS (X:Cx)(st:Stmt)(t:TS):Prop:=∀(pins:List (Addr×Obj)) (s:az) (σ:St) (H:Hp) (D:Ends),Inv X pins σ H s->t D σ H->wpAny (model X.prog X.w) X.A (exec st X.env) (SP X pins D) X.xe s
def PSs (X:Cx)(st:List Stmt)(t:TS):Prop:=∀(pins:List (Addr×Obj)) (s:az) (σ:St) (H:Hp) (D:Ends),Inv X pins σ H s->t D σ H->wpAny (model X.prog X.w) X.A (execs st X.env) (SP X pins D) X.xe s
theorem aI (h:wpAny M A t Q E s)(b:∀a s,Q a s->c a s):wpAny M A t c E s:=fm h b λ_ _ x=>x
section
variable {X:Cx}
theorem bin (l:PE X a m)(n:PE X b o){R:V->V->Hp->Prop}(I:Inv X c e H s)(h:m e H fun x H1=>o e H1 fun y d=>R x y d)
  {k:Type} {Q:k->az->Prop} {f:Value->Value->Sem k}
  (hf:∀v u j x y d,Inv X c e d j->RelV x v->RelV y u->R x y d->wpAny (model X.prog X.w) X.A (f v u) Q X.xe j):
  wpAny (model X.prog X.w) X.A (eval a X.env) (λv g=>wpAny (model X.prog X.w) X.A (eval b X.env) (λu i=>wpAny (model X.prog X.w) X.A (f v u) Q X.xe i) X.xe g) X.xe s:=by
 exact aI (l c s e H _ I h) λv p ⟨x,H1,q,r,t⟩=>aI (n c p e H1 _ q t) λu j ⟨y,d,z,B,C⟩=>hf v u j x y d z r B C
def rD (i:Nat):TE:=λσ H Q=>∃v,σ[i]?=some (some v)/\Q v H
def tC (v:V):TE:=λ_ H Q=>Q v H
theorem uI (hN:X.N[i]?=some x)(k:Vis X.env.scope x)(hd:Vx x:=by decide)(g:(x==("__classdict__":Str))=false:=by decide):PE X (.Name x pos) (rD i):=by
 rintro f s n H Q I ⟨v,e,h⟩
 obtain⟨m,hn,o⟩:=I.loc;obtain⟨u,r,l⟩:=o i x v hN e k;have b:EP X f n Q u s:=⟨v,H,I,r,h⟩;rcases l with⟨d,hm⟩|⟨d,c,j,a⟩
 ·exact pa (nz I.ok.kind d hn hm b) hd
 ·rcases d with d|d
  ·exact pa (wpAny_loadName_cell I.ok.kind d j a b) hd
  ·exact pa (wpAny_loadName_free I.ok.kind d j a b g) hd
theorem K0 {i j pos}:PE X (.Constant (.int i) j pos) (tC (.int i)):=λ_ _ _ H _ I h=>wpAny_Constant_int ⟨.int i,H,I.tok _,⟨_,rfl⟩,h⟩
theorem K1 {b j pos}:PE X (.Constant (.bool b) j pos) (tC (.bl b)):=λ_ _ _ H _ I h=>Constant_bool ⟨.bl b,H,I,rfl,h⟩
theorem K2 {j pos}:PE X (.Constant .none j pos) (tC .aK):=λ_ _ _ H _ I h=>ou ⟨.aK,H,I,rfl,h⟩
theorem ED {x j pos}:PE X (.Constant (.str x) j pos) (tC (.str x)):=λ_ _ _ H _ I h=>Calls.Constant_str ⟨.str x,H,I.tok _,⟨_,rfl⟩,h⟩
def Gl (X:Cx)(x:Str):Prop:=X.env.kindOf x=some .globalImplicit
theorem z4p (I:Inv X a c H s)(b:Gl X x)(hm:X.mg x=some u)(h:Q u s)
  (hd:Vx x:=by decide):wpAny (model X.prog X.w) X.A (eval (.Name x pos) X.env) Q E s:=
 gk I.ok.kind b (jp (I.ok.glob▸I.mod.glob.keeps I.bk) hm h) hd
theorem z2k (I:Inv X a f H s)(b:Gl X x)(hm:X.mg x=none)(c:c7 x=some u)(h:Q u s)
  (hn:x≠"__name__":=by decide) (hd:Vx x:=by decide):wpAny (model X.prog X.w) X.A (eval (.Name x pos) X.env) Q E s:=by
 obtain⟨g,d,e⟩:=I.mod.blt;exact gk I.ok.kind b (Calls.loadGlobal_builtin (I.ok.glob▸I.mod.glob.keeps I.bk) hm (I.ok.blt▸d.keeps I.bk) ((e x hn).trans c) h) hd
theorem K3 (a:Gl X x)(hm:X.mg x=none)(b:c7 x=some u)(r:RelV v u)(hn:x≠"__name__":=by decide)(hd:Vx x:=by decide):PE X (.Name x pos) (tC v):=λ_ _ _ H _ I h=>z2k I a hm b ⟨v,H,I,r,h⟩ hn hd
variable {a b:Expr}{ta tb:TE}{pos:Pos}
def PC (X:Cx)(op:CmpOp)(a b:Expr)(t:TE):Prop:=∀(pins:List (Addr×Obj)) (s:az) (σ:St) (H:Hp) (Q:VK),Inv X pins σ H s->t σ H Q->wpAny (model X.prog X.w) X.A (eval a X.env) (λv zX=>wpAny (model X.prog X.w) X.A (eval b X.env) (λu zY=>wpAny (model X.prog X.w) X.A (cw op v u) (EP X pins σ Q) X.xe zY) X.xe zX) X.xe s
theorem EF (b:Expr)(h:op≠.In)(a:op≠.NotIn):dw op b=false:=by
 have c:(op==CmpOp.In)=false:=by cases op<;>first|rfl|exact absurd rfl h
 have d:(op==CmpOp.NotIn)=false:=by cases op<;>first|rfl|exact absurd rfl a
 cases b<;>simp[dw,c,d]
def rE (ta:TE):TE:=λσ H Q=>ta σ H λx H1=>Q (.bl (decide (x=.aK))) H1
def zZ (ta:TE):TE:=λσ H Q=>ta σ H λx H1=>Q (.bl (!decide (x=.aK))) H1
theorem RelV.gS (r:RelV x v):(v==Value.none)=decide (x=.aK):=by
 cases x with
 |aK=>cases r;rfl
 |bl _=>cases r;rfl
 |int _=>obtain⟨t,rfl⟩:=r;rfl
 |str _=>obtain⟨t,rfl⟩:=r;rfl
 |ref _=>cases r;rfl
 |ty _=>cases r;rfl
theorem z0 {j pos'}(ha:PE X a ta):PC X .Is a (.Constant .none j pos') (rE ta):=by intro pins s σ H Q I h;exact aI (ha pins s σ H _ I h) λv s1 ⟨x,H1,I1,r1,q1⟩=>ou (is_none_gen ⟨.bl _,H1,I1,by rw[r1.gS];rfl,q1⟩)
theorem z1 {j pos'}(ha:PE X a ta):PC X .IsNot a (.Constant .none j pos') (zZ ta):=by intro pins s σ H Q I h;exact aI (ha pins s σ H _ I h) λv s1 ⟨x,H1,I1,r1,q1⟩=>ou (isnot_none_gen ⟨.bl _,H1,I1,by rw[r1.gS];rfl,q1⟩)
def tB (t:TE):TT:=λσ H Q=>t σ H λx H1=>∃c,x=.bl c/\Q c H1
theorem EG (h:PC X d a b t)(e:dw d b=false:=by first|exact EF _ dc dc|rfl):PE X (.Compare a [d] [b] pos) t:=λc s f H Q I g=>wpAny_Compare1 (h c s f H Q I g) e
theorem x4 (h:PC X g a b t)(f:dw g b=false:=by first|exact EF _ dc dc|rfl):PT X (.Compare a [g] [b] pos) (tB t):=by
 intro e s i H Q I j;refine nr (aI (h e s i H _ I j) λv o f=>aI f λu p k=>aI k ?_) f
 rintro c r ⟨x,H1,l,m,n⟩
 obtain⟨d,rfl,q⟩:=n;cases m;exact ey ⟨H1,l,q⟩
variable {tA x5:TT}{rest:List Expr}
def uJ (t u:TT):TT:=λσ H Q=>t σ H λc H1=>if c=true then u σ H1 Q else Q false H1
def EH (t u:TT):TT:=λσ H Q=>t σ H λc H1=>if c=true then Q true H1 else u σ H1 Q
def uK (t:TT):TT:=λσ H Q=>t σ H λc H1=>Q (!c) H1
theorem EI (d:PT X a tA):PW X (.BoolOp .And [a] pos) tA:=by
 intro g b s f H Q I h;refine isTrue_and (aI (d b s f H Q I h) λc i e=>?_);cases c with
 |true=>exact isTrue_and_nil e
 |false=>exact e
theorem EJ (d:PT X a tA):PW X (.BoolOp .Or [a] pos) tA:=by
 intro g b s f H Q I h;refine isTrue_or (aI (d b s f H Q I h) λc i e=>?_);cases c with
 |false=>exact isTrue_or_nil e
 |true=>exact e
theorem z3 (i:PT X a tA)(j:PW X (.BoolOp .And (b::rest) pos) x5):PW X (.BoolOp .And (a::b::rest) pos) (uJ tA x5):=by
 intro k d s e H Q I h;refine isTrue_and (aI (i d s e H _ I h) λc l ⟨H1,f,g⟩=>?_);cases c with
 |true=>exact j k d l e H1 Q f g
 |false=>exact⟨H1,f,g⟩
theorem z4 (i:PT X a tA)(j:PW X (.BoolOp .Or (b::rest) pos) x5):PW X (.BoolOp .Or (a::b::rest) pos) (EH tA x5):=by
 intro k d s e H Q I h;refine isTrue_or (aI (i d s e H _ I h) λc l ⟨H1,f,g⟩=>?_);cases c with
 |true=>exact⟨H1,f,g⟩
 |false=>exact j k d l e H1 Q f g
theorem EK (d:PT X a tA):PT X (.UnaryOp .Not a pos) (uK tA):=by intro b s e H Q I h;exact isTrue_not (d b s e H (λc H1=>Q (!c) H1) I h)
def EL (ta tb:TE):TE:=λσ H Q=>ta σ H λx H1=>∃c,x=.bl c/\if c=true then tb σ H1 Q else Q (.bl false) H1
def z5 (ta tb:TE):TE:=λσ H Q=>ta σ H λx H1=>∃c,x=.bl c/\if c=true then Q (.bl true) H1 else tb σ H1 Q
theorem z6 {c}(h:PE X a t):PE X (.BoolOp c [a] pos) t:=λb s d H Q I e=>BoolOp_one (h b s d H Q I e)
theorem z7 (i:PE X a ta)(j:PE X (.BoolOp .And (b::rest) pos) tb):PE X (.BoolOp .And (a::b::rest) pos) (EL ta tb):=by
 intro d s f H Q I h;refine BoolOp_and (aI (i d s f H _ I h) ?_)
 rintro v k ⟨x,H1,g,l,e⟩
 obtain⟨c,rfl,e⟩:=e;cases l;refine ey ?_;cases c with
 |true=>exact j d k f H1 Q g e
 |false=>exact⟨.bl false,H1,g,rfl,e⟩
theorem K4 (i:PE X a ta)(j:PE X (.BoolOp .Or (b::rest) pos) tb):PE X (.BoolOp .Or (a::b::rest) pos) (z5 ta tb):=by
 intro d s f H Q I h;refine BoolOp_or (aI (i d s f H _ I h) ?_)
 rintro v k ⟨x,H1,g,l,e⟩
 obtain⟨c,rfl,e⟩:=e;cases l;refine ey ?_;cases c with
 |false=>exact j d k f H1 Q g e
 |true=>exact⟨.bl true,H1,g,rfl,e⟩
def K5 (t:TT)(ta tb:TE):TE:=λσ H Q=>t σ H λc H1=>if c=true then ta σ H1 Q else tb σ H1 Q
theorem K6 (k:PT X c tA)(l:PE X a ta)(m:PE X b tb):PE X (.IfExp c a b pos) (K5 tA ta tb):=by
 intro e s f H Q I h;refine wpAny_IfExp (aI (k e s f H _ I h) λd g ⟨H1,i,j⟩=>?_);cases d with
 |true=>exact l e g f H1 Q i j
 |false=>exact m e g f H1 Q i j
end
def SqL (K:W.Frag)(H:Hp)(a:Addr)(xs:List V):Prop:=Rd H a (.lst xs)\/∃(o:Obj) (eI:Array Value) (n:Nat),K.lookup a=some o/\o.cls=.type "list"/\o.dict=none/\o.data=.seq eI n/\eI.size<=au/\Vals xs eI.toList
def cA (K:W.Frag)(H:Hp)(a:Addr)(xs:List V):Prop:=Rd H a (.tup xs)\/∃(o:Obj) (eI:Array Value) (n:Nat),K.lookup a=some o/\o.cls=.type "tuple"/\o.dict=none/\o.data=.seq eI n/\eI.size<=au/\Vals xs eI.toList
def z8:Value->Option V
 |.none=>some .aK
 |.bool b=>some (.bl b)
 |.int i _=>some (.int i)
 |.str x _=>some (.str x)
 |.ref a=>some (.ref a)
 |.type n=>some (.ty n)
 |_=>none
theorem RelV.abs (r:RelV x u):z8 u=some x:=by
 cases x with
 |aK=>cases r;rfl
 |bl _=>cases r;rfl
 |int _=>obtain⟨t,rfl⟩:=r;rfl
 |str _=>obtain⟨t,rfl⟩:=r;rfl
 |ref _=>cases r;rfl
 |ty _=>cases r;rfl
theorem RelV.inj (r:RelV x u)(q:RelV y u):x=y:=qv (r.abs.symm.trans q.abs)
theorem Vals.inj {a b:List V}{c:List Value}(h:Vals a c)(g:Vals b c):a=b:=by
 induction h generalizing b with
 |nil=>cases g;rfl
 |cons r t i=>
  cases g with
  |cons d e=>rw[r.inj d,i e]
theorem SqL.of {K:W.Frag}(h:H a=some (.lst xs)):SqL K H a xs:=.inl (.inl h)
theorem cA.of {K:W.Frag}(h:H a=some (.tup xs)):cA K H a xs:=.inl (.inl h)
theorem Inv.list (I:Inv X pins σ H s)(h:SqL X.K H a xs):∃b,Vals xs b/\PlainL s.heap a b.toArray/\xs.length<=au:=by
 rcases h with h|⟨o,b,n,c,d,hd,hs,f,r⟩
 ·obtain⟨z,b,n,r,e⟩:=h.ok I.hok;exact⟨b,r,⟨_,n,e,rfl,rfl,rfl⟩,z⟩
 ·refine⟨b.toList,r,⟨o,n,I.cH a o c,d,hd,by simpa using hs⟩,?_⟩;have e:=r.length;simp at e;omega
theorem Inv.tuple (I:Inv X pins σ H s)(h:cA X.K H a xs):∃b,Vals xs b/\IsTup s.heap a b.toArray/\xs.length<=au:=by
 rcases h with h|⟨o,b,n,c,d,_,hs,f,r⟩
 ·obtain⟨z,b,r,p⟩:=h.ok I.hok;exact⟨b,r,p.tup,z⟩
 ·refine⟨b.toList,r,⟨o,I.cH a o c,d,n,by simpa using hs⟩,?_⟩;have e:=r.length;simp at e;omega
theorem Inv.rG (I:Inv X pins σ H s)(h:cA X.K H a xs):∃l,Vals xs l/\KP s.heap a l.toArray/\xs.length<=au:=by
 rcases h with h|⟨o,l,n,q,b,hd,hs,c,r⟩
 ·obtain⟨z,l,r,n,q⟩:=h.ok I.hok;exact⟨l,r,⟨_,n,q,rfl,rfl,rfl⟩,z⟩
 ·exact⟨l.toList,r,⟨o,n,I.cH a o q,b,hd,(by simpa using hs)⟩,(by have w:=r.length;simp at w;omega)⟩
theorem Inv.lR (I:Inv X pins σ H s)(h:SqL X.K H a xs)(i:SqL X.K H a ys):xs=ys:=by
 obtain⟨c,r,⟨o,n,e,_,_,d⟩,_⟩:=I.list h;obtain⟨b,j,⟨k,l,f,_,_,g⟩,_⟩:=I.list i;rw[e]at f;cases f;rw[d]at g;injection g with d1 _;have:c=b:=by simpa using congrArg Array.toList d1
 subst this;exact r.inj j
theorem Inv.jU (I:Inv X pins σ H s)(h:cA X.K H a xs)(i:cA X.K H a ys):xs=ys:=by
 obtain⟨c,r,⟨o,e,_,n,d⟩,_⟩:=I.tuple h;obtain⟨b,j,⟨k,f,_,l,g⟩,_⟩:=I.tuple i;rw[e]at f;cases f;rw[d]at g;injection g with d1 _;have:c=b:=by simpa using congrArg Array.toList d1
 subst this;exact r.inj j
abbrev Cx.fG (X:Cx)(E:Value->az->Prop):Cx:={X with xe:=E}
abbrev Cx.uL (X:Cx):Cx:=X.fG λ_ _=>False
theorem Cx.Ok.fG {X:Cx}(ok:X.Ok)(E:Value->az->Prop):(X.fG E).Ok:=⟨ok.mod,ok.kind,ok.glob,ok.blt,ok.above,ok.inj,ok.has,ok.oE,ok.hd,ok.frames,ok.pW,ok.iJ,ok.bs,ok.iK,ok.fV,ok.fW,ok.bZ,ok.lQ,ok.tQ⟩
theorem Cx.Ok.cP {X:Cx}(ok:(X.fG E).Ok):X.Ok:=⟨ok.mod,ok.kind,ok.glob,ok.blt,ok.above,ok.inj,ok.has,ok.oE,ok.hd,ok.frames,ok.pW,ok.iJ,ok.bs,ok.iK,ok.fV,ok.fW,ok.bZ,ok.lQ,ok.tQ⟩
theorem Inv.fG (I:Inv X pins σ H s)(E:Value->az->Prop):Inv (X.fG E) pins σ H s:=⟨I.ok.fG E,I.os,I.bare,I.base,I.loc,I.cell,I.free,I.aW,I.pin,I.hok,I.len,I.fx⟩
theorem Inv.cP (I:Inv (X.fG E) pins σ H s):Inv X pins σ H s:=⟨I.ok.cP,I.os,I.bare,I.base,I.loc,I.cell,I.free,I.aW,I.pin,I.hok,I.len,I.fx⟩
theorem SP.cP (h:SP (X.fG E) pins D f c):SP X pins D f c:=by
 cases f with
 |next=>obtain⟨a,b,I,q⟩:=h;exact⟨a,b,I.cP,q⟩
 |brk=>obtain⟨a,b,I,q⟩:=h;exact⟨a,b,I.cP,q⟩
 |cont=>obtain⟨a,b,I,q⟩:=h;exact⟨a,b,I.cP,q⟩
 |ret u=>obtain⟨v,a,b,I,r,q⟩:=h;exact⟨v,a,b,I.cP,r,q⟩
theorem PSs.uL {st:List Stmt}(h:PSs X.uL st t):PSs X st t:=λpins s σ H D I a=>fm (h pins s σ H D (I.fG _) a) (λ_ _ q=>q.cP) λ_ _ z=>False.elim z
section
variable {X:Cx}{st:Stmt}{rest:List Stmt}{t u:TS}
def EM:TS:=λD σ H=>D.nx σ H
def uM (t u:TS):TS:=λD σ H=>t {D with nx:=u D} σ H
theorem EO:PSs X [] EM:=λ_ _ a H _ I h=>jh ⟨a,H,I,h⟩
theorem ER (c:PS X st t)(d:PSs X rest u):PSs X (st::rest) (uM t u):=by
 intro a s e H D I h;refine wpAny_execs_cons (aI (c a s e H {D with nx:=u D} I h) λf g q=>?_);cases f with
 |next=>obtain⟨b,i,j,q⟩:=q;exact d a g b i D j q
 |ret v=>exact q
 |brk=>exact q
 |cont=>exact q
theorem Inv.quiet (I:Inv X a b H s):interactive X.env=false:=by simp[interactive,I.ok.kind]
def uN (te:TE):TS:=λD σ H=>te σ H λ_ H1=>D.nx σ H1
theorem K7 (c:PE X e te)(hs:i7 e none pos.line X.env=pure false:=by rfl):PS X (.Expr e pos) (uN te):=by intro a s b H D I h;exact wpAny_Expr_any (aI (c a s b H _ I h) λv g ⟨x,H1,d,i,f⟩=>⟨b,H1,d,f⟩) I.quiet hs
def uO (te:TE):TS:=λD σ H=>te σ H D.rt
theorem z9 (c:PE X e te):PS X (.Return (some e) pos) (uO te):=by intro a s b H D I h;exact wpAny_Return_some (aI (c a s b H _ I h) λv i ⟨x,H1,d,f,g⟩=>⟨x,b,H1,d,f,g⟩)
def uP (c:TT)(t u:TS):TS:=λD σ H=>c σ H λb H1=>if b=true then t D σ H1 else u D σ H1
theorem ES (k:PT X c tc)(l:PSs X a t)(m:PSs X b u):PS X (.If c a b pos) (uP tc t u):=by
 intro e s f H D I h;refine wpAny_If (aI (k e s f H _ I h) λd g ⟨H1,i,j⟩=>?_);cases d with
 |true=>exact l e g f H1 D i j
 |false=>exact m e g f H1 D i j
end
abbrev TG:=V->St->Hp->(St->Hp->Prop)->Prop
abbrev rH:=List V->St->Hp->(St->Hp->Prop)->Prop
def PG (X:Cx)(target:Expr)(t:TG):Prop:=∀(pins:List (Addr×Obj)) (s:az) (σ:St) (H:Hp) (v:V) (u:Value) (Q:St->Hp->Prop),Inv X pins σ H s->RelV v u->t v σ H Q->wpAny (model X.prog X.w) X.A (pb target X.env u) (λ_ s'=>∃bR H',Inv X pins bR H' s'/\Q bR H') X.xe s
def PGs (X:Cx)(ts:List Expr)(t:rH):Prop:=∀(pins:List (Addr×Obj)) (s:az) (σ:St) (H:Hp) (vs:List V) (us:List Value) (Q:St->Hp->Prop),Inv X pins σ H s->Vals vs us->t vs σ H Q->wpAny (model X.prog X.w) X.A (assignInOrder ((d8 ts X.env).map (·.2)) us) (λ_ s'=>∃bR H',Inv X pins bR H' s'/\Q bR H') X.xe s
abbrev Ab:=V->V->V->Hp->(Hp->Prop)->Prop
def Ac (X:Cx)(t:Ab):Prop:=∀(pins:List (Addr×Obj)) (s:az) (σ:St) (H:Hp) (o i v:V) (ov iv u:Value) (Q:Hp->Prop),Inv X pins σ H s->RelV o ov->RelV i iv->RelV v u->t o i v H Q->wpAny (model X.prog X.w) X.A (setItem ov iv u) (λ_ s'=>∃H',Inv X pins σ H' s'/\Q H') X.xe s
def x8 (i:Nat):TG:=λv σ H Q=>Q (σ.set i (some v)) H
theorem ET (hN:X.N.Nodup)(b:X.N[i]?=some x)(c:Loc X.env.scope x)(hf:X.fn x=true\/X.env.scope.names.lookup x=some .local:=by first|exact .inl rfl|exact .inr rfl|assumption):PG X (.Name x pos) (x8 i):=by intro a s e H v u Q I r h;exact pf (z6r I hN b c r (λf d=>⟨_,H,d,h⟩) hf)
def Ae:rH:=λvs σ H Q=>vs=[]/\Q σ H
def K8 (t:TG)(u:rH):rH:=λvs σ H Q=>∃v r,vs=v::r/\t v σ H λbR H'=>u r bR H' Q
theorem K9:PGs X [] Ae:=by
 rintro a s b H c d Q I r ⟨rfl,h⟩
 cases r;exact assignInOrder_nil ⟨b,H,I,h⟩
theorem zhv (c:PG X e t)(d:PGs X es u)
  (hs:(d8 (e::es) X.env).map (·.2)=pb e X.env::(d8 es X.env).map (·.2):=by rfl):PGs X (e::es) (K8 t u):=by
 rintro a s f H k l Q I r ⟨v,m,rfl,h⟩
 cases r with
 |cons r rr=>rw[hs];refine assignInOrder_cons (aI (c a s f H _ _ _ I r h) λ_ g ⟨b,H1,i,j⟩=>?_);exact d a g b H1 _ _ Q i rr j
def Af (K:W.Frag)(n:Nat)(t:rH):TG:=λv σ H Q=>∃a xs,v=.ref a/\cA K H a xs/\xs.length=n/\t xs σ H Q
theorem zpi (i:X.calm=true)(h:PGs X es t)
  (hn:(d8 es X.env).length=n:=by rfl) (d:(d8 es X.env).findIdx? (·.1)=none:=by rfl):PG X (.Tuple es k pos) (Af X.K n t):=by
 rintro c s f H v u Q I r ⟨a,j,rfl,l,m,p⟩
 cases r;obtain⟨q,g,w,A⟩:=I.tuple l;refine assign_Tuple_tuple (I.ok.hd i) w (by simp[hn,<-m,g.length]) d λx y=>?_;have z:Inv X c f H {s with heap:=x}:=I.kept λb o e=>y b o (cb (bg e)) e;exact h c _ f H j _ Q z (by simpa using g) p
def oF (te:TE)(g:TG):TS:=λD σ H=>te σ H λx H1=>g x σ H1 D.nx
theorem zqr (d:PE X e te)(f:PG X b g)(hs:ow [b] e pos.line X.env=pure false:=by rfl)(i:ox [b] e X.env=pure none:=by rfl)
  (j:(d8 [b] X.env).map (·.2)=[pb b X.env]:=by rfl):PS X (.Assign [b] e pos) (oF te g):=by
 intro a s c H D I h;refine wpAny_Assign_stores (aI (d a s c H _ I h) ?_) hs i
 rintro v k ⟨x,H1,l,m,n⟩
 rw[j];exact aI (f a k c H1 x v _ l m n) λ_ o q=>q
theorem zjo (hN:X.N.Nodup)(c:X.N[i]?=some x)(d:Loc X.env.scope x)(f:PE X e te)(hs:i7 e (some (.Name x a)) pos.line X.env=pure false:=by rfl)(hf:X.fn x=true\/X.env.scope.names.lookup x=some .local:=by first|exact .inl rfl|exact .inr rfl|assumption):
  PS X (.Assign [.Name x a] e pos) (oF te (x8 i)):=by
 intro b s g H D I h;refine wpAny_Assign_Name (aI (f b s g H _ I h) ?_) hs
 rintro v n ⟨y,H1,j,k,l⟩
 exact z6r j hN c d k (λo m=>⟨_,H1,m,l⟩) hf
def EU (c:TT)(tb:TS):TS:=λD σ H=>∃W:Nat->St->Hp->Prop,(∃m,W m σ H)/\∀m σ H,W m σ H->c σ H λb H1=>if b=true then ∃N:St->Hp->Prop,(∀bR H',N bR H'->∃m',m'<m/\W m' bR H')/\tb {D with nx:=N,ct:=N,bk:=D.nx} σ H1 else D.nx σ H1
theorem K' (q:ez (model X.prog X.w) X.A X.env X.xe)(x:PT X c tc)(y:PSs X g z):PS X (.While c g [] pos) (EU tc z):=by
 rintro a s B H D I ⟨W,⟨C,E⟩,h⟩
 refine wpAny_While (codeAny_whileLoop (λn F=>∃i r,Inv X a i r F/\W n i r) ?_ C ⟨B,H,I,E⟩)
 rintro n G ⟨e,H1,J,K⟩
 refine gr q (aI (x a G e H1 _ J (h n e H1 K)) λb L ⟨t,u,k⟩=>?_);cases b with
 |true=>
  obtain⟨N,hN,k⟩:=k;refine gr q (aI (y a L e t _ u k) λf M l=>?_);cases f with
  |next=>obtain⟨d,j,m,n3⟩:=l;obtain⟨o,hm,p⟩:=hN d j n3;exact⟨o,hm,d,j,m,p⟩
  |cont=>obtain⟨d,j,m,n3⟩:=l;obtain⟨o,hm,p⟩:=hN d j n3;exact⟨o,hm,d,j,m,p⟩
  |brk=>exact l
  |ret v=>exact l
 |false=>exact jh ⟨e,t,u,k⟩
structure It where
 go:Nat->Hp->Prop
 gO:Nat->Hp->V->Hp->Prop
 stop:Nat->Hp->Prop
def FpOk (X:Cx)(pins:List (Addr×Obj))(H:Hp)(b:Addr):Prop:=H b=none/\b≠X.env.locals/\b∉X.fs/\(b∈X.ex\/X.s₀.heap.objs.size<=b)/\(∀x c,X.env.cells.lookup x=some c->c≠b)/\∀p∈X.pn++pins,p.1≠b
theorem Inv.gA (I:Inv X a h H s)(d:s.heap.objs.size<=b)(hn:f b=none):FpOk X a f b:=by
 refine⟨hn,Nat.ne_of_gt (b8 I.lt d),I.uH d,.inr (bq I.sz d),λx c e z=>?_,λp g z=>?_⟩
 ·obtain⟨v,q⟩:=I.cell x c e;exact absurd (b8 q.lt (z▸d)) (cu _)
 ·exact absurd (b8 (bg (I.pin p g).1) (z▸d)) (cu _)
structure Turn (P:cj)(w:World)(K:W.Frag)(tg:Expr)(J:It)(fp:List Addr)(it:Addr)(tn:Nat->Heap->Prop):Prop where
 mem:it∈fp
 obj:∀i h,tn i h->∀b∈fp,∃o,h.get? b=some o/\∀v,o.data≠.cell v
 keep:∀i h h',tn i h->(∀b∈fp,∀o,h.get? b=some o->h'.get? b=some o)->tn i h'
 item:∀(X:Cx),X.prog=P->X.w=w->X.K=K->X.calm=true->∀(i:Nat) (pins:List (Addr×Obj)) (s:az) (σ:St) (H:Hp) (E:Value->az->Prop),Inv X pins σ H s->(∀b∈fp,FpOk X pins H b)->tn i s.heap->J.go i H->wpAny (model P w) X.A (pyNext (.ref it)) (λr s1=>∃u,r=some u/\wpAny (model P w) X.A (jk tg (.ref it) u) (λ_ s2=>∃x H',Inv X pins σ H' s2/\RelV x u/\J.gO i H x H'/\tn (i+1) s2.heap/\∀b∈fp,H' b=none) E s1) E s
 done:∀(X:Cx),X.prog=P->X.w=w->X.K=K->X.calm=true->∀(i:Nat) (pins:List (Addr×Obj)) (s:az) (σ:St) (H:Hp) (E:Value->az->Prop),Inv X pins σ H s->(∀b∈fp,FpOk X pins H b)->tn i s.heap->J.stop i H->wpAny (model P w) X.A (pyNext (.ref it)) (λr s1=>r=none/\Inv X pins σ H s1) E s
 self:∀(A:fk) (i:Nat) (s:az) (Q:Value->az->Prop) (E:Value->az->Prop),tn i s.heap->Q (.ref it) s->wpAny (model P w) A (qd (.ref it)) Q E s
abbrev TI:=St->Hp->(It->Hp->Prop)->Prop
def tR (X:Cx)(pins:List (Addr×Obj))(σ:St)(tg:Expr)(R:It->Hp->Prop)(uQ:Value)(s2:az):Prop:=∃(it:Addr) (fp:List Addr) (tn:Nat->Heap->Prop) (J:It) (H':Hp),uQ=.ref it/\Inv X pins σ H' s2/\Turn X.prog X.w X.K tg J fp it tn/\tn 0 s2.heap/\(∀b∈fp,FpOk X pins H' b)/\R J H'
def PI (X:Cx)(tg iter:Expr)(wi:TI):Prop:=∀(pins:List (Addr×Obj)) (s:az) (σ:St) (H:Hp) (R:It->Hp->Prop),Inv X pins σ H s->wi σ H R->wpAny (model X.prog X.w) X.A (eval iter X.env) (λv s1=>wpAny (model X.prog X.w) X.A (qd v) (tR X pins σ tg R) X.xe s1) X.xe s
theorem zga (b:s.heap.get? it=some o)(c:o.cls=.type n)(hd:o.data=.fields d)
  (hn:["enumerate","zip","dict_itemiterator","dict_reverseitemiterator","odict_iterator","itertools.zip_longest","itertools.pairwise"].contains n=false) (a:Q () s):wpAny M A (jk e (.ref it) u) Q E s:=by
 cases e<;>first
  |exact bb a
  |(cases u<;>first
   |exact bb a
   |(refine aa (wpAny_load b ?_)
     rw[c,hd];show wpAny M A (if(["enumerate","zip","dict_itemiterator","dict_reverseitemiterator","odict_iterator","itertools.zip_longest","itertools.pairwise"].contains n&&d[0]?==some (km _))=true then _ else _) Q E s;rw[qu (by intro h;rw[hn]at h;cases h)];exact bb a))
def Ag (K:W.Frag)(a:Addr):It:=⟨λi H=>∃xs x,SqL K H a xs/\xs[i]?=some x,λi H x H'=>H'=H/\∀xs,SqL K H a xs->xs[i]?=some x,λi H=>∃xs,SqL K H a xs/\xs.length<=i⟩
def EV (K:W.Frag)(a:Addr):It:=⟨λi H=>∃xs x,cA K H a xs/\xs[i]?=some x,λi H x H'=>H'=H/\∀xs,cA K H a xs->xs[i]?=some x,λi H=>∃xs,cA K H a xs/\xs.length<=i⟩
def uR (lo:Int)(n:Nat):It:=⟨λi _=>i<n,λi H x H'=>H'=H/\x=.int (lo+i),λi _=>n<=i⟩
theorem EW {K:W.Frag}(a it:Addr):Turn P w K Y (Ag K a) [it] it (λi h=>h.IsListIter it a i) where
 mem:=by simp
 obj:=λi h st b g=>by
  have e:b=it:=by simpa using g
  subst e;obtain⟨o,e,c,d⟩:=st;exact⟨o,e,λv z=>by rw[d]at z;cases z⟩
 keep:=λi h m st k=>st.at λo e=>k it (by simp) o e
 item:=by intro X n q r L i f s M H E I hf st t;subst n q r;obtain⟨N,x,l,y⟩:=t;obtain⟨A,B,p,O⟩:=I.list l;obtain⟨u,hu,Q⟩:=B.get y;obtain⟨C,D,R,F,G,J⟩:=hf it (by simp);refine wpAny_pyNext_list_item st p.isList (by simpa using hu) λm j S=>?_;have T:Inv X f M H {s with heap:=m}:=I.turned (λb o g e=>(S.2 b g).trans e) C D F G J;obtain⟨o,e,c,d⟩:=id j;exact⟨u,rfl,zga e c d dc ⟨x,H,T,Q,⟨rfl,λys U=>by rw[I.lR U l];exact y⟩,j,λb g=>(hf b g).1⟩⟩
 done:=by intro X n q r L i f s M H E I hf st t;subst n q r;obtain⟨N,l,y⟩:=t;obtain⟨A,B,p,O⟩:=I.list l;obtain⟨C,D,R,F,G,J⟩:=hf it (by simp);have hl:=B.length;exact wpAny_pyNext_list_end (I.ok.hd L) st p.isList (by grind) λm V=>⟨rfl,I.turned (λb o g e=>V b o g e) C D F G J⟩
 self:=λ_ _ _ _ _ st h=>wpAny_pyIter_listiter st h
theorem La {K:W.Frag}(a it:Addr):Turn P w K Y (EV K a) [it] it (λi h=>h.IsTupleIter it a i) where
 mem:=by simp
 obj:=λi h st b g=>by
  have e:b=it:=by simpa using g
  subst e;obtain⟨o,e,c,d⟩:=st;exact⟨o,e,λv z=>by rw[d]at z;cases z⟩
 keep:=λi h m st k=>st.at λo e=>k it (by simp) o e
 item:=by intro X n q r L i f s M H E I hf st t;subst n q r;obtain⟨N,x,l,y⟩:=t;obtain⟨A,B,p,O⟩:=I.tuple l;obtain⟨u,hu,Q⟩:=B.get y;obtain⟨C,D,R,F,G,J⟩:=hf it (by simp);refine wpAny_pyNext_tuple_item st p (by simpa using hu) λm j S=>?_;have T:Inv X f M H {s with heap:=m}:=I.turned (λb o g e=>(S.2 b g).trans e) C D F G J;obtain⟨o,e,c,d⟩:=id j;exact⟨u,rfl,zga e c d dc ⟨x,H,T,Q,⟨rfl,λys U=>by rw[I.jU U l];exact y⟩,j,λb g=>(hf b g).1⟩⟩
 done:=by intro X n q r L i f s M H E I hf st t;subst n q r;obtain⟨N,l,y⟩:=t;obtain⟨A,B,p,O⟩:=I.tuple l;obtain⟨C,D,R,F,G,J⟩:=hf it (by simp);have hl:=B.length;exact wpAny_pyNext_tuple_end (I.ok.hd L) st p (by grind) λm V=>⟨rfl,I.turned (λb o g e=>V b o g e) C D F G J⟩
 self:=λ_ _ _ _ _ st h=>wpAny_pyIter_tupleiter st h
theorem Lb {K:W.Frag}(it:Addr)(f:Int)(n:Nat):Turn P w K L (uR f n) [it] it (λi h=>IsRangeIter h it (f+(i:Nat)*1) ((n:Int)-(i:Nat)) 1) where
 mem:=by simp
 obj:=λi h st b c=>by
  have e:b=it:=by simpa using c
  subst e;exact⟨_,st,λv z=>by cases z⟩
 keep:=λi h g st k=>k it (by simp) _ st
 item:=by intro X x y A j i a s B H E I hf st l;subst x y A;obtain⟨m,p,C,q,r,u⟩:=hf it (by simp);refine(Walks.range (prog:=X.prog) (w:=X.w) (I.ok.hd j) it f 1 n).item i s _ _ l st λv g D F d kk=>?_;obtain⟨t,rfl⟩:=F;have G:Inv X a B H {s with heap:=g,toks:=D}:=I.turned (λb o c e=>kk b o (by simpa using c) e) m p q r u;refine⟨_,rfl,zga d rfl rfl dc ⟨.int (f+i),H,G,⟨t,?_⟩,⟨rfl,rfl⟩,d,λb c=>(hf b c).1⟩⟩;rw[Int.mul_one]
 done:=by intro X x y A j i a s B H E I hf st l;obtain⟨m,p,C,q,r,u⟩:=hf it (by simp);exact wpAny_pyNext_range_end (I.ok.hd j) st (by have:n<=i:=l;omega) λg J=>⟨rfl,I.turned (λb o c e=>J b o c e) m p q r u⟩
 self:=λ_ _ _ _ _ st h=>wpAny_pyIter_rangeiter st h
def Ah (K:W.Frag)(tl:TE):TI:=λσ H R=>tl σ H λx H1=>∃a,x=.ref a/\(∃xs,SqL K H1 a xs)/\R (Ag K a) H1
theorem Lc (g:PE X l i):PI X tg l (Ah X.K i):=by
 intro c s j H R I h;refine aI (g c s j H _ I h) ?_
 rintro v f ⟨x,H1,d,k,m⟩
 obtain⟨a,rfl,⟨u,n⟩,q⟩:=m;cases k;obtain⟨r,w,p,y⟩:=d.list n;refine lm p.isList (⟨f.heap.objs.size,[f.heap.objs.size],_,_,H1,rfl,d.kept λb o e=>ak _ e,EW a _,⟨_,bt _ rfl,rfl,rfl⟩,λb t=>?_,q⟩);have e:b=f.heap.objs.size:=by simpa using t
 subst e;exact d.gA (ae _) (d.hok.fresh (ae _))
theorem zan {a:Int}(I:Inv X d g H s)(h:-(2 ^ 62)<=a)(i:a<2 ^ 62)(j:-(2 ^ 62)<=c)(k:c<2 ^ 62)
  (q:R (uR a (c-a).toNat) H):wpAny (model X.prog X.w) X.A (qd (.ref s.heap.objs.size)) (tR X d g tg R) E {s with heap:=s.heap.push {cls:=.type "range",data:=.fields #[.int a t,.int c u,.int 1 v]},toks:=tk}:=by
 refine wpAny_pyIter_range (IsRange.new ..) (small_one h i j k) ?_;have f:Inv X d g H {s with heap:=s.heap.push {cls:=.type "range",data:=.fields #[.int a t,.int c u,.int 1 v]},toks:=tk}:=I.kept λb o e=>ak _ e;refine⟨(s.heap.push {cls:=.type "range",data:=.fields #[.int a t,.int c u,.int 1 v]}).objs.size,[(s.heap.push {cls:=.type "range",data:=.fields #[.int a t,.int c u,.int 1 v]}).objs.size],_,_,H,rfl,f.kept λb o e=>ak _ e,Lb _ a (c-a).toNat,?_,λb l=>?_,q⟩
 ·have m:a+((0:Nat):Int)*1=a:=by simp
  have n:(((c-a).toNat:Nat):Int)-((0:Nat):Int)=Builtin.Range.rangeSize a c 1:=by rw[rangeSize_one];split<;>omega
  rw[m,n];exact bt _ rfl
 ·have e:b=(s.heap.push {cls:=.type "range",data:=.fields #[.int a t,.int c u,.int 1 v]}).objs.size:=by simpa using l
  subst e;exact f.gA (ae _) (f.hok.fresh (ae _))
def Le (ta:TA):TI:=λσ H R=>ta σ H λvs H1=>∃j:Int,vs=[.int j]/\-(2 ^ 62)<=j/\j<2 ^ 62/\R (uR 0 j.toNat) H1
def Lf (ta:TA):TI:=λσ H R=>ta σ H λvs H1=>∃i j:Int,vs=[.int i,.int j]/\(-(2 ^ 62)<=i/\i<2 ^ 62/\-(2 ^ 62)<=j/\j<2 ^ 62)/\R (uR i (j-i).toNat) H1
theorem Lg (d:Gl X "range")(hm:X.mg "range"=none)(e:PA X [a] f)(hs:cx [a] X.env=[(false,eval a X.env)]:=by rfl):PI X tg (.Call (.Name "range" p) [a] [] pos) (Le f):=by
 intro b s g H R I h;refine Call_ (z2k I d hm boot_range (PyProof.Rows.callWith_type1 (aI (e pos b s g H _ I h) λm n ⟨o,H1,i,k,c⟩=>?_) hs rfl));obtain⟨j,rfl,c,l,q⟩:=c;cases k with
 |cons r rr=>cases rr;obtain⟨t,rfl⟩:=r;exact call_range_1 (zan i (by omega) (by omega) c l (by simpa using q))
theorem zew (f:Gl X "range")(hm:X.mg "range"=none)(g:PA X [a,b] k)(hs:cx [a,b] X.env=[(false,eval a X.env),(false,eval b X.env)]:=by rfl)(c:cx [b] X.env=[(false,eval b X.env)]:=by rfl):
  PI X tg (.Call (.Name "range" p) [a,b] [] pos) (Lf k):=by
 intro d s l H R I h;refine Call_ (z2k I f hm boot_range (PyProof.Rows.callWith_type1 (aI (g pos d s l H _ I h) λx y ⟨z,H1,m,n,e⟩=>?_) (by rw[hs,c]) (by rw[c];rfl)));obtain⟨i,j,rfl,⟨e,o,u,v⟩,q⟩:=e;cases n with
 |cons r rr=>
  cases rr with
  |cons w rr=>cases rr;obtain⟨t,rfl⟩:=r;obtain⟨A,rfl⟩:=w;exact call_range_2 (zan m e o u v q)
def lS (wi:TI)(g:TG)(tb:TS):TS:=λD σ H=>wi σ H λJ H1=>∃W:Nat->Nat->St->Hp->Prop,(∃m,W 0 m σ H1)/\∀i m σ H,W i m σ H->(J.stop i H/\D.nx σ H)\/(J.go i H/\∃N:St->Hp->Prop,(∀bR H',N bR H'->∃m',m'<m/\W (i+1) m' bR H')/\∀x H',J.gO i H x H'->g x σ H' λx9 H2=>tb {D with nx:=N,ct:=N,bk:=D.nx} x9 H2)
def z7o (fp:List Addr)(h:Heap):List (Addr×Obj):=fp.filterMap λb=>(h.get? b).map λo=>(b,o)
theorem tS (a:b∈c)(e:h.get? b=some o):(b,o)∈z7o c h:=ig.mpr ⟨b,a,by rw[e];rfl⟩
theorem Lh (a:p∈z7o c h):p.1∈c/\h.get? p.1=some p.2:=by
 obtain⟨b,d,e⟩:=ig.mp a;cases q:h.get? b with
 |none=>rw[q]at e;cases e
 |some o=>rw[q]at e;have f:=qv e;subst f;exact⟨d,q⟩
theorem Inv.pinned (I:Inv X a h H s)(hf:∀b∈c,FpOk X a H b)(i:∀b∈c,∃o,s.heap.get? b=some o/\∀v,o.data≠.cell v):Inv X (a++z7o c s.heap) h H s:=I.fZ λp j=>(cz.mp j).elim (λz=>I.pin p (br _ z)) λz=>by obtain⟨f,e⟩:=Lh z;obtain⟨k,l,m,_⟩:=hf p.1 f;obtain⟨o,g,d⟩:=i p.1 f;rw[e]at g;cases g;exact⟨e,k,l,m,d⟩
theorem Inv.cB (I:Inv X (a++pl) b H s):Inv X a b H s:=I.fZ λp c=>I.pin p (br _ (dk _ c))
theorem zea (F:ez (model X.prog X.w) X.A X.env X.xe)(V:X.calm=true)(hi:PI X tg B wi)(hg:PG X tg g)(j:PSs X G tb)
  (hs:∀x,e6 B X.env x=pure x:=by intro _;rfl):PS X (.For tg B G [] pos) (lS wi g tb):=by
 intro a s Y H D I h;refine wpAny_For (aI (hi a s Y H _ I h) λv s1 h1=>aI h1 λuQ s2 h2=>?_) hs;obtain⟨it,K,tn,J,H2,rfl,I2,T,Q,f2,W,⟨m0,w0⟩,L⟩:=h2;have k:∀{z:Hp},(∀b∈K,z b=none)->∀b∈K,FpOk X a z b:=λhn b j=>⟨hn b j,(f2 b j).2⟩;refine codeAny_forLoop_any (λn s'=>∃i l z,Inv X a l z s'/\tn i s'.heap/\(∀b∈K,z b=none)/\W i n l z) ?_ m0 ⟨0,Y,H2,I2,Q,λb j=>(f2 b j).1,w0⟩
 rintro n s3 ⟨i,p,P,I3,M,O,w3⟩
 rcases L i n p P w3 with⟨stop,qn⟩|⟨go,N,hN,step⟩
 ·refine gr F (aI (T.done X rfl rfl rfl V i a s3 p P X.xe I3 (k O) M stop) λr s4 ⟨hr,I4⟩=>?_);subst hr;exact jh ⟨p,P,I4,qn⟩
 ·refine gr F (aI (T.item X rfl rfl rfl V i a s3 p P X.xe I3 (k O) M go) λr s4 ⟨u,hr,h4⟩=>?_);subst hr;refine gr F (aI h4 ?_)
  rintro _ s5 ⟨x,H5,I5,r5,y5,E,R⟩
  refine gr F (aI (hg _ s5 p H5 x u _ (I5.pinned (k R) (T.obj _ _ E)) r5 (step x H5 y5)) λ_ s6 ⟨S,H6,I6,q6⟩=>?_);refine gr F (aI (j _ s6 S H6 _ I6 q6) λf U C=>?_);have q:∀{c:St} {t:Hp},Inv X (a++z7o K s5.heap) c t U->N c t->∃m,m<n/\∃i l z,Inv X a l z U/\tn i U.heap/\(∀b∈K,z b=none)/\W i m l z:=λ{c t} y n7=>by obtain⟨m',hm,w7⟩:=hN c t n7;refine⟨m',hm,i+1,c,t,y.cB,T.keep _ _ _ E λb j o e=>(y.pin (b,o) (br _ (br _ (tS j e)))).1,λb j=>?_,w7⟩;obtain⟨o,e,d⟩:=T.obj _ _ E b j;exact(y.pin (b,o) (br _ (br _ (tS j e)))).2.1
  cases f with
  |next=>obtain⟨c,t,y,n7⟩:=C;exact q y n7
  |cont=>obtain⟨c,t,y,n7⟩:=C;exact q y n7
  |brk=>obtain⟨c,t,y,C⟩:=C;exact⟨c,t,y.cB,C⟩
  |ret v=>obtain⟨x7,c,t,y,r7,C⟩:=C;exact⟨x7,c,t,y.cB,r7,C⟩
abbrev R2:=V->V->Hp->VK->Prop
def OpR (X:Cx)(f:Value->Value->Sem Value)(r:R2):Prop:=∀(pins:List (Addr×Obj)) (s:az) (σ:St) (H:Hp) (x y:V) (v u:Value) (Q:VK),Inv X pins σ H s->RelV x v->RelV y u->r x y H Q->wpAny (model X.prog X.w) X.A (f v u) (EP X pins σ Q) X.xe s
def Ai (X:Cx)(f:Value->Sem Value)(r:V->Hp->VK->Prop):Prop:=∀(pins:List (Addr×Obj)) (s:az) (σ:St) (H:Hp) (x:V) (v:Value) (Q:VK),Inv X pins σ H s->RelV x v->r x H Q->wpAny (model X.prog X.w) X.A (f v) (EP X pins σ Q) X.xe s
def CallR (X:Cx)(f:Value)(r:List V->Hp->VK->Prop):Prop:=∀(pins:List (Addr×Obj)) (s:az) (σ:St) (H:Hp) (xs:List V) (us:List Value) (Q:VK),Inv X pins σ H s->Vals xs us->r xs H Q->wpAny (model X.prog X.w) X.A (call f us) (EP X pins σ Q) X.xe s
def Aj (X:Cx)(r:V->Hp->(Bool->Hp->Prop)->Prop):Prop:=∀(pins:List (Addr×Obj)) (s:az) (σ:St) (H:Hp) (x:V) (v:Value) (Q:Bool->Hp->Prop),Inv X pins σ H s->RelV x v->r x H Q->wpAny (model X.prog X.w) X.A (truthy v) (TP X pins σ Q) X.xe s
def jE (r:R2)(ta tb:TE):TE:=λσ H Q=>ta σ H λx H1=>tb σ H1 λy H2=>r x y H2 Q
def Li (r:V->Hp->VK->Prop)(ta:TE):TE:=λσ H Q=>ta σ H λx H1=>r x H1 Q
def rI (C:Int->Int->Prop)(g:Int->Int->V):R2:=λx y H Q=>∃i j,x=.int i/\y=.int j/\C i j/\Q (g i j) H
def kX (g:Int->Int->V):R2:=λx y H Q=>∃i j,x=.int i/\y=.int j/\Q (g i j) H
def rU (g:Int->V):V->Hp->VK->Prop:=λx H Q=>∃i,x=.int i/\Q (g i) H
theorem binT (j:PE X a ta)(k:PE X b tb){R:V->V->Hp->Prop}(I:Inv X pins d H s)
  (h:ta d H λx H1=>tb d H1 λy c=>R x y c) {f:Value->Value->Sem Value}
  (hf:∀v u i x y c,Inv X pins d c i->RelV x v->RelV y u->R x y c->wpAny (model X.prog X.w) X.A (f v u) Q X.xe i):
  wpAny (model X.prog X.w) X.A (eval a X.env) (λv e=>wpAny (model X.prog X.w) X.A (eval b X.env) (λu g=>wpAny (model X.prog X.w) X.A (f v u) Q X.xe g) X.xe e) X.xe s:=by
 exact aI (j pins s d H _ I h) λv l ⟨x,H1,m,n,o⟩=>aI (k pins l d H1 _ m o) λu i ⟨y,c,p,q,r⟩=>hf v u i x y c p n q r
theorem Lj (d:OpR X (fy e) r)(f:PE X a ta)(g:PE X b tb):PE X (.BinOp a e b pos) (jE r ta tb):=by intro c s i H Q I h;exact wpAny_BinOp (binT f g I h λv u j x y k l m n q=>d c j i k x y v u Q l m n q)
theorem Lk (d:Ai X (unaryOp e) r)(f:PE X a ta):PE X (.UnaryOp e a pos) (Li r ta):=by intro b s c H Q I h;exact UnaryOp_ (aI (f b s c H _ I h) λv g ⟨x,H1,i,j,k⟩=>d b g c H1 x v Q i j k)
theorem opI {g:Int->Int->Int}
  (a:∀i j t u s Q E,C i j->Q (.int (g i j) s.toks) {s with toks:=s.toks+1}->wpAny (model X.prog X.w) X.A (f (.int i t) (.int j u)) Q E s):
  OpR X f (rI C λi j=>.int (g i j)):=by
 rintro b s k H x y v u Q I c d ⟨i,j,rfl,rfl,e,q⟩
 obtain⟨t,rfl⟩:=c;obtain⟨h,rfl⟩:=d;exact a i j t h s _ _ e ⟨.int (g i j),H,I.tok _,⟨_,rfl⟩,q⟩
theorem opI0 {g:Int->Int->Int}
  (a:∀i j t u s Q E,Q (.int (g i j) s.toks) {s with toks:=s.toks+1}->wpAny (model X.prog X.w) X.A (f (.int i t) (.int j u)) Q E s):
  OpR X f (kX λi j=>.int (g i j)):=by
 rintro b s h H x y v u Q I c d ⟨i,j,rfl,rfl,q⟩
 obtain⟨t,rfl⟩:=c;obtain⟨e,rfl⟩:=d;exact a i j t e s _ _ ⟨.int (g i j),H,I.tok _,⟨_,rfl⟩,q⟩
theorem opB0 {g:Int->Int->Bool}
  (a:∀i j t u s Q E,Q (.bool (g i j)) s->wpAny (model X.prog X.w) X.A (f (.int i t) (.int j u)) Q E s):
  OpR X f (kX λi j=>.bl (g i j)):=by
 rintro b s h H x y v u Q I c d ⟨i,j,rfl,rfl,q⟩
 obtain⟨t,rfl⟩:=c;obtain⟨e,rfl⟩:=d;exact a i j t e s _ _ ⟨.bl (g i j),H,I,rfl,q⟩
def Ak (i j:Int):Prop:=0<=j/\j<=1000000/\i.natAbs<2 ^ 64
def rJ (i j:Int):Prop:=(-(2 ^ 64)<i/\i<2 ^ 64)\/(-(2 ^ 64)<j/\j<2 ^ 64)
theorem rJ.ok (h:rJ i j):IntMulOk i j:=by
 rcases h with⟨a,b⟩|⟨a,b⟩
 ·exact .of_left (intBits_le_64 a b)
 ·exact .of_right (intBits_le_64 a b)
theorem Ll:OpR X (fy .Add) (kX λi j=>.int (i+j)):=opI0 λ_ _ _ _ _ _ _ q=>add_int q
theorem Lm:OpR X (fy .Sub) (kX λi j=>.int (i-j)):=opI0 λ_ _ _ _ _ _ _ q=>sub_int q
theorem Ln:OpR X (fy .Mult) (rI rJ λi j=>.int (i*j)):=opI λ_ _ _ _ _ _ _ a q=>mul_int q a.ok
theorem Lo:OpR X (fy .Mod) (rI (λ_ j=>0<j) λi j=>.int (i%j)):=opI λi j _ _ _ _ _ a q=>by exact mod_int' (by omega) (by rw[Int.fmod_eq_emod_of_nonneg i (by omega)];exact q)
theorem Lp:OpR X (fy .Pow) (rI Ak λi j=>.int (i ^ j.toNat)):=opI λ_ _ _ _ _ _ _ a q=>pow_int_small a.1 a.2.1 a.2.2 q
theorem unI {g:Int->Int}
  (a:∀i t s Q E,Q (.int (g i) s.toks) {s with toks:=s.toks+1}->wpAny (model X.prog X.w) X.A (f (.int i t)) Q E s):
  Ai X f (rU λi=>.int (g i)):=by
 rintro b s d H x v Q I c ⟨i,rfl,q⟩
 obtain⟨t,rfl⟩:=c;exact a i t s _ _ ⟨.int (g i),H,I.tok _,⟨_,rfl⟩,q⟩
theorem Lq:Ai X (unaryOp .USub) (rU λi=>.int (-i)):=unI λ_ _ _ _ _ q=>neg_int q
theorem EX (I:Inv X pins σ H s)(q:Q (.bl k) H)(e:k=k'):EP X pins σ Q (.bool k') s:=by subst e;exact⟨.bl k,H,I,rfl,q⟩
theorem Ls:OpR X (cw .Lt) (kX λi j=>.bl (decide (i<j))):=opB0 λ_ _ _ _ _ _ _ q=>lt_int q
theorem Lu:OpR X (cw .LtE) (kX λi j=>.bl (decide (i<=j))):=opB0 λ_ _ _ _ _ _ _ q=>le_int q
theorem Lw:OpR X (cw .Gt) (kX λi j=>.bl (decide (j<i))):=opB0 λ_ _ _ _ _ _ _ q=>gt_int q
theorem Lx:OpR X (cw .Lt) (λx y H Q=>∃i j,x=.str i/\y=.str j/\Q (.bl (decide (i.cps.toList<j.cps.toList))) H):=by
 rintro a s d H x y v u Q I b c ⟨i,j,rfl,rfl,q⟩
 obtain⟨t,rfl⟩:=b;obtain⟨e,rfl⟩:=c;exact lt_str (EX I q rfl)
theorem Ly:OpR X (cw .In) (λx y H Q=>∃i j,x=.str i/\y=.str j/\Q (.bl (!(g7 j i 0 j.length 1).isEmpty)) H):=by
 rintro a s d H x y v u Q I b c ⟨i,j,rfl,rfl,q⟩
 obtain⟨t,rfl⟩:=b;obtain⟨e,rfl⟩:=c;exact in_str (EX I q rfl)
theorem OpR.or (h:OpR X f r)(e:OpR X f g):OpR X f (λx y H Q=>r x y H Q\/g x y H Q):=by
 intro a s b H x y v u Q I c d q;rcases q with q|q
 ·exact h a s b H x y v u Q I c d q
 ·exact e a s b H x y v u Q I c d q
theorem EY (e:OpR X (cw d) r)(f:PE X a ta)(g:PE X b tb)(hm:dw d b=false):PE X (.Compare a [d] [b] pos) (jE r ta tb):=by intro c s i H Q I h;exact wpAny_Compare1 (binT f g I h λv u j x y k l m n q=>e c j i k x y v u Q l m n q) hm
def pY (t:TE):TT:=λσ H Q=>t σ H λx H'=>∃k,x=.bl k/\Q k H'
theorem EZ (i:OpR X (cw g) r)(j:PE X a ta)(l:PE X b tb)(hm:dw g b=false):PT X (.Compare a [g] [b] pos) (pY (jE r ta tb)):=by intro d s f H Q I h;refine nr (aI (j d s f H _ I h) λv m ⟨x,H1,n,o,p⟩=>aI (l d m f H1 _ n p) λu q ⟨y,t,w,A,B⟩=>aI (i d q f t x y v u _ w o A B) λc G ⟨z,C,D,E,k,e,F⟩=>?_) hm;subst e;cases E;exact ey ⟨C,D,F⟩
def Al (r r':R2)(ta tb tc:TE):TE:=λσ H Q=>ta σ H λx H1=>tb σ H1 λy H2=>r x y H2 λz H3=>∃k,z=.bl k/\(if k=true then tc σ H3 λw' H4=>r' y w' H4 Q else Q (.bl false) H3)
theorem zgz (q:OpR X (cw l) r)(j:OpR X (cw g) t)(w:PE X a ta)(A:PE X b tb)(B:PE X c tc)
  (hm:lastMarks [l,g] [b,c]=false:=by with_unfolding_all rfl):PT X (.Compare a [l,g] [b,c] pos) (pY (Al r t ta tb tc)):=by
 intro f s i H Q I h;refine isTrue_chain (aI (w f s i H _ I h) λv C ⟨x,H1,D,E,F⟩=>test_link (aI (A f C i H1 _ D F) λu G ⟨y,J,K,m,L⟩=>aI (q f G i J x y v u _ K E m L) λd M ⟨z,n,o,N,k,e,p⟩=>?_)) hm;subst e;cases N;refine ey ?_;cases k with
 |false=>obtain⟨k',O,P⟩:=p;cases O;exact ite_ff ⟨n,o,P⟩
 |true=>
  refine ite_tt (test_last (aI (B f M i n _ o p) λR S ⟨T,U,V,W,Y⟩=>aI (j f S i U y T u R _ V m W Y) ?_))
  rintro d' s5 ⟨z2,Z,I5,r5,k2,e2,q5⟩
  subst e2;cases r5;exact ey ⟨Z,I5,q5⟩
def jV (K:W.Frag)(x:V)(H:Hp)(k:Bool):Prop:=
 match x with
 |.aK=>k=false
 |.bl b=>k=b
 |.int i=>k=(i != 0)
 |.str y=>y.length<=au/\k=((y.length:Int) != 0)
 |.ref p=>(∃xs,SqL K H p xs/\k=!xs.isEmpty)\/(∃xs,cA K H p xs/\k=!xs.isEmpty)\/∃kvs,H p=some (.dK kvs)/\k=!kvs.isEmpty
 |_=>False
theorem Lz (r:KV kvs vs):(!vs.isEmpty)=!kvs.isEmpty:=by cases r<;>rfl
theorem E1 (r:Vals xs eI):(!eI.toArray.isEmpty)=!xs.isEmpty:=by cases r<;>simp
theorem rK:(au:Nat)<2 ^ 63:=by rw[c8];decide
theorem E2:Aj X (λx H Q=>∃k,jV X.K x H k/\Q k H):=by
 rintro h s o H x v Q I d ⟨k,e,q⟩
 have u:=rK;cases x with
 |aK=>cases d;have a:=e;subst a;exact truthy_none ⟨H,I,q⟩
 |bl b=>cases d;have a:=e;subst a;exact ey ⟨H,I,q⟩
 |int i=>obtain⟨t,rfl⟩:=d;have a:=e;subst a;exact PySem.P.truthy_int ⟨H,I,q⟩
 |str y=>obtain⟨t,rfl⟩:=d;obtain⟨w,rfl⟩:=e;exact PySem.P.truthy_str (by omega) ⟨H,I.tok _,q⟩
 |ref p=>
  cases d;have a:=e;rcases a with⟨l,f,a⟩|⟨l,f,a⟩|⟨kvs,f,a⟩
  ·subst a;obtain⟨g,r,pl,j⟩:=I.list f;have c:=r.length;exact wpAny_truthy_list pl.isList (by grind) ⟨H,I.tok _,by rw[E1 r];exact q⟩
  ·subst a;obtain⟨g,r,pl,j⟩:=I.tuple f;have c:=r.length;exact truthy_tuple pl (by grind) ⟨H,I.tok _,by rw[E1 r];exact q⟩
  ·subst a;obtain⟨j,n,z,r,m⟩:=I.hok p _ f;have c:=Paired.length r;exact wpAny_truthy_dict n m (by omega) ⟨H,I.tok _,by rw[Lz r];exact q⟩
 |_=>exact e.elim
theorem za6 (f:PE X a ta)(g:∀b,qc a X.env b=(do let v <-b;standAt a.pos;holding [v] (truthy v))):
  PT X a (λd H Q=>ta d H λx e=>∃k,jV X.K x e k/\Q k e):=by
 intro c s d H Q I h;exact isTrue_plain (aI (f c s d H _ I h) λv i ⟨x,H1,j,l,m⟩=>E2 c i d H1 x v Q j l m) (g _)
theorem LB:OpR X (fy .Add) (λx y H Q=>∃i j,x=.str i/\y=.str j/\i.length+j.length<=au/\Q (.str (i++j)) H):=by
 rintro a s f H x y v u Q I b c ⟨i,j,rfl,rfl,d,q⟩
 obtain⟨t,rfl⟩:=b;obtain⟨e,rfl⟩:=c;exact add_str (λe g=>⟨.str (i++j),H,I.tok _,⟨_,rfl⟩,q⟩) d
theorem vals1 (r:Vals [x] us):∃u,us=[u]/\RelV x u:=by
 cases r with
 |cons a b=>cases b;exact⟨_,rfl,a⟩
theorem vals2 (r:Vals [x,y] us):∃u a,us=[u,a]/\RelV x u/\RelV y a:=by
 cases r with
 |cons b c=>
  cases c with
  |cons d e=>cases e;exact⟨_,_,rfl,b,d⟩
theorem LC (d:X.calm=true):CallR X (.builtin "min") (λb H Q=>∃i j,b=[.int i,.int j]/\Q (.int (if j<i then j else i)) H):=by
 rintro c s e H b f Q I r ⟨i,j,rfl,q⟩
 obtain⟨u,g,rfl,⟨t,rfl⟩,h,rfl⟩:=vals2 r;refine min_two_ints (I.ok.hd d) λl m k=>⟨_,H,I.kept k,?_,q⟩;by_cases a:j<i
 ·rw[qt a,qt a];exact⟨_,rfl⟩
 ·rw[qu a,qu a];exact⟨_,rfl⟩
theorem LD:CallR X (.type "int") (λa H Q=>(∃i,a=[.int i]/\Q (.int i) H)\/∃k,a=[.bl k]/\Q (.int (if k then 1 else 0)) H):=by
 intro b s c H a d Q I r h;rcases h with⟨i,rfl,q⟩|⟨k,rfl,q⟩
 ·obtain⟨u,rfl,t,rfl⟩:=vals1 r;exact call_int_int ⟨.int i,H,I,⟨_,rfl⟩,q⟩
 ·obtain⟨u,rfl,rfl⟩:=vals1 r;exact call_int_bool ⟨.int (if k then 1 else 0),H,I.tok _,⟨_,rfl⟩,q⟩
structure ObjM (h:Heap)(x dx C:Addr)(mA:Str->Option Value):Prop where
 obj:h.get? x=some (W.instObj C dx)
 ns:h.Ns1 dx mA
 ne:dx≠x
theorem LF {h:Heap}(n:h.Ns1 dx d):∃od,h.get? dx=some od/\∀b,W.lookIn b od=some (d b):=by
 obtain⟨o,es,ep,f,hd,g,_,hm⟩:=n;refine⟨o,f,λb=>?_⟩;have e:=hm b;unfold nsFind findBy at e;rw[<-pc]at e;unfold W.lookIn;rw[hd]
 dsimp only
 split
 ·rename_i y q;rw[q]at e;exact congrArg some e
 ·rename_i q;rw[q]at e;have a:es.toList.any (·.refKey)=false:=by rw[List.any_eq_false];intro y i;obtain⟨z,t,c⟩:=g y (Array.mem_toList_iff.mp i);simp[DictEntry.refKey,c]
  rw[qu (a▸dr)];exact congrArg some e
theorem ObjM.look (I:ObjM h x dx C b):∃od,W.InstAt h x (W.instObj C dx) C (some od)/\∀a,W.lookIn a od=some (b a):=
 let⟨od,ho,hl⟩:=LF I.ns
 ⟨od,⟨I.obj,rfl,rfl,ho⟩,hl⟩
section
variable {prog:cj}{w:World}{A:fk}{E:Value->az->Prop}{s:az}{K:W.Frag}{x dx C f:Addr}{mA:Str->Option Value}{name:Str}{v:Value}
theorem zmx (X:K.In s.heap)(I:ObjM s.heap x dx C mA)(b:W.plainGet K C name=true)(hh:W.hasDictIn K C=true)
  (c:W.findIn K (.ref C) name=some none) (d:mA name=some v) (a:W.handedIn v=true) (h:Q v {s with toks:=s.toks+1}):
  wpAny (model prog w) A (qs (.ref x) name expr) Q E s:=by
 obtain⟨od,J,e⟩:=I.look;exact W.get_value X J (W.plainGet_of b).1 (W.findObj_own hh c rfl (by rw[e,d])) a h
theorem zhi (X:K.In s.heap)(I:ObjM s.heap x dx C mA)(a:W.plainGet K C name=true)
  (hf:W.findIn K (.ref C) name=some (some (.ref f))) (b:W.isFn K (.ref f)=true) (c:mA name=none) (h:Q (.ref f,[.ref x]) s):
  wpAny (model prog w) A (getMethod (.ref x) name pl) Q E s:=by
 obtain⟨od,J,d⟩:=I.look;exact W.method_fn X J (W.plainGet_of a).1 (W.plainGet_of a).2 hf (q8 b) (by show(W.lookIn name od).map (·.isSome)=some false;rw[d,c];rfl) h
theorem zk8 (X:K.In s.heap)(I:ObjM s.heap x dx C mA)
  (hs:W.findIn K (.ref C) "__setattr__"=some (some (.builtin "object.__setattr__"))) (i:W.plainOver K C=true) (j:W.takerIn K C name=some none) (hh:W.hasDictIn K C=true)
  (k:PySem.Within mA ns) (l:ns.length<=au)
  (h:∀d,ObjM d x dx C (λy=>if y=name then some v else mA y)->gb dx s.heap d->Q () {s with heap:=d,toks:=s.toks+2}):
  wpAny (model prog w) A (setAttr (.ref x) name v) Q E s:=by
 obtain⟨od,J,p⟩:=I.look;refine W.set_plain X J hs (W.osa_open X J i j λb=>?_);obtain⟨cd,m,e⟩:=W.any_some hh;refine aa (bb (aa (aa (wpAny_loadPart I.obj (aa (W.Looks.here (W.looks_clsIn X m) ?_))))));rw[e];refine bb (aa (bb (aa ?_)));refine wpAny_nsSet1 I.ns λd a c=>?_;obtain⟨q,n,o,f,fM,g⟩:=a.count (PySem.Within.cons name v k);refine aa (wpAny_lookBehind f (fM▸pastItsLine_dict (bq g (by grind))) ?_);exact bb (h _ ⟨(c.2 _ (Ne.symm I.ne)).trans I.obj,a,I.ne⟩ c)
theorem zi3 (X:K.In s.heap)(hm:W.makesIn K C=true)
  (c:W.findIn K (.ref C) "__init__"=some (some (.ref f))) (hf:W.typeIn K (.ref f)=some (.type "function"))
  (h:i8 (model prog w) (A.under (.builtin "type.__call__" ⟨.ref C::a,b⟩)) (.call (.ref f) ⟨.ref (s.heap.objs.size+1)::a,b⟩) (W.InitBack (s.heap.objs.size+1) R)
   {s with heap:=(s.heap.push W.emptyDict).push (W.instObj C s.heap.objs.size)}):
  i8 (model prog w) A (.call (.ref C) ⟨a,b⟩) R s:=by
 exact W.make_core (W.makes_of X hm) (W.looks_findIn X c) (λself=>W.bind_fn X self hf) (.inl rfl) h
end
def bX (f:Str)(v:V):List (Str×V)->List (Str×V)
 | []=>[(f,v)]
 |(g,x)::r=>if g=f then(g,v)::r else(g,x)::bX f v r
theorem E3 (f g:Str)(v:V):∀fs,(bX f v fs).lookup g=if g=f then some v else fs.lookup g
 | []=>by
  show jq g [(f,v)]=_;by_cases h:g=f
  ·have a:(g==f)=true:=beq_iff_eq.mpr h;simp only[jq,a,qt h]
  ·have a:(g==f)=false:=beq_eq_false_iff_ne.mpr h;simp only[jq,a,qu h]
 |(k,x)::r=>by
  rw[show bX f v ((k,x)::r)=(if k=f then(k,v)::r else(k,x)::bX f v r)from rfl];by_cases b:k=f
  ·rw[qt b];by_cases h:g=k
   ·have a:(g==k)=true:=beq_iff_eq.mpr h;simp only[jq,a,qt (h.trans b)]
   ·have a:(g==k)=false:=beq_eq_false_iff_ne.mpr h;simp only[jq,a,qu (λe:g=f=>h (e.trans b.symm))]
  ·rw[qu b];by_cases h:g=k
   ·have a:(g==k)=true:=beq_iff_eq.mpr h;simp only[jq,a,qu (λe:g=f=>b (h.symm.trans e))]
   ·have a:(g==k)=false:=beq_eq_false_iff_ne.mpr h;simp only[jq,a];exact E3 f g v r
theorem Am (f:Str)(v:V):∀fs,f∈(bX f v fs).map (·.1)/\∀g,g∈fs.map (·.1)->g∈(bX f v fs).map (·.1)
 | []=>⟨by simp[bX],λg h=>by simp at h⟩
 |(k,x)::r=>by
  obtain⟨b,c⟩:=Am f v r;rw[show bX f v ((k,x)::r)=(if k=f then(k,v)::r else(k,x)::bX f v r)from rfl];by_cases a:k=f
  ·rw[qt a];subst a;exact⟨by simp,λg h=>by simpa using h⟩
  ·rw[qu a];refine⟨?_,λg h=>?_⟩
   ·rw[bn];exact ay _ b
   ·rw[bn]at h ⊢;rcases ax.mp h with e|e
    ·exact ax.mpr (.inl e)
    ·exact ay _ (c g e)
theorem E4 (f:Str)(v:V):∀fs,(bX f v fs).length<=fs.length+1
 | []=>by simp[bX]
 |(k,x)::r=>by
  have b:=E4 f v r;rw[show bX f v ((k,x)::r)=(if k=f then(k,v)::r else(k,x)::bX f v r)from rfl];by_cases a:k=f
  ·rw[qt a,bh,bh];omega
  ·rw[qu a,bh,bh];omega
theorem cG.some_of (r:cG (some v) o):∃u,o=some u/\RelV v u:=by
 cases o with
 |none=>exact r.elim
 |some u=>exact⟨u,rfl,r⟩
theorem cG.none_of (r:cG none o):o=none:=by
 cases o with
 |none=>rfl
 |some u=>exact r.elim
theorem E5 (r:RelV v u):W.handedIn u=true:=by
 cases v with
 |aK=>cases r;rfl
 |bl b=>cases r;rfl
 |int i=>obtain⟨t,e⟩:=r;cases e;rfl
 |str x=>obtain⟨t,e⟩:=r;cases e;rfl
 |ref a=>cases r;rfl
 |ty n=>cases r;rfl
theorem x' (hok:HOk P w H h)(e:H a=some (.ins C dx fs)):∃b,ObjM h a dx C b/\(∀f,cG (fs.lookup f) (b f))/\PySem.Within b (fs.map (·.1))/\fs.length<=1000/\H dx=some (.own a):=by obtain⟨d,z,ne,ob,b,n,r,q⟩:=(hok a _ e);exact⟨b,⟨ob,n,ne⟩,r,q,z,d⟩
structure Cls (K:W.Frag)(C:Addr):Prop where
 pg:W.plainGet K C Str.empty=true
 hd:W.hasDictIn K C=true
 po:W.plainOver K C=true
 sa:W.findIn K (.ref C) "__setattr__"=some (some (.builtin "object.__setattr__"))
theorem Cls.get {K:W.Frag}(c:Cls K C)(f:Str):W.plainGet K C f=true:=c.pg
def z1z (K:W.Frag)(C:Addr)(f:Str):Prop:=W.findIn K (.ref C) f=some none
theorem z1z.uS {K:W.Frag}(n:z1z K C f):W.takerIn K C f=some none:=by unfold W.takerIn;rw[show W.findIn K (.ref C) f=some none from n];rfl
structure Meth (K:W.Frag)(C:Addr)(m:Str)(f:Addr):Prop where
 at_:W.findIn K (.ref C) m=some (some (.ref f))
 fn:W.isFn K (.ref f)=true
 kp:W.keepIn K (.ref f)=true
theorem zbp (I:Inv X pins σ H s)(e:H a=some (.ins C dx fs))(c:Cls X.K C)(n:z1z X.K C f)(l:fs.lookup f=some v)
  (h:∀u d,Inv X pins σ H d->RelV v u->Q u d):wpAny (model X.prog X.w) A (qs (.ref a) f b) Q E s:=by
 obtain⟨i,O,r,_,_,_⟩:=x' I.hok e;obtain⟨u,hu,g⟩:=cG.some_of (l▸r f);exact zmx I.cH O (c.get f) c.hd n hu (E5 g) (h u _ (I.tok _) g)
theorem z5e (I:Inv X pins σ H s)(e:H a=some (.ins C dx fs))(c:Cls X.K C)(k:Meth X.K C m g)(l:fs.lookup m=none)
  (h:Q (.ref g,[.ref a]) s):wpAny (model X.prog X.w) A (getMethod (.ref a) m pl) Q E s:=by
 obtain⟨b,O,r,_,_,_⟩:=x' I.hok e;exact zhi I.cH O (c.get m) k.at_ k.fn (cG.none_of (l▸r m)) h
theorem zb7 (I:Inv X pins σ H s)(e:H a=some (.ins C dx fs))(c:Cls X.K C)(n:z1z X.K C f)(v:fs.length<1000)(l:RelV y u)
  (h:∀i,Inv X pins σ (upd H a (.ins C dx (bX f y fs))) i->Q () i):wpAny (model X.prog X.w) A (setAttr (.ref a) f u) Q E s:=by
 obtain⟨j,O,r,wi,_,k⟩:=x' I.hok e;refine zk8 I.cH O c.sa c.po n.uS c.hd wi (by rw[am,c8];omega) λx d m=>h _ (I.write (e▸True.intro) (.inr k) (λb q p z=>(m.2 b p).trans z) (let⟨o,_,_,e',_⟩:=d.ns;⟨o,e'⟩) ⟨by rw[aE O.ne];exact k,?_,O.ne,d.obj,_,d.ns,λg=>?_,λg t=>?_⟩)
 ·have:=E4 f y fs;omega
 ·show cG ((bX f y fs).lookup g) (if g=f then some u else j g);rw[E3];by_cases q:g=f
  ·rw[qt q,qt q];exact l
  ·rw[qu q,qu q];exact r g
 ·by_cases q:g=f
  ·rw[q];exact(Am f y fs).1
  ·refine(Am f y fs).2 g (wi g λz=>t ?_);show(if g=f then some u else j g)=none;rw[qu q];exact z
theorem Inv.made (I:Inv X pins σ H s):Inv X pins σ (upd (upd H s.heap.objs.size (.own (s.heap.objs.size+1))) (s.heap.objs.size+1) (.ins C s.heap.objs.size []))
  {s with heap:=(s.heap.push W.emptyDict).push (W.instObj C s.heap.objs.size)}:=by
 have a:(s.heap.push W.emptyDict).get? s.heap.objs.size=some W.emptyDict:=bt s.heap rfl
 have c:((s.heap.push W.emptyDict).push (W.instObj C s.heap.objs.size)).get? (s.heap.objs.size+1)=some (W.instObj C s.heap.objs.size):=by
  have:=bt (s.heap.push W.emptyDict) (o:=W.instObj C s.heap.objs.size) rfl
  rwa [k8]at this
 refine(I.laid (o:=.own (s.heap.objs.size+1)) (t':=s.toks) (λb u q=>ak _ q) (ae _) ⟨_,a⟩).laid (λb u q=>ak _ q) (Nat.le_of_eq (k8 _ _)) ?_;have ne:s.heap.objs.size≠s.heap.objs.size+1:=cb (i9 _);refine⟨by rw[aE ne,bI],db _,ne,c,λ_=>none,(ph ⟨W.emptyDict,#[],_,a,rfl,(λe d=>absurd d (by simp)),λ_=>rfl⟩).at λo q=>ak _ q,λ_=>True.intro,λy f=>absurd rfl f⟩
theorem zff (b:jg e f env (eval e env)=eval e env)
  (h:wpAny (model prog w) A (eval e env) (λo a=>wpAny (model prog w) A (qs o f true) Q E a) E s):wpAny (model prog w) A (eval (.Attribute e f pos) env) Q E s:=
 Attribute_any_ h (by rw[arm_eval_Attribute,b])
def rL (K:W.Frag)(ta:TE)(f:Str):TE:=λσ H Q=>ta σ H λx H1=>∃a C dx fs v,x=.ref a/\H1 a=some (.ins C dx fs)/\Cls K C/\z1z K C f/\fs.lookup f=some v/\Q v H1
def rM (K:W.Frag)(ta tv:TE)(f:Str):TS:=λD σ H=>tv σ H λy H1=>ta σ H1 λx H2=>∃a C dx fs,x=.ref a/\H2 a=some (.ins C dx fs)/\Cls K C/\z1z K C f/\fs.length<1000/\D.nx σ (upd H2 a (.ins C dx (bX f y fs)))
theorem LG (d:PE X e ta)(g:jg e f X.env (eval e X.env)=eval e X.env):PE X (.Attribute e f pos) (rL X.K ta f):=by
 intro b s i H Q I h;refine zff g (aI (d b s i H _ I h) ?_)
 rintro u r ⟨x,H1,j,k,a,C,dx,fs,v,ex,m,c,n,l,q⟩
 subst ex;obtain rfl:u=Value.ref a:=k;exact zbp j m c n l λt w o p=>⟨v,H1,o,p,q⟩
theorem LH (e:PE X o ta)(g:PE X value tv)(hs:i7 value (some (.Attribute o f pos')) pos.line X.env=pure false):PS X (.Assign [.Attribute o f pos'] value pos) (rM X.K ta tv f):=by
 intro b s d H D I h;refine j3 (aI (g b s d H _ I h) λu i ⟨y,H1,j,k,q⟩=>aI (e b i d H1 _ j q) ?_) hs
 rintro m z ⟨x,A,p,r,a,C,dx,fs,ex,t,c,n,l,v⟩
 subst ex;obtain rfl:m=Value.ref a:=r;exact zb7 p t c n l k λB w=>⟨d,_,w,v⟩
section
variable {H:Hp}
inductive TyOf (K:W.Frag)(H:Hp):V->Value->Prop where
 |aK:TyOf K H .aK (.type "NoneType")
 |bl (x:Bool):TyOf K H (.bl x) (.type "bool")
 |int (i:Int):TyOf K H (.int i) (.type "int")
 |str (x:Str):TyOf K H (.str x) (.type "str")
 |lst {a:Addr} {xs:List V} (e:H a=some (.lst xs)):TyOf K H (.ref a) (.type "list")
 |eZ {a:Addr} {o:Obj} {xs:List V} (e:H a=some (.eZ o (.lst xs))):TyOf K H (.ref a) (.type "list")
 |tup {a:Addr} {xs:List V} (e:H a=some (.tup xs)):TyOf K H (.ref a) (.type "tuple")
 |dK {a:Addr} {kvs:List (Key×V)} (e:H a=some (.dK kvs)):TyOf K H (.ref a) (.type "dict")
 |dT {a:Addr} {kvs:List (List Key×V)} (e:H a=some (.dT kvs)):TyOf K H (.ref a) (.type "dict")
 |ins {a C dx:Addr} {fs:List (Str×V)} (e:H a=some (.ins C dx fs)) (cl:Cls K C) (ha:W.findIn K (.ref C) "__class__"=some (some (.builtin "object.__class__")))
  (hn:W.specialIn K (.builtin "object.__class__") "__get__"=some (some (.builtin "getset_descriptor.__get__"))) (U5:W.takesIn K (.builtin "object.__class__")=some true)
  (hm:W.mroIn K C (.type "object")=some true):TyOf K H (.ref a) (.ref C)
theorem z2d (I:Inv X pins σ H s)(f:RelV x u)(ty:TyOf X.K H x t)(e:W.kitOne X.K t c=some b)(h:∀m,Q (.bool b) {s with toks:=m}):
  wpAny (model X.prog X.w) A (call (.builtin "isinstance") [u,c]) Q E s:=by
 cases ty with
 |aK=>cases f;exact W.kia_one W.kitx_none I.cH True.intro e (λz=>nomatch z) h
 |bl y=>cases f;exact W.kia_one W.kitx_bool I.cH True.intro e (λz=>nomatch z) h
 |int i=>obtain⟨t,q⟩:=f;cases q;exact W.kia_one W.kitx_int I.cH True.intro e (λz=>nomatch z) h
 |str y=>obtain⟨t,q⟩:=f;cases q;exact W.kia_one W.kitx_str I.cH True.intro e (λz=>nomatch z) h
 | @lst a k d=>cases f;obtain⟨_,_,n,_,g⟩:=(I.hok a _ d);exact W.kia_one W.kitx_list I.cH ⟨_,g,rfl⟩ e (λz=>nomatch z) h
 | @eZ a ob k d=>cases f;obtain⟨_,_,_,n,_,g⟩:=(I.hok a _ d);exact W.kia_one W.kitx_list I.cH ⟨_,g,rfl⟩ e (λz=>nomatch z) h
 | @tup a k d=>cases f;obtain⟨_,_,_,p⟩:=(I.hok a _ d);obtain⟨o,g,j,_⟩:=p.tup;exact W.kia_one W.kitx_tuple I.cH ⟨o,g,j⟩ e (λz=>nomatch z) h
 | @dK a kvs d=>cases f;obtain⟨_,_,v,_,⟨o,es,ep,g,j,_⟩⟩:=(I.hok a _ d);exact W.kia_one W.kitx_dict I.cH ⟨o,g,j.1⟩ e (λz=>nomatch z) h
 | @dT a kvs d=>cases f;obtain⟨_,_,k,_,o,es,ep,g,j,_⟩:=(I.hok a _ d);exact W.kia_one W.kitx_dict I.cH ⟨o,g,j.1⟩ e (λz=>nomatch z) h
 | @ins a C dx fs d cl r hn l hm=>cases f;obtain⟨B,O,_⟩:=x' I.hok d;obtain⟨od,J,_⟩:=O.look;exact W.kia_one (W.kitx_own (cl.get _) cl.hd r hn l hm) I.cH J e (λz=>nomatch z) h
end
structure Room (k:Nat)(A:fk):Prop where
 hd:A.handled=none
 dp:A.depth+3*k+5<recursionLimit
 un:A.units+16*k+200<cLine
theorem Room.mono (r:Room k A)(h:j<=k):Room j A:=⟨r.hd,by have:=r.dp;omega,by have:=r.un;omega⟩
theorem Room.deeper (r:Room (k+1) A)(env:Env):Room k (A.deeper env):=⟨r.hd,by have:=r.dp;show A.depth+1+3*k+5<_;omega,by have:=r.un;show A.units+3+16*k+200<_;omega⟩
theorem LI {A:fk}:(A.under (.builtin "type.__call__" ⟨.ref C::a,b⟩)).depth=A.depth+1:=by first|rfl|simp[Around.under,Code.weight,Code.isCreation,Code.isGuard,Code.isCaller,Code.frames,Code.isFrame,guardIds]
theorem LJ {A:fk}:(A.under (.builtin "type.__call__" ⟨.ref C::a,b⟩)).units=A.units+1:=by first|rfl|simp[Around.under,Code.cUnits,Code.frames,Code.isFrame]
theorem Room.make (r:Room (k+1) A)(C:Addr)(a:List Value)(b:List (Str×Value)):Room k (A.under (.builtin "type.__call__" ⟨.ref C::a,b⟩)):=⟨r.hd,by have:=r.dp;rw[LI];omega,by have:=r.un;rw[LJ];omega⟩
theorem Room.depth (r:Room k A):A.depth<recursionLimit:=by have:=r.dp;omega
theorem Room.units (r:Room k A):A.units+64<cLine:=by have:=r.un;omega
def eE:TA:=λ_ H Q=>Q [] H
def lT (ta:TE)(tr:TA):TA:=λσ H Q=>ta σ H λx H1=>tr σ H1 λxs H2=>Q (x::xs) H2
theorem jF:PA X [] eE:=λ_ _ _ _ H Q I h=>Calls.spliced_nil ⟨[],H,I,.nil,h⟩
theorem ya (c:PE X e te)(hr:PA X es t)(hs:cx (e::es) X.env=(false,eval e X.env)::cx es X.env:=by rfl):PA X (e::es) (lT te t):=by
 intro pos a s b H Q I h;rw[hs];refine Calls.spliced_cons (aI (c a s b H _ I h) ?_)
 rintro u d ⟨x,H1,f,g,i⟩
 exact aI (hr pos a d b H1 _ f i) λo p ⟨j,k,l,m,n⟩=>⟨x::j,k,l,.cons g m,n⟩
def uT (t:TA):TE:=λσ H Q=>t σ H λxs H1=>xs.length<=au/\∀p,H1 p=none->Q (.ref p) (upd H1 p (.tup xs))
def uU (t:TA):TE:=λσ H Q=>t σ H λxs H1=>xs.length<=au/\∀p,H1 p=none->Q (.ref p) (upd H1 p (.lst xs))
theorem E6 {f}(h:PA X es t):PE X (.Tuple es f pos) (uT t):=by intro a s g H Q I i;refine wpAny_Tuple_spliced (aI (h pos a s g H _ I i) λj c ⟨k,H1,d,r,z,q⟩=>⟨by rw[<-r.length];exact z,?_⟩);refine⟨.ref c.heap.objs.size,upd H1 c.heap.objs.size (.tup k),d.laid (λb u e=>ak _ e) (ae _) ?_,rfl,q _ (d.hok.fresh (ae _))⟩;exact⟨z,j,r,⟨_,bt _ rfl⟩⟩
theorem E7 (h:PA X es t):PE X (.List es pos) (uU t):=by intro a s f H Q I g;refine wpAny_List_spliced (aI (h pos a s f H _ I g) λi c ⟨j,H1,d,r,z,q⟩=>⟨by rw[<-r.length];exact z,?_⟩);refine⟨.ref c.heap.objs.size,upd H1 c.heap.objs.size (.lst j),d.laid (λb u e=>ak _ e) (ae _) ?_,rfl,q _ (d.hok.fresh (ae _))⟩;exact⟨z,i,0,r,bt _ rfl⟩
abbrev Sp:=List V->Hp->VK->XK->Prop
abbrev CXT:=List Env->Hp->az->XK->Value->az->Prop
structure jW (P:cj)(w:World)(K:W.Frag)(mg:Str->Option Value)(base:Heap)(A:fk)(outer:List Env)(s:az)(H:Hp):Prop where
 frames:A.frames=some outer
 mod:Mod K mg base
 bs:∀b o,base.get? b=some o->s.heap.get? b=some o/\H b=none
 iK:base.objs.size<=s.heap.objs.size
 bZ:s.heap.FunFrames base outer
 lQ:∀b∈frs outer,H b=none
 hok:HOk P w H s.heap
 bare:ku s.gens
def CE (outer:List Env)(P:cj)(w:World)(H:Hp)(s:az)(Q:VK)(u:Value)(s':az):Prop:=∃v H',s'.os=s.os/\ku s'.gens/\Un (frs outer) [] H H' s.heap s'.heap/\HOk P w H' s'.heap/\RelV v u/\Q v H'
def CR (CX:CXT)(outer:List Env)(P:cj)(w:World)(H:Hp)(s:az)(Q:VK)(E:XK)(r:Result)(s':az):Prop:=
 match r with
 |.ok (.ret u)=>CE outer P w H s Q u s'
 |.ok _=>False
 |.error e=>CX outer H s E e s'
structure FnOk (P:cj)(w:World)(K:W.Frag)(mg:Str->Option Value)(base:Heap)(CX:CXT)(k:Nat)(f:Addr)(fd:dt)(ps:List Str)(sp:Sp):Prop where
 len:∀vs H Q E,sp vs H Q E->vs.length=ps.length
 run:∀(A:fk) (outer:List Env) (s:az) (H:Hp) (args:Args) (us:List Value) (vs:List V) (Q:VK) (E:XK),Room k A->jW P w K mg base A outer s H->oa s fd args (ps.zip us)->Vals vs us->sp vs H Q E->i8 (model P w) A (.call (.ref f) args) (CR CX outer P w H s Q E) s
theorem jW.make {K:W.Frag}(e:jW P w K mg base A outer s H)(C:Addr)(a:List Value)(b:List (Str×Value)): jW P w K mg base (A.under (.builtin "type.__call__" ⟨.ref C::a,b⟩)) outer s H:=⟨by first|exact e.frames|(simpa[Around.under,Code.envs,Code.isFrame,pushEnvs]using e.frames),e.mod,e.bs,e.iK,e.bZ,e.lQ,e.hok,e.bare⟩
theorem Inv.oG (I:Inv X pins σ H s):jW X.prog X.w X.K X.mg X.base X.A X.stack s H:=⟨I.ok.frames,I.ok.mod,I.bs,bq I.ok.iK I.sz,I.stack,I.fY,I.hok,I.bare⟩
theorem Inv.after (I:Inv X pins σ H s)(h:CE X.stack X.prog X.w H s Q u s'):EP X pins σ Q u s':=by obtain⟨v,c,os,bare,un,hok,r,q⟩:=h;obtain⟨hh,g,d,t,a⟩:=s';obtain rfl:a=s.os:=os;exact⟨v,c,I.call un hok bare (λb z=>absurd z (by simp)),r,q⟩
def hW (sp:Sp)(dvs:List V)(E:XK)(t:TA):TE:=λσ H Q=>t σ H λvs H1=>sp (vs++dvs) H1 Q E
def jG (C:Addr)(m:Str)(sp:Sp)(dvs:List V)(E:XK)(ta:TE)(t:TA):TE:=λσ H Q=>ta σ H λx H1=>∃a dx fs,x=.ref a/\H1 a=some (.ins C dx fs)/\fs.lookup m=none/\t σ H1 λvs H2=>sp (x::(vs++dvs)) H2 Q E
def uV (C:Addr)(sp:Sp)(dvs:List V)(E:XK)(t:TA):TE:=λσ H Q=>t σ H λvs H1=>∀x dx,H1 x=none->H1 dx=none->dx≠x->sp (.ref x::(vs++dvs)) (upd (upd H1 dx (.own x)) x (.ins C dx [])) (λv H2=>v=.aK/\Q (.ref x) H2) E
def Binds (K:W.Frag)(fd:dt)(ps:List Str)(ds:List Value):Prop:=∀(s:az) (us:List Value),K.In s.heap->(us++ds).length=ps.length->oa s fd ⟨us,[]⟩ (ps.zip (us++ds))
theorem Binds.all {K:W.Frag}(h:∀a,a.length=ps.length->kb fd ⟨a,[]⟩=pure (ps.zip a)):Binds K fd ps []:=λs a _ b=>by rw[dz]at b ⊢;exact .of_eq (h a b)
def z1w (CX:CXT)(X:Cx)(E:XK):Prop:=∀(pins:List (Addr×Obj)) (σ:St) (H:Hp) (s:az) (e:Value) (s':az),Inv X pins σ H s->CX X.stack H s E e s'->X.xe e s'
section
variable {f C:Addr}
theorem za9 (F:FnOk X.prog X.w X.K X.mg X.base CX k f fd ps sp)(hr:Room k X.A)(i:Binds X.K fd ps ds)(hd:Vals dvs ds)(j:z1w CX X E)
  (I:Inv X a d H s) (r:Vals vs c) (h:sp (vs++dvs) H Q E):wpAny (model X.prog X.w) X.A (call (.ref f) c) (EP X a d Q) X.xe s:=by
 have g:=r.append hd;refine mn (ij (F.run X.A X.stack s H ⟨c,[]⟩ (c++ds) (vs++dvs) Q E hr I.oG (i s c I.cH (g.length▸F.len _ _ _ _ h)) g h) λr l b=>?_);cases r with
 |error e=>exact j a d H s e l I b
 |ok fl=>
  cases fl with
  |ret u=>exact I.after b
  |next=>exact False.elim b
  |brk=>exact False.elim b
  |cont=>exact False.elim b
theorem zcx (F:FnOk X.prog X.w X.K X.mg X.base CX k f fd ps sp)(hr:Room k X.A)(g:Gl X x)(hm:X.mg x=some (.ref f))(i:W.keepIn X.K (.ref f)=true)(j:Binds X.K fd ps ds)(hd:Vals dvs ds)(l:z1w CX X E)
  (m:PA X (e::es) t) (b:Vx x:=by decide) (n:cx (e::es) X.env=(false,eval e X.env)::cx es X.env:=by rfl) (c:(iz pos (cx es X.env)).any (·.1)=false:=by rfl):
  PE X (.Call (.Name x p) (e::es) [] pos) (hW sp dvs E t):=by
 intro a s o H Q I h;refine il (z4p I g hm ?_ b);refine W.callWith_K I.ok.mod.pV i (aI (m pos a s o H _ I h) λu v ⟨y,H1,d,r,q⟩=>⟨d.cH,?_⟩) n c;exact za9 F hr j hd l d r q
structure Mk (K:W.Frag)(C f:Addr):Prop where
 makes:W.makesIn K C=true
 init:W.findIn K (.ref C) "__init__"=some (some (.ref f))
 fn:W.isFn K (.ref f)=true
 kp:W.keepIn K (.ref C)=true
theorem zgu (M:Mk X.K C f)(F:FnOk X.prog X.w X.K X.mg X.base CX k f fd ps sp)(hr:Room (k+1) X.A)(m:Binds X.K fd ps ds)(hd:Vals dvs ds)
  (n:z1w CX X E) (I:Inv X b g H s) (r:Vals i c)
  (h:∀x dx,H x=none->H dx=none->dx≠x->sp (.ref x::(i++dvs)) (upd (upd H dx (.own x)) x (.ins C dx [])) (λv o=>v=.aK/\Q (.ref x) o) E):
  wpAny (model X.prog X.w) X.A (call (.ref C) c) (EP X b g Q) X.xe s:=by
 have j:=h (s.heap.objs.size+1) s.heap.objs.size (I.hok.fresh (i5 _)) (I.hok.fresh (ae _)) (cb (i9 _));have d:=Inv.made (C:=C) I;have l:Vals (V.ref (s.heap.objs.size+1)::(i++dvs)) (Value.ref (s.heap.objs.size+1)::(c++ds)):=.cons rfl (r.append hd);have p:(Value.ref (s.heap.objs.size+1)::c++ds).length=ps.length:=by have e:=l.length;rw[F.len _ _ _ _ j]at e;exact e.symm
 refine mn (zi3 I.cH M.makes M.init (q8 M.fn) (ij (F.run _ X.stack _ _ ⟨Value.ref (s.heap.objs.size+1)::c,[]⟩ (Value.ref (s.heap.objs.size+1)::(c++ds)) _ _ E (hr.make C c []) (d.oG.make C c []) (m _ (Value.ref (s.heap.objs.size+1)::c) d.cH p) l j) λr q a=>?_));cases r with
 |error e=>exact n b g _ _ e q d a
 |ok fl=>
  cases fl with
  |ret u=>obtain⟨v,t,y,z,rfl,B⟩:=d.after a;exact⟨z,V.ref (s.heap.objs.size+1),t,y,rfl,B⟩
  |next=>exact False.elim a
  |brk=>exact False.elim a
  |cont=>exact False.elim a
theorem zmt (M:Mk X.K C f)(F:FnOk X.prog X.w X.K X.mg X.base CX k f fd ps sp)(hr:Room (k+1) X.A)(g:Gl X x)(hm:X.mg x=some (.ref C))(i:Binds X.K fd ps ds)(hd:Vals dvs ds)(j:z1w CX X E)
  (l:PA X (e::es) t) (b:Vx x:=by decide) (m:cx (e::es) X.env=(false,eval e X.env)::cx es X.env:=by rfl) (c:(iz pos (cx es X.env)).any (·.1)=false:=by rfl):
  PE X (.Call (.Name x p) (e::es) [] pos) (uV C sp dvs E t):=by
 intro a s n H Q I h;refine il (z4p I g hm ?_ b);refine W.callWith_K I.ok.mod.pV M.kp (aI (l pos a s n H _ I h) λo u ⟨v,H1,d,r,q⟩=>⟨d.cH,?_⟩) m c;exact zgu M F hr i hd j d r q
end
def PK (X:Cx)(yb:List kx)(t:TA):Prop:=∀(pos:Pos) (pins:List (Addr×Obj)) (s:az) (σ:St) (H:Hp) (Q:List V->Hp->Prop),Inv X pins σ H s->t σ H Q->wpAny (model X.prog X.w) X.A (evalAll ((l4 pos (jr yb X.env)).map (·.2))) (AP X pins σ Q) X.xe s
section
variable {fd:dt}{ps ks:List Str}
theorem LK:PK X [] eE:=λ_ _ _ _ H Q I h=>wpAny_evalAll_nil ⟨[],H,I,.nil,h⟩
theorem LL (c:PE X e te)(hr:PK X yb t):PK X (⟨nm,e,LM⟩::yb) (lT te t):=by intro pos a s b H Q I h;refine wpAny_evalAll_cons (aa (aI (c a s b H _ I h) λu d ⟨x,H1,f,g,i⟩=>aa (gf (bb ?_))));exact aI (hr pos a d b H1 _ f i) λo p ⟨j,k,l,m,n⟩=>⟨x::j,k,l,.cons g m,n⟩
structure KBinds (K:W.Frag)(fd:dt)(ps ks:List Str)(g:List Value->List Value->List Value)(gV:List V->List V->List V):Prop where
 to:∀(s:az) (us ws:List Value),K.In s.heap->(g us ws).length=ps.length->oa s fd ⟨us,ks.zip ws⟩ (ps.zip (g us ws))
 rel:∀{vs:List V} {us:List Value} {zs:List V} {ws:List Value},Vals vs us->Vals zs ws->Vals (gV vs zs) (g us ws)
theorem zl5 (F:FnOk X.prog X.w X.K X.mg X.base CX k f fd ps sp)(hr:Room k X.A)(i:KBinds X.K fd ps ks g gV)(n:z1w CX X E)
  (I:Inv X a j H s) (r:Vals vs c) (rz:Vals l d) (h:sp (gV vs l) H Q E):wpAny (model X.prog X.w) X.A (call (.ref f) c (ks.zip d)) (EP X a j Q) X.xe s:=by
 have m:=i.rel r rz;refine mn (ij (F.run X.A X.stack s H ⟨c,ks.zip d⟩ (g c d) (gV vs l) Q E hr I.oG (i.to s c d I.cH (m.length▸F.len _ _ _ _ h)) m h) λr o b=>?_);cases r with
 |error e=>exact n a j H s e o I b
 |ok fl=>
  cases fl with
  |ret u=>exact I.after b
  |next=>exact False.elim b
  |brk=>exact False.elim b
  |cont=>exact False.elim b
end
structure FnScope (N P:List Str)(sc:Scope):Prop where
 kind:sc.kind=.function
 co:sc.isCoroutine=false
 gen:sc.isGenerator=false
 nd:N.Nodup
 pre:N.take P.length=P
 par:∀x∈P,sc.names.lookup x=some .local\/sc.names.lookup x=some .cell
 rN:∀y∈sc.names,y.2≠.free
theorem E8 {a:Str->Option ek}:∀{binds:List (Str×Value)} {m:Str->Option Value},(∀v,(x,v)∉binds)->bindL a binds m x=m x
 | [],_,_=>rfl
 |(n,v)::r,m,h=>by
  unfold bindL;rw[E8 λw b=>h w (ay _ b)];split
  ·have :x≠n:=by rintro rfl;exact h v bj
   simp[this]
  ·rfl
theorem E9 {a:Str->Option ek}:∀{binds:List (Str×Value)} {m:Str->Option Value},(∀v,(x,v)∉binds)->bindC a binds m x=m x
 | [],_,_=>rfl
 |(n,v)::r,m,h=>by
  unfold bindC;rw[E9 λw b=>h w (ay _ b)];split
  ·rfl
  ·have :x≠n:=by rintro rfl;exact h v bj
   simp[this]
theorem z77 {a:Str->Option ek}:∀{P:List Str} {b:List Value} {i:Nat} {m:Str->Option Value},P.Nodup->P[i]?=some x->b[i]?=some v->a x=some .local->
  bindL a (P.zip b) m x=some v
 | [],_,_,_,_,h,_,_=>by simp at h
 |_::_,[],_,_,_,_,h,_=>by simp at h
 |p::P,w::b,0,m,nd,c,d,e=>by simp at c d;subst c;subst d;show bindL a ((p,w)::P.zip b) m p=_;unfold bindL;rw[E8 λv f=>(du.mp nd).1 (nh f).1,qt e];simp
 |p::P,w::b,i+1,m,nd,c,d,e=>by show bindL a ((p,w)::P.zip b) m x=_;exact z77 (du.mp nd).2 (by simpa using c) (by simpa using d) e
theorem z80 {a:Str->Option ek}:∀{P:List Str} {b:List Value} {i:Nat} {m:Str->Option Value},P.Nodup->P[i]?=some x->b[i]?=some v->a x≠some .local->
  bindC a (P.zip b) m x=some v
 | [],_,_,_,_,h,_,_=>by simp at h
 |_::_,[],_,_,_,_,h,_=>by simp at h
 |p::P,w::b,0,m,nd,c,d,e=>by simp at c d;subst c;subst d;show bindC a ((p,w)::P.zip b) m p=_;unfold bindC;rw[E9 λv f=>(du.mp nd).1 (nh f).1,qu e];simp
 |p::P,w::b,i+1,m,nd,c,d,e=>by show bindC a ((p,w)::P.zip b) m x=_;exact z80 (du.mp nd).2 (by simpa using c) (by simpa using d) e
def start (N:List Str)(vs:List V):St:=vs.map some++ao (N.length-vs.length) none
def gT (CX:CXT)(P:cj)(w:World)(K:W.Frag)(mg:Str->Option Value)(base:Heap)(N:List Str)(qual:Str)(scope:Scope)(f:Addr)(cd:Value)(A:fk)(outer:List Env)(s:az)(H:Hp)(E:XK):Cx where
 prog:=P
 w:=w
 K:=K
 mg:=mg
 base:=base
 A:=A.deeper (n5 qual scope s.heap.objs.size f cd)
 N:=N
 s₀:=s
 gR:=H
 env:=n5 qual scope s.heap.objs.size f cd
 outer:=outer
 stack:=n5 qual scope s.heap.objs.size f cd::outer
 ex:=[]
 calm:=true
 fn:=λ_=>true
 pn:=[]
 xe:=λe s'=>wpAny (model P w) (A.deeper (n5 qual scope s.heap.objs.size f cd)) (qi (n5 qual scope s.heap.objs.size f cd) e) (λ_ rO=>CX outer H s E e rO) (λe' rO=>CX outer H s E e' rO) s'
theorem Fb {sc:Scope}(h:sc.names.lookup x=some .cell):∃c,(cellsFrom n sc.names []).lookup x=some c:=by exact Option.isSome_iff_exists.mp (W.cellsFrom_some sc.names n [] (.inl h))
theorem zda {K:W.Frag}
  (S:FnScope N ps scope) (hd:A.handled=none) (j:jW P w K mg base A outer s H) (O:n.length=ps.length) (r:Vals n D)
  (x:InCallC s s.heap.objs.size (bindL (n5 g scope s.heap.objs.size f cd).kindOf (ps.zip D) λ_=>none) (cellsFrom (s.heap.objs.size+1) scope.names []) (bindC (n5 g scope s.heap.objs.size f cd).kindOf (ps.zip D) λ_=>none) G):
  Inv (gT I P w K mg base N g scope f cd A outer s H E) [] (start N n) H G:=by
 have J:=by have:=congrArg lq S.pre;rw[c9]at this;omega
 obtain⟨B,Q,rfl,F⟩:=x.done;have l:∀b,b∉(gT I P w K mg base N g scope f cd A outer s H E).ex:=λb z=>absurd (show b∈([]:List Addr)from z) (by simp);refine⟨⟨j.mod,S.kind,rfl,rfl,ae _,λy z c B d=>?_,λy m=>?_,λy c _ h=>?_,λ_=>hd,Around.frames_deeper j.frames,.inr ⟨rfl,rfl⟩,λb z=>absurd z (l b),j.bs,j.iK,λb _ _=>l b,λb z=>absurd z (l b),j.bZ,j.lQ,λ_ _ z=>by cases z⟩,rfl,j.bare,Un.kept F,⟨_,x.toInCall.ns,λi y v B d R=>?_⟩,λy c h=>⟨_,x.cell y c h⟩,j.hok.fresh (ae _),λy c h=>?_,λp o=>absurd (show p∈([]:List (Addr×Obj))from o) (by simp),j.hok.kept F,?_,λ_ _ z=>by cases z⟩
 ·exact name_of_addr x.apart (PySem.mem_of_lookup B) (PySem.mem_of_lookup d)
 ·have m:scope.names.lookup y=some .cell\/scope.names.lookup y=some .free:=m;rcases m with m|m
  ·exact Fb m
  ·exact absurd rfl (S.rN _ (PySem.mem_of_lookup m))
 ·exact gv (x.above y c (PySem.mem_of_lookup h))
 ·have C:i<n.length:=by
   unfold start at d;by_cases C:i<n.length
   ·exact C
   ·rw[dj (by simpa using C)]at d;rw[cc]at d;split at d<;>cases d
  have L:n[i]?=some v:=by
   unfold start at d;rw[dn (by simpa using C),av]at d;cases e:n[i]? with
   |none=>rw[e]at d;cases d
   |some a=>rw[e]at d;cases d;rfl
  obtain⟨u,hu,M⟩:=r.get L;have o:ps[i]?=some y:=by rw[<-S.pre,gy (by omega)];exact B
  have t:ps.Nodup:=S.pre▸S.nd.sublist (lr _ _);refine⟨u,M,?_⟩;rcases S.par y (aw o)with k|k
  ·exact .inl ⟨k,z77 t o hu k⟩
  ·obtain⟨c,e⟩:=Fb k;refine .inr ⟨.inl k,c,e,?_⟩;have q:=x.cell y c e;rw[z80 t o hu (by show scope.names.lookup y≠_;rw[k];decide)]at q;exact q
 ·exact j.hok.fresh (gv (x.above y c (PySem.mem_of_lookup h)))
 ·unfold start;show _=N.length;rw[bf,am,bw];omega
theorem zn9 {K:W.Frag}{kV:Value}
  (O:K.lookup f=some ⟨oc,od,.func (W.fnOf m a params g scope R kV C T an c ct),U⟩) (D:W.codeIn K c a=true) (S:FnScope N ps scope)
  (len:∀h H Q E,I h H Q E->h.length=ps.length)
  (j:∀A outer s H h Q E,Room k (A.deeper (n5 a scope s.heap.objs.size f c))->I h H Q E->∃t,PSs (gT L P w K mg base N a scope f c A outer s H E) g t/\t {nx:=λ_ i=>Q .aK i,rt:=Q} (start N h) H):
  FnOk P w K mg base L (k+1) f (W.fnOf m a params g scope R kV C T an c ct) ps I:=by
 refine⟨len,λA outer s H args X h Q E hr p Y r z=>?_⟩;have M:=p.mod.pV.keeps λb o e=>(p.bs b o e).1
 have l:∀y∈ps.zip X,scope.names.lookup y.1=some .local\/(scope.names.lookup y.1=some .cell/\((cellsFrom (s.heap.objs.size+1) scope.names []).lookup y.1).isSome=true):=λ⟨n,v⟩ hy=>by
  rcases S.par n (nh hy).1 with q|q
  ·exact .inl q
  ·exact .inr ⟨q,W.cellsFrom_some _ _ _ (.inl q)⟩
 refine codeAny_call_function hr.depth (M _ _ O) rfl S.co S.gen rfl (W.codeRec_of M D) (Y _ _ _ _ ?_);refine wpAny_newFunctionEnv_cells S.kind l λenv he s1 x=>?_;subst he;refine⟨(p.mod.nolimit.keeps λb o e=>(p.bs b o e).1).keeps x.toInCall.keep,codeAny_func ?_⟩;obtain⟨t,ht,hq⟩:=j A outer s H h Q E (hr.deeper _) z;refine fm (ht [] s1 (start N h) H _ (zda S hr.hd p (len _ _ _ _ z) r x) hq) (λfl F hs=>?_) λe F hs=>hs;have B:∀{d:St} {i:Hp} {v:V} {u:Value},Inv (gT L P w K mg base N a scope f c A outer s H E) [] d i F->RelV v u->Q v i->CE outer P w H s Q u F:=λ{d i v u} J G q=>⟨v,i,J.os,J.bare,J.base,J.hok,G,q⟩;cases fl with
 |ret u=>obtain⟨v,d,i,J,G,q⟩:=hs;exact B J G q
 |next=>obtain⟨d,i,J,q⟩:=hs;exact B (v:=V.aK) J rfl q
 |brk=>obtain⟨_,_,_,q⟩:=hs;exact False.elim q
 |cont=>obtain⟨_,_,_,q⟩:=hs;exact False.elim q
section
variable {X:Cx}{x:Str}{p pos:Pos}{e:Expr}{es:List Expr}{t:TA}{id:String}{r:List V->Hp->VK->Prop}
def jX (r:List V->Hp->VK->Prop)(t:TA):TE:=λσ H Q=>t σ H λvs H1=>r vs H1 Q
theorem zh3 (f:CallR X (.builtin id) r)(g:Gl X x)(hm:X.mg x=none)(i:c7 x=some (.builtin id))(j:PA X (e::es) t)(hn:x≠"__name__":=by decide)(b:Vx x:=by decide)
  (k:cx (e::es) X.env=(false,eval e X.env)::cx es X.env:=by rfl) (c:(iz pos (cx es X.env)).any (·.1)=false:=by rfl):PE X (.Call (.Name x p) (e::es) [] pos) (jX r t):=by
 intro a s d H Q I h;refine il (z2k I g hm i ?_ hn b);exact PyProof.Rows.callWith_builtin1 (aI (j pos a s d H _ I h) λl m ⟨n,H1,o,q,u⟩=>f a m d H1 n l Q o q u) k c
theorem zce (f:CallR X (.type T) r)(g:Gl X x)(hm:X.mg x=none)(i:c7 x=some (.type T))(j:PA X (e::es) t)(hn:x≠"__name__":=by decide)(b:Vx x:=by decide)
  (k:cx (e::es) X.env=(false,eval e X.env)::cx es X.env:=by rfl) (c:(iz pos (cx es X.env)).any (·.1)=false:=by rfl):PE X (.Call (.Name x p) (e::es) [] pos) (jX r t):=by
 intro a s d H Q I h;refine il (z2k I g hm i ?_ hn b);exact PyProof.Rows.callWith_type1 (aI (j pos a s d H _ I h) λl m ⟨n,H1,o,q,u⟩=>f a m d H1 n l Q o q u) k c
end
section
variable {κ:Type} [DecidableEq κ]
def cQ (kvs:List (κ×V))(k:κ):Option V:=(kvs.find? λkv=>decide (kv.1=k)).map (·.2)
def putK (kvs:List (κ×V))(k:κ)(v:V):List (κ×V):=if(kvs.any λkv=>decide (kv.1=k))=true then kvs.map (λkv=>if kv.1=k then(kv.1,v)else kv)else kvs++[(k,v)]
theorem yc {p:κ×V}(e:p.1=k):cQ (p::r) k=some p.2:=by simp[cQ,d7,e]
theorem yd {p:κ×V}(e:¬p.1=k):cQ (p::r) k=cQ r k:=by simp[cQ,d7,e]
theorem Fe (k:κ):∀kvs,(kvs.any λa=>decide (a.1=k))=(cQ kvs k).isSome
 | []=>rfl
 |p::r=>by
  rw[gz];by_cases e:p.1=k
  ·simp only[yc e,qy e,Bool.true_or,Option.isSome_some]
  ·rw[yd e,decide_eq_false e];exact Fe k r
theorem An (kvs:List (κ×V))(k:κ)(v:V):(putK kvs k v).length<=kvs.length+1:=by
 unfold putK;split
 ·rw[am];omega
 ·rw[bf,bh,List.length_nil];omega
theorem cG.cC (r:cG o u):o.isSome=u.isSome:=by
 cases o with
 |none=>cases u with
  |none=>rfl
  |some _=>exact r.elim
 |some _=>cases u with
  |none=>exact r.elim
  |some _=>rfl
theorem cG.getD (r:cG o u)(rd:RelV d a):RelV (o.getD d) (u.getD a):=by
 cases o with
 |none=>cases u with
  |none=>exact rd
  |some _=>exact r.elim
 |some _=>cases u with
  |none=>exact r.elim
  |some _=>exact r
theorem KV.val (r:KV kvs f)(k:κ):cG (cQ kvs k) (pi f k):=by
 induction r with
 |nil=>exact True.intro
 | @cons p q ps a h t g=>
  obtain⟨d,i⟩:=h;by_cases e:p.1=k
  ·have c:q.1=k:=d.symm.trans e;have b:pi (q::a) k=some q.2:=by simp[pi,d7,c]
   rw[yc e,b];exact i
  ·have c:¬q.1=k:=λz=>e (d.trans z);have b:pi (q::a) k=pi a k:=by simp[pi,d7,c]
   rw[yd e,b];exact g
theorem KV.any (r:KV kvs b)(k:κ):(kvs.any λa=>decide (a.1=k))=b.any λa=>decide (a.1=k):=by
 induction r with
 |nil=>rfl
 |cons h t c=>rw[gz,gz,c,h.1]
theorem KV.repl (r:KV kvs c)(k:κ)(d:RelV y u):
  KV (kvs.map λa=>if a.1=k then(a.1,y)else a) (c.map λa=>if a.1=k then(a.1,u)else a):=by
 induction r with
 |nil=>exact .nil
 | @cons p q ps i h t f=>
  rw[bn,bn];refine .cons ?_ f;obtain⟨b,g⟩:=h;by_cases e:p.1=k
  ·rw[qt e,qt (b.symm.trans e)];exact⟨b,d⟩
  ·rw[qu e,qu (λz=>e (b.trans z))];exact⟨b,g⟩
theorem KV.put (r:KV kvs a)(k:κ)(b:RelV y u):KV (putK kvs k y) (stored a k u):=by
 unfold putK stored;rw[r.any k];by_cases e:(a.any λc=>decide (c.1=k))=true
 ·rw[qt e,qt e];exact r.repl k b
 ·rw[qu e,qu e];exact Paired.snoc r ⟨rfl,b⟩
theorem KV.length (r:KV kvs vs):kvs.length=vs.length:=Paired.length r
end
theorem rP (r:RelV (kV k) u):(gQ P w).is k u=true:=by
 cases k with
 |inl i=>obtain⟨t,e⟩:=r;subst e;exact KJ P w i t
 |inr x=>obtain⟨t,e⟩:=r;subst e;exact KN P w x t
theorem Ff:∀{ks:List Key} {a:List Value},Vals (ks.map kV) a->ItemsAre (gQ P w) ks a
 | [],_,r=>by rw[List.map_nil]at r;cases r;exact .nil
 |k::ks,_,r=>by
  cases r with
  |cons h t=>exact .cons (rP h) (Ff t)
abbrev KT (H:Hp):List (List Key×V)->List (List Key×Addr×Value)->Prop:=jw λp q=>p.1=q.1/\H q.2.1=some (.tup (p.1.map kV))/\RelV p.2 q.2.2
theorem KT.val (r:KT H kvs xs)(k:List Key):cG (cQ kvs k) ((atKey xs k).map (·.2)):=by
 induction r with
 |nil=>exact True.intro
 | @cons p q ps a h t f=>
  obtain⟨d,_,g⟩:=h;by_cases e:p.1=k
  ·have c:q.1=k:=d.symm.trans e;have b:atKey (q::a) k=some q.2:=by simp[atKey,d7,c]
   rw[yc e,b];exact g
  ·have c:¬q.1=k:=λz=>e (d.trans z);have b:atKey (q::a) k=atKey a k:=by simp[atKey,d7,c]
   rw[yd e,b];exact f
theorem KT.repl (r:KT H kvs d)(k:List Key)(f:RelV y u):
  KT H (kvs.map λb=>if b.1=k then(b.1,y)else b) (d.map (putAt k u)):=by
 induction r with
 |nil=>exact .nil
 | @cons p q ps j h t g=>
  rw[bn];refine .cons ?_ g;obtain⟨a,c,i⟩:=h;unfold putAt;by_cases e:p.1=k
  ·rw[qt e,qt (a.symm.trans e)];exact⟨a,c,f⟩
  ·rw[qu e,qu (λz=>e (a.trans z))];exact⟨a,c,i⟩
theorem KT.put (r:KT H kvs a)(k:List Key)(d:H b=some (.tup (k.map kV)))(c:RelV y u):
  KT H (putK kvs k y) (storedH a k b u):=by
 have e:(kvs.any λf=>decide (f.1=k))=(atKey a k).isSome:=by rw[Fe,(r.val k).cC,i0]
 unfold putK storedH;rw[e];by_cases q:(atKey a k).isSome=true
 ·rw[qt q,qt q];exact r.repl k c
 ·rw[qu q,qu q];exact Paired.snoc r ⟨rfl,d,c⟩
theorem KT.keeps (r:KT H kvs c)(d:∀b a,H b=some (.tup a)->e b=some (.tup a)):KT e kvs c:=Paired.uE r λ_ _ z=>⟨z.1,d _ _ z.2.1,z.2.2⟩
theorem Fg (ok:HOk P w H h)(e:Rd H a u):z14 P w H h a u:=e.ok ok
theorem rQ (ok:HOk P w H h)(e:Rd H a (.dK kvs)):kvs.length<=au/\(a==i4)=false/\∃b,KV kvs b/\h.DictOf (gQ P w) a b:=show z14 P w H h a (.dK kvs)from Fg ok e
theorem ye (ok:HOk P w H h)(e:H a=some (.dK kvs)):kvs.length<=au/\(a==i4)=false/\∃b,KV kvs b/\h.DictOf (gQ P w) a b:=rQ ok (.inl e)
theorem tT (ok:HOk P w H h)(e:H a=some (.tup (ks.map kV))):(l0 (gQ P w)).is h ks a:=by obtain⟨_,b,r,n,c⟩:=(ok a _ e);exact⟨_,b.toArray,n,c,rfl,rfl,by simpa using Ff r⟩
theorem zbb (ok:HOk P w H h)(e:Rd H a (.dT kvs)):kvs.length<=au/\(a==i4)=false/\
  ∃c,KT H kvs c/\h.DictOfH (l0 (gQ P w)) a c:=by
 obtain⟨z,y,c,r,o,es,ep,f,g,i,j,k⟩:=(Fg ok e);refine⟨z,y,c,r,o,es,ep,f,g,i,j,λx b=>?_,k⟩
 have all:∀{l:List (List Key×V)} {m:List (List Key×Addr×Value)},KT H l m->∀x∈m,(l0 (gQ P w)).is h x.1 x.2.1:=by
  intro l m q
  induction q with
  |nil=>intro x b;exact nomatch b
  | @cons p q ps s d t n=>
   intro x b;rcases ax.mp b with e|b
   ·subst e;exact tT ok (d.1▸d.2.1)
   ·exact n x b
 exact all r x b
theorem LN (ok:HOk P w H h)(e:H a=some (.dT kvs)):kvs.length<=au/\(a==i4)=false/\∃b,KT H kvs b/\h.DictOfH (l0 (gQ P w)) a b:=zbb ok (.inl e)
def DGet (H:Hp)(a:Addr)(y:V)(r:Option V):Prop:=(∃kvs k,Rd H a (.dK kvs)/\y=kV k/\r=cQ kvs k)\/∃kvs k b,Rd H a (.dT kvs)/\y=.ref b/\H b=some (.tup (k.map kV))/\r=cQ kvs k
def DPut (H:Hp)(a:Addr)(y v:V)(H':Hp):Prop:=
 (∃kvs k,H a=some (.dK kvs)/\y=kV k/\kvs.length<au/\H'=upd H a (.dK (putK kvs k v)))\/
 ∃kvs k b,H a=some (.dT kvs)/\y=.ref b/\H b=some (.tup (k.map kV))/\kvs.length<au/\H'=upd H a (.dT (putK kvs k v))
theorem DGet.k {k:Key}(e:H a=some (.dK kvs)):DGet H a (kV k) (cQ kvs k):=.inl ⟨kvs,k,.inl e,rfl,rfl⟩
theorem Inv.big (I:Inv X pins σ H s):i4<s.heap.objs.size:=by exact ky dc ((I.mod.glob.keeps I.bk).lt)
theorem zcu (hu:A.units+1<cLine)(I:Inv X pins σ H s)(g:DGet H a y (some v))(n:RelV y u)(h:∀d o,Inv X pins σ H o->RelV v d->Q d o):
  wpAny (model X.prog X.w) A (pj (.ref a) u) Q E s:=by
 rcases g with⟨kvs,k,e,f,l⟩|⟨kvs,k,b,e,f,q,l⟩
 ·subst f;obtain⟨z,hd,t,rel,i⟩:=rQ I.hok e;obtain⟨d,j,c⟩:=cG.some_of (l▸rel.val k);exact wpAny_getItem_of (rP n) i.mapOf j (h d _ (I.tok _) c)
 ·subst f;cases n;obtain⟨z,hd,x,rel,i⟩:=zbb I.hok e;obtain⟨d,j,c⟩:=cG.some_of (l▸rel.val k);obtain⟨p,r,m⟩:=bx.mp j;refine wpAny_getItem_heap (ip hu) (tT I.hok q) i r ?_;rw[m];exact h d _ (I.tok _) c
theorem d_in (hu:A.units+1<cLine)(I:Inv X pins σ H s)(g:DGet H a y o)(f:RelV y u)(h:∀i,Inv X pins σ H i->Q (.bool o.isSome) i):
  wpAny (model X.prog X.w) A (cw .In u (.ref a)) Q E s:=by
 rcases g with⟨kvs,k,e,c,l⟩|⟨kvs,k,b,e,c,j,l⟩
 ·subst c;obtain⟨z,hd,m,rel,d⟩:=rQ I.hok e;refine wpAny_in_of (rP f) hd d.mapOf ?_;rw[<-(rel.val k).cC,<-l];exact h _ (I.tok _)
 ·subst c;cases f;obtain⟨z,hd,n,rel,d⟩:=zbb I.hok e;refine wpAny_in_heap (ip hu) (tT I.hok j) hd d ?_;have q:=(rel.val k).cC;rw[i0]at q;rw[<-q,<-l];exact h _ (I.tok _)
theorem zkn (hu:A.units+1<cLine)(I:Inv X pins σ H s)(g:DGet H a y o)(f:RelV y u)(h:∀i,Inv X pins σ H i->Q (.bool (!o.isSome)) i):
  wpAny (model X.prog X.w) A (cw .NotIn u (.ref a)) Q E s:=by
 rcases g with⟨kvs,k,e,c,l⟩|⟨kvs,k,b,e,c,j,l⟩
 ·subst c;obtain⟨z,hd,m,rel,d⟩:=rQ I.hok e;refine wpAny_notIn_of (rP f) hd d.mapOf ?_;rw[<-(rel.val k).cC,<-l];exact h _ (I.tok _)
 ·subst c;cases f;obtain⟨z,hd,n,rel,d⟩:=zbb I.hok e;refine wpAny_notIn_heap (ip hu) (tT I.hok j) hd d ?_;have q:=(rel.val k).cC;rw[i0]at q;rw[<-q,<-l];exact h _ (I.tok _)
theorem z9a (I:Inv X pins σ H s)(d:Mut (H a))(hs:gb a s.heap c)(e:∃q,c.get? a=some q)(new:z14 X.prog X.w (upd H a ob) c a ob):
  Inv X pins σ (upd H a ob) {s with heap:=c,toks:=t'}:=
 I.write d (.inl rfl) (λb q f z=>(hs.2 b f).trans z) e new
theorem Fh (z:kvs.length<=au)(hd:(a==i4)=false)(rel:KV kvs b)(c:d.DictOf (gQ P w) a b): z14 P w e d a (.dK kvs):=⟨z,hd,b,rel,c⟩
theorem zfj (hu:A.units+1<cLine)(I:Inv X pins σ H s)(g:DPut H a y v B)(n:RelV y u)(o:RelV v r)(h:∀p,Inv X pins σ B p->Q () p):
  wpAny (model X.prog X.w) A (setItem (.ref a) u r) Q E s:=by
 rcases g with⟨kvs,k,e,i,l,j⟩|⟨kvs,k,b,e,i,t,l,j⟩
 ·subst i j;obtain⟨z,hd,C,rel,m⟩:=ye I.hok e;have D:C.length<=au:=rel.length▸z;exact wpAny_setItem_pairs (rP n) m λF d hs=>h _ (z9a I (e▸True.intro) hs (let⟨q,_,_,f,_⟩:=d;⟨q,f⟩) (Fh (by have:=An kvs k v;omega) hd (rel.put k o) d))
 ·subst i j;cases n;obtain⟨z,hd,G,rel,m⟩:=LN I.hok e;have D:G.length<=au:=Paired.length rel▸z;refine wpAny_setItem_heap (ip hu) (tT I.hok t) m λF d hs=>h _ ?_;obtain⟨q,es,ep,f,J,K,L,_,M⟩:=d;refine z9a I (e▸True.intro) hs ⟨q,f⟩ ⟨(by have:=An kvs k v;omega),hd,_,(rel.put k t o).keeps λc N x=>?_,q,es,ep,f,J,K,L,M⟩;rw[aE (KO x e (λz=>nomatch z))];exact x
theorem LO (I:Inv X pins σ H s)(e:Rd H a (.dK kvs))(h:∀t b,Inv X pins σ H b->Q (.int kvs.length t) b):wpAny (model X.prog X.w) A (call (.builtin "len") [.ref a]) Q E s:=by obtain⟨z,hd,d,rel,c⟩:=rQ I.hok e;refine call_len_dict hd c (by rw[<-rel.length];rw[c8]at z;omega) ?_;rw[<-rel.length];exact h _ _ (I.tok _)
theorem LP (I:Inv X d f H s)(g:DGet H a y o):s.TypeIs (.ref a) "dict":=by
 rcases g with⟨kvs,k,e,_,_⟩|⟨kvs,k,b,e,_,_,_⟩
 ·obtain⟨_,_,h,_,c⟩:=rQ I.hok e;exact c.typeIs
 ·obtain⟨_,_,i,_,c⟩:=zbb I.hok e;exact c.typeIs
theorem Fi (h:Heap)(a:i4<h.objs.size):z14 P w H (h.push {cls:=.type "dict",data:=.dict #[]}) h.objs.size (.dK []):=⟨db _,beq_eq_false_iff_ne.mpr (Ne.symm (cb a)),[],.nil,Heap.DictOf.new h⟩
def Fj:TE:=λ_ H Q=>∀p,H p=none->Q (.ref p) (upd H p (.dK []))
theorem Fo:PE X (.Dict [] [] pos) Fj:=λa s b H Q I h=>wpAny_Dict_empty ⟨.ref s.heap.objs.size,_,I.laid (λ_ _ q=>ak _ q) (ae _) (Fi s.heap I.big),rfl,h _ (I.hok.fresh (ae _))⟩
structure M1 (X:Cx)(o:Expr)(m:Str)(apos:Pos)(e:Expr)(bD:Pos):Prop where
 base:jg o m X.env (eval o X.env)=eval o X.env
 Fp:((iz bD (cx [e] X.env)).all (λx=> !x.1)&&(l4 bD (jr [] X.env)).all (λx=>x.1.isSome) &&decide (([e]:List Expr).length+([]:List kx).length+(if([]:List kx).isEmpty then 0 else 1)<30))=true
 line:(apos.endLine==bD.line)=true
 trees:iz bD (cx [e] X.env)=[(false,eval e X.env)]
theorem zpo (hu:A.units+1<cLine)(I:Inv X pins σ H s)(g:DGet H a y o)(i:RelV y u)(rd:RelV d r)(h:∀j m,Inv X pins σ H m->RelV (o.getD d) j->Q j m):
  wpAny (model X.prog X.w) A (call (.builtin "dict.get") [.ref a,u,r]) Q E s:=by
 rcases g with⟨kvs,k,e,f,l⟩|⟨kvs,k,b,e,f,n,l⟩
 ·subst f;obtain⟨z,hd,q,rel,c⟩:=rQ I.hok e;refine pp PySem.F.slot_dict_get c.typeIs PySem.F.entry_dict_get (PySem.F.args_dict_get_3 _ _ _) (meets_dict_get_default (gQ X.prog X.w) a (rP i) hd r) ⟨_,c.mapOf,h _ _ (I.tok _) ?_⟩;rw[l];exact(rel.val k).getD rd
 ·subst f;cases i;obtain⟨z,hd,p,rel,c⟩:=zbb I.hok e;refine pp PySem.F.slot_dict_get c.typeIs PySem.F.entry_dict_get (PySem.F.args_dict_get_3 _ _ _) (meetsH_dict_get_default (l0 (gQ X.prog X.w)) a b hd r) ⟨ip hu,k,p,tT I.hok n,c,h _ _ (I.tok _) ?_⟩;rw[l];exact(rel.val k).getD rd
end L2
namespace HT
open PySem PyProof.Rows
theorem cat_tup (r:IsTup s.heap t d.toArray)(u:IsTup s.heap b a.toArray)(o:d≠[])
  (v:a=[]->Q (.ref t) s) (x:a≠[]->Q (.ref s.heap.objs.size) {s with heap:=s.heap.push {cls:=.type "tuple",data:=.seq (d++a).toArray}})
  (j:d.length+a.length<=au):wpAny (model prog w) A (fy .Add (.ref t) (.ref b)) Q E s:=by
 obtain⟨⟨cls,p,data,sl⟩,h,y,n,hd⟩:=id r;obtain⟨⟨q,f,k,g⟩,c,l,n2,m⟩:=id u;subst y hd l m;have e:d.toArray++a.toArray=(d++a).toArray:=by simp
 by_cases i:a=[]
 ·exact mo ⟨_,h,rfl⟩ ⟨_,c,rfl⟩ l5 oy PySem.F.slot_tuple_add PySem.F.entry_tuple_add (PySem.F.args_tuple_add_2 _ _) (tuple_addW1 t b d.toArray a.toArray n n2 p f sl g (by simpa using o) (by simp[i])) ⟨h,c,v i⟩
 ·refine mo ⟨_,h,rfl⟩ ⟨_,c,rfl⟩ l5 oy PySem.F.slot_tuple_add PySem.F.entry_tuple_add (PySem.F.args_tuple_add_2 _ _)
   (tuple_addW2 t b d.toArray a.toArray n n2 p f sl g (by simpa using o) (by simpa using i) (bz▸j)) ⟨h,c,?_⟩
  rw[e];exact x i
def aZ (n d:Nat):Option Int->Nat
 |none=>d
 |some v=>if v<0 then(v+(n:Int)).toNat else min v.toNat n
theorem rR (n d:Nat)(hd:d<=n)(o:Option Int):aZ n d o<=n:=by
 cases o with
 |none=>exact hd
 |some v=>
  show(if v<0 then(v+n).toNat else min v.toNat n)<=n;by_cases a:v<0
  ·rw[qt a];omega
  ·rw[qu a];exact Nat.min_le_right _ _
theorem Fq (v:Int)(n d:Nat):(if v<0 then max (v+(n:Int)) 0 else min v (n:Int))=((aZ n d (some v):Nat):Int):=by
 show(if v<0 then max (v+n) 0 else min v n)=(((if v<0 then(v+n).toNat else min v.toNat n):Nat):Int);by_cases a:v<0
 ·simp only[qt a];omega
 ·simp only[qu a];omega
theorem LQ (a b:Option Int)(n:Nat):li a b 1 (n:Int)=(((aZ n 0 a:Nat):Int),((aZ n n b:Nat):Int)):=by
 refine Prod.ext ?_ ?_
 ·cases a with
  |none=>rfl
  |some v=>exact Fq v n 0
 ·cases b with
  |none=>rfl
  |some v=>exact Fq v n n
theorem LR (i j:Nat):gq (i:Int) (j:Int) 1=j-i:=by unfold gq;split<;>omega
theorem Fs (p:pd v o)(h:Q o s):wpAny (model prog w) A (Builtin.Slice.slicePartIndex v) Q E s:=by
 cases p with
 |none=>exact slicePart_none h
 |int i t=>exact slicePart_int h
theorem z3p {a:Option Int}{n:Nat}(hs:s.heap.IsSliceOf sl e f .none)(pl:pd e a)(g:pd f d)
  (h:Q (((aZ n 0 a:Nat):Int),1,aZ n n d-aZ n 0 a) s):wpAny (model prog w) A (Builtin.Slice.sliceApplied (.ref sl) (pure n)) Q E s:=by
 obtain⟨os,b,i,c⟩:=id hs;refine aa (aa (gg b c rfl (aa (gg b c rfl (aa (gg b c rfl (bb ?_)))))));refine aa (slicePart_none ?_);refine aa (Fs pl (aa (Fs g (aa (bb ?_)))));show wpAny _ _ (match li a d 1 n with|(a,d)=>pure (a,(1:Int),gq a d 1)) _ _ s;rw[LQ a d n];show wpAny _ _ (pure (((aZ n 0 a:Nat):Int),1,gq ((aZ n 0 a:Nat):Int) ((aZ n n d:Nat):Int) 1)) _ _ s;rw[LR];exact bb h
theorem LS (a:Array Value)(i k:Nat):((cg k).filterMap λ(m:Nat)=>a[((i:Int)+(m:Int)*1).toNat]?).toArray=((a.toList.drop i).take k).toArray:=by
 have e:(λ(m:Nat)=>a[((i:Int)+m*1).toNat]?)=λm=>a[i+m]?:=by
  funext m
  have:((i:Int)+m*1).toNat=i+m:=by omega
  rw[this]
 rw[e];have:=pick_run a i k;rw[List.filterMap_map]at this;have b:((λx=>a[x]?)∘λx=>i+x)=λm=>a[i+m]?:=rfl;rw[b]at this;rw[this]
theorem getItem_tuple_cut {b:Option Int}(d:IsTup s.heap t items)(hs:s.heap.IsSliceOf sl i j .none)(pl:pd i b)(k:pd j c)
  (l:¬(aZ items.size 0 b=0/\aZ items.size items.size c=items.size))
  (h:Q (.ref s.heap.objs.size) {s with heap:=s.heap.push {cls:=.type "tuple",data:=.seq ((items.toList.drop (aZ items.size 0 b)).take (aZ items.size items.size c-aZ items.size 0 b)).toArray}})
  (m:items.size<=au):wpAny (model prog w) A (pj (.ref t) (.ref sl)) Q E s:=by
 have a:sizeOk (.seq ((items.toList.drop (aZ items.size 0 b)).take (aZ items.size items.size c-aZ items.size 0 b)).toArray):=by show((items.toList.drop (aZ items.size 0 b)).take (aZ items.size items.size c-aZ items.size 0 b)).toArray.size<=au;rw[bz,c9,j6,jb];omega
 obtain⟨os,e,f,n⟩:=id hs;unfold pj
 try with_reducible refine ej ?_
 first|refine aa (bb ?_)|skip
 refine aa (wpAny_sequenceKey d.typeIs dc ?_);refine aa (jt d.typeIs PyProof.Rows.slot_tuple_getitem (j7 PyProof.Rows.slot_tuple_getitem d.typeIs entry_tuple_getitem ?_ (args_tuple_getitem _ _)));show wpAny _ _ (Builtin.Tuple.tupleItemsOf (.ref t)>>=_) _ _ s;refine aa (tupleItemsOf_ d ?_);refine aa (kz ⟨os,e,f⟩ ?_);refine aa (z3p hs pl k ?_);have g:¬((((aZ items.size 0 b:Nat):Int)==0&&(1:Int)==1&&(aZ items.size items.size c-aZ items.size 0 b)==items.size)=true):=by intro q;rw[bv,bv]at q;have o:=eq_of_beq q.1.1;have p:=eq_of_beq q.2;exact l ⟨by omega,by omega⟩
 show wpAny _ _ (if(((aZ items.size 0 b:Nat):Int)==0&&1==1&&(aZ items.size items.size c-aZ items.size 0 b)==items.size)=true then _ else _) _ _ s;rw[qu g,LS]
 first
  |exact aa (gx (bb ⟨_,rfl,bb h⟩) a)
  |exact aa (gx (aa (bb (bb ⟨_,rfl,bb h⟩))) a)
  |exact aa (aa (gx (bb (bb ⟨_,rfl,bb h⟩)) a))
  |exact aa (aa (gx (bb ⟨_,rfl,bb h⟩) a))
end HT
namespace L2
open PySem PySem.Spec PyProof.Rows
abbrev TO:=St->Hp->(Option Int->Hp->Prop)->Prop
def PO (X:Cx)(e:Option Expr)(t:TO):Prop:=∀(pins:List (Addr×Obj)) (s:az) (σ:St) (H:Hp) (Q:Option Int->Hp->Prop),Inv X pins σ H s->t σ H Q->wpAny (model X.prog X.w) X.A (evalPart e X.env) (λu s'=>∃o H',Inv X pins σ H' s'/\pd u o/\Q o H') X.xe s
def LU:TO:=λ_ H Q=>Q none H
def LV (t:TE):TO:=λσ H Q=>t σ H λx H1=>∃i,x=.int i/\Q (some i) H1
section
variable {X:Cx}{e:Expr}{te:TE}{lo hi:Option Expr}{tl th:TO}{pos p2:Pos}
theorem LW:PO X none LU:=by intro a s b H Q I h;exact bb ⟨none,H,I,.none,h⟩
theorem LX (h:PE X e te):PO X (some e) (LV te):=by intro a s b H Q I c;refine aI (h a s b H _ I c) λu j ⟨x,H1,d,f,g⟩=>?_;obtain⟨i,rfl,q⟩:=g;obtain⟨t,rfl⟩:=f;exact⟨some i,H1,d,.int i t,q⟩
def nQ (X:Cx)(r:V->Option Int->Option Int->Hp->VK->Prop):Prop:=∀(pins:List (Addr×Obj)) (s:az) (σ:St) (H:Hp) (x:V) (v vl vu:Value) (lo hi:Option Int) (sl:Addr) (Q:VK),Inv X pins σ H s->RelV x v->s.heap.IsSliceOf sl vl vu .none->pd vl lo->pd vu hi->r x lo hi H Q->∃T id,typeLookup (.type T) "__getitem__"=pure (some (.builtin id))/\s.TypeIs v T/\wpAny (model X.prog X.w) X.A (pj v (.ref sl)) (EP X pins σ Q) X.xe s
theorem nQ.or (h:nQ X r)(g:nQ X i):nQ X (λx lo hi H Q=>r x lo hi H Q\/i x lo hi H Q):=by
 intro a s b H x v c d lo hi sl Q I e hs pl f q;rcases q with q|q
 ·exact h a s b H x v c d lo hi sl Q I e hs pl f q
 ·exact g a s b H x v c d lo hi sl Q I e hs pl f q
def LY (r:V->Option Int->Option Int->Hp->VK->Prop)(te:TE)(tl th:TO):TE:=λσ H Q=>te σ H λx H1=>tl σ H1 λl H2=>th σ H2 λu H3=>r x l u H3 Q
theorem LZ (hr:nQ X r)(j:PE X e te)(k:PO X lo tl)(hu:PO X hi th):PE X (.Subscript e (.Slice lo hi none p2) pos) (LY r te tl th):=by
 intro a s c H Q I h;refine Subscript_ (aI (j a s c H _ I h) ?_)
 rintro v m ⟨x,H1,n,o,p⟩
 refine wpAny_Slice (aI (k a m c H1 _ n p) λf t ⟨l,w,y,pl,z⟩=>aI (hu a t c w _ y z) ?_)
 rintro g d ⟨u,i,A,B,C⟩
 refine bb ?_;have D:Inv X a c i {d with heap:=d.heap.push {cls:=.type "slice",data:=.fields #[f,g,.none]}}:=A.kept λb ob q=>ak _ q;obtain⟨T,id,E,F,G⟩:=hr a {d with heap:=d.heap.push {cls:=.type "slice",data:=.fields #[f,g,.none]}} c i x v f g l u d.heap.objs.size Q D o (Heap.IsSliceOf.new ..) pl B C;exact tail_any F E G (by with_unfolding_all rfl)
def oH (xs:List V)(lo hi:Option Int):List V:=(xs.drop (HT.aZ xs.length 0 lo)).take (HT.aZ xs.length xs.length hi-HT.aZ xs.length 0 lo)
theorem Ft (a:List V)(lo hi:Option Int):(oH a lo hi).length<=a.length:=by unfold oH;rw[c9,j6];omega
def Ao (K:W.Frag):V->Option Int->Option Int->Hp->VK->Prop:=λx lo hi H Q=>∃a xs,x=.ref a/\cA K H a xs/\¬(HT.aZ xs.length 0 lo=0/\HT.aZ xs.length xs.length hi=xs.length)/\∀p,H p=none->Q (.ref p) (upd H p (.tup (oH xs lo hi)))
theorem L0:nQ X (Ao X.K):=by
 rintro f s m H x v n o lo hi sl Q I i hs pl j ⟨a,d,rfl,k,l,q⟩
 cases i;obtain⟨e,r,g,h⟩:=I.tuple k;have c:e.toArray.size=d.length:=bz▸r.length.symm;refine⟨"tuple",_,PyProof.Rows.slot_tuple_getitem.lookup,g.typeIs,?_⟩;refine HT.getItem_tuple_cut g hs pl j (c▸l) ?_ (c▸h);rw[c];refine⟨.ref s.heap.objs.size,_,I.laid (λb ob q=>ak _ q) (ae _) ?_,rfl,q _ (I.hok.fresh (ae _))⟩;exact⟨bq (Ft d lo hi) h,_,(r.drop (HT.aZ d.length 0 lo)).take (HT.aZ d.length d.length hi-HT.aZ d.length 0 lo),TupN.new _ _⟩
def Fu (K:W.Frag):R2:=λx y H Q=>∃a b xs ys,x=.ref a/\y=.ref b/\cA K H a xs/\cA K H b ys/\xs≠ []/\xs.length+ys.length<=au/\(ys=[]->Q (.ref a) H)/\(ys≠[]->∀p,H p=none->Q (.ref p) (upd H p (.tup (xs++ys))))
theorem Vals.gB (r:Vals a b):b=[]↔a=[]:=by
 cases r with
 |nil=>simp
 |cons _ _=>simp
theorem L1:OpR X (fy .Add) (Fu X.K):=by
 rintro e s r H x y v u Q I h i ⟨a,b,t,A,rfl,rfl,j,k,l,f,m,n⟩
 cases h;cases i;obtain⟨o,d,p,_⟩:=I.tuple j;obtain⟨g,c,p2,_⟩:=I.tuple k;refine HT.cat_tup p p2 (λz=>l (d.gB.mp z)) (λz=>⟨.ref a,H,I,rfl,m (c.gB.mp z)⟩) (λz=>?_) (by rw[<-d.length,<-c.length];exact f);refine⟨.ref s.heap.objs.size,_,I.laid (λb ob q=>ak _ q) (ae _) ?_,rfl,n (λw=>z (c.gB.mpr w)) _ (I.hok.fresh (ae _))⟩;exact⟨by rw[bf];exact f,_,d.append c,TupN.new _ _⟩
end
def iL (n:Nat)(i:Int):Option Nat:=if 0<=i then(if i<n then some i.toNat else none)else if -(n:Int)<=i then some (i+n).toNat else none
def cF {α:Type}(xs:List α)(i:Int):Option α:=(iL xs.length i).bind λj=>xs[j]?
theorem Fv (h:iL n i=some j):seqIndex? i n=some j/\j<n/\-(n:Int)<=i/\i<n:=by
 unfold iL at h;by_cases h0:0<=i
 ·rw[qt h0]at h;by_cases a:i<n
  ·rw[qt a]at h;have e:=qv h;exact⟨by rw[qf h0 a,e],by omega,by omega,a⟩
  ·rw[qu a]at h;cases h
 ·rw[qu h0]at h;by_cases a:-n<=i
  ·rw[qt a]at h;have e:=qv h;exact⟨by rw[pq (by omega) a,e],by omega,a,by omega⟩
  ·rw[qu a]at h;cases h
theorem Ap (h:cF a i=some v):∃j,seqIndex? i a.length=some j/\a[j]?=some v/\j<a.length/\-(a.length:Int)<=i/\i<a.length:=by
 unfold cF at h;cases e:iL a.length i with
 |none=>rw[e]at h;cases h
 |some j=>rw[e]at h;obtain⟨b,c,d,f⟩:=Fv e;exact⟨j,b,h,c,d,f⟩
def Fw (b:Expr):Prop:=∀o i,subscripted b false o i=operate [o,i] (pj o i)
def kY (X:Cx)(r:R2):Prop:=∀(value slice:Expr) (pins:List (Addr×Obj)) (s:az) (σ:St) (H:Hp) (x y:V) (v u:Value) (Q:VK),Inv X pins σ H s->RelV x v->RelV y u->r x y H Q->subscripted slice false v u=operate [v,u] (pj v u)->wpAny (model X.prog X.w) X.A (subscriptTail value slice v u) (EP X pins σ Q) X.xe s
def MtR (X:Cx)(id:String)(r:V->List V->Hp->VK->Prop):Prop:=∀(pins:List (Addr×Obj)) (s:az) (σ:St) (H:Hp) (x:V) (xs:List V) (v:Value) (us:List Value) (Q:VK),Inv X pins σ H s->RelV x v->Vals xs us->r x xs H Q->wpAny (model X.prog X.w) X.A (call (.builtin id) (v::us)) (EP X pins σ Q) X.xe s
section
variable {X:Cx}
theorem kY.or (h:kY X r)(g:kY X i):kY X (λx y H Q=>r x y H Q\/i x y H Q):=by
 intro a b c s d H x y v u Q I e f q hs;rcases q with q|q
 ·exact h a b c s d H x y v u Q I e f q hs
 ·exact g a b c s d H x y v u Q I e f q hs
theorem Aq (hr:kY X r)(d:PE X a ta)(e:PE X b tb)(hs:Fw b):PE X (.Subscript a b pos) (jE r ta tb):=by intro c s f H Q I h;exact Subscript_ (binT d e I h λv u g x y i j k l q=>hr a b c g f i x y v u Q j k l q (hs _ _))
def uW (K:W.Frag):R2:=λx y H Q=>∃p xs i v,x=.ref p/\y=.int i/\SqL K H p xs/\cF xs i=some v/\Q v H
def uX (K:W.Frag):R2:=λx y H Q=>∃p xs i v,x=.ref p/\y=.int i/\cA K H p xs/\cF xs i=some v/\Q v H
def uY:R2:=λx y H Q=>∃z i c,x=.str z/\y=.int i/\z.length<=au/\cF z.cps.toList i=some c/\Q (.str ⟨#[c]⟩) H
theorem L3:kY X (uW X.K):=by
 intro d e a s m H x y v u Q I n o h hs;obtain⟨p,G,i,z,rfl,rfl,A,B,q⟩:=h;cases n;obtain⟨t,rfl⟩:=o;obtain⟨f,r,pl,J⟩:=I.list A;obtain⟨j,c,C,L,D,E⟩:=Ap B;obtain⟨w,l,g⟩:=r.get C;have F:=r.length;have hn:=rK;have b:EP X a m Q w s:=⟨z,H,I,g,q⟩;by_cases h0:0<=i
 ·have k:i.toNat=j:=by
   rw[qf h0 E]at c;exact qv c
  exact item_listR pl.isList h0 (by omega) (by rw[k];simpa using l) b hs
 ·have k:(i+f.toArray.size).toNat=j:=by
   rw[pq (by omega) D]at c;rw[bz,<-F];exact qv c
  exact mu pl.isList.typeIs slot_list_getitem.lookup (wpAny_getItem_list_neg pl.isList (by omega) (by rw[bz]<;>omega) (by omega) (by rw[k];simpa using l) ⟨rfl,b⟩) hs
theorem L4:kY X (uX X.K):=by intro a b d s A H x y v u Q I e f h hs;obtain⟨p,B,i,z,rfl,rfl,g,k,q⟩:=h;cases e;obtain⟨t,rfl⟩:=f;obtain⟨l,r,pl,C⟩:=I.tuple g;obtain⟨j,m,n,D,E,F⟩:=Ap k;obtain⟨w,o,c⟩:=r.get n;have hn:=rK;exact mu pl.typeIs slot_tuple_getitem.lookup (getItem_tuple pl (by omega) (by omega) (by rw[bz,<-r.length];exact m) (by simpa using o) ⟨rfl,⟨z,H,I,c,q⟩⟩) hs
theorem Ar:kY X uY:=by
 intro a b d s p H x y v u Q I f g h hs;obtain⟨z,i,c,rfl,rfl,r,k,q⟩:=h;obtain⟨t,rfl⟩:=f;obtain⟨w,rfl⟩:=g;obtain⟨j,e,l,A,m,n⟩:=Ap k;have o:z.cps.toList.length=z.length:=by simp[Str.length]
 rw[o]at e m n;have hn:=rK;exact tail_any (ql s z t) slot_str_getitem.lookup (getItem_str (by rw[decide_eq_false (by omega),decide_eq_false (by omega),oz]) (by rw[e];simpa using l) ⟨.str ⟨#[c]⟩,H,I.tok _,⟨_,rfl⟩,q⟩) hs
def uZ (K:W.Frag):R2:=λx y H Q=>uW K x y H Q\/uX K x y H Q\/uY x y H Q
theorem Fx:kY X (uZ X.K):=L3.or (L4.or Ar)
theorem L5 (a:List Value)(n j:Nat)(u:Value):Obj.mapSeq (·.setIfInBounds j u) {cls:=.type "list",data:=.seq a.toArray n}={cls:=.type "list",data:=.seq (a.set j u).toArray n}:=by simp[Obj.mapSeq]
theorem Inv.lst {b:List (Addr×Obj)}{σ:St}{H:Hp}{s:az}{p:Addr}{xs:List V}(I:Inv X b σ H s)(h:H p=some (.lst xs)):
  ∃a n,Vals xs a/\s.heap.get? p=some {cls:=.type "list",data:=.seq a.toArray n}/\xs.length<=au:=by
 obtain⟨z,a,n,r,e⟩:=I.hok p _ h;exact⟨a,n,r,e,z⟩
theorem Inv.lstUpd {a:List Value}(I:Inv X c d H s)(h:H p=some (.lst k))
  (g:s.heap.get? p=some {cls:=.type "list",data:=.seq a.toArray n}) (hf:f {cls:=.type "list",data:=.seq a.toArray n}={cls:=.type "list",data:=.seq jY.toArray n'}) (r:Vals ys jY) (i:ys.length<=au) t:
  Inv X c d (upd H p (.lst ys)) {s with heap:=s.heap.update p f,toks:=t}:=by
 have e:(s.heap.update p f).get? p=some {cls:=.type "list",data:=.seq jY.toArray n'}:=by rw[gn f g (by rw[hf]<;>rfl),hf]
 refine I.write (by rw[h];trivial) (.inl rfl) (λb u j q=>(eo _ _ (Ne.symm j)).trans q) ⟨_,e⟩ ?_;exact⟨i,jY,n',r,e⟩
def Fy:V->V->V->Hp->(Hp->Prop)->Prop:=λo i v H Q=>∃p xs k j,o=.ref p/\i=.int k/\H p=some (.lst xs)/\iL xs.length k=some j/\Q (upd H p (.lst (xs.set j v)))
theorem set_list:Ac X Fy:=by
 rintro a s w H o i v D E u Q I x y z ⟨p,A,k,j,rfl,rfl,g,B,q⟩
 cases x;obtain⟨t,rfl⟩:=y;obtain⟨b,n,r,d,C⟩:=I.lst g;obtain⟨c,F,h,l⟩:=Fv B;have e:=r.length;have hn:=rK;have m:Inv X a w (upd H p (.lst (A.set j v))) {s with heap:=s.heap.update p (Obj.mapSeq (·.setIfInBounds j u))}:=I.lstUpd g d (L5 b n j u) (r.set z j) (by rw[cq];exact C) s.toks;by_cases h0:0<=k
 ·have f:k.toNat=j:=by
   rw[qf h0 l]at c;exact qv c
  exact W.ki_setAt d h0 (by omega) (by rw[bz,<-e];exact l) (f▸⟨_,m,q⟩)
 ·have f:(k+b.toArray.size).toNat=j:=by
   rw[pq (by omega) h]at c;rw[bz,<-e];exact qv c
  exact W.ki_setBack d (by omega) (by rw[bz,<-e];exact h) (by omega) (f▸⟨_,m,q⟩)
theorem L7 (a b:Option Int)(n:Nat):(ju a b none n).1=((HT.aZ n 0 a:Nat):Int)/\(ju a b none n).2.1=((HT.aZ n n b:Nat):Int)/\(ju a b none n).2.2=1:=by
 refine⟨?_,?_,rfl⟩
 ·cases a with
  |none=>simp[ju,HT.aZ]
  |some i=>
   simp only[ju,HT.aZ,Option.getD_none,show 1>0 by decide,if_true];by_cases h:i<0
   ·simp only[h,if_true]<;>omega
   ·simp only[h,if_false]<;>omega
 ·cases b with
  |none=>simp[ju,HT.aZ]
  |some i=>
   simp only[ju,HT.aZ,Option.getD_none,show 1>0 by decide,if_true];by_cases h:i<0
   ·simp only[h,if_true]<;>omega
   ·simp only[h,if_false]<;>omega
theorem L8 (a:List Value)(b c:Option Int):slicePick a.toArray b c none=((a.drop (HT.aZ a.length 0 b)).take (HT.aZ a.length a.length c-HT.aZ a.length 0 b)).toArray:=by obtain⟨d,e,f⟩:=L7 b c a.toArray.size;unfold slicePick;rw[d,e,f];simp only[n6,pick_run,bz]<;>rfl
def u1 (K:W.Frag):V->Option Int->Option Int->Hp->VK->Prop:=λx lo hi H Q=>∃a xs,x=.ref a/\SqL K H a xs/\∀p,H p=none->Q (.ref p) (upd H p (.lst (oH xs lo hi)))
theorem L9:nQ X (u1 X.K):=by
 rintro f s n H x v o p e g sl Q I i hs pl j ⟨a,c,rfl,k,q⟩
 cases i;obtain⟨l,r,h,m⟩:=I.list k;have d:=r.length;refine⟨"list",_,slot_list_getitem.lookup,h.isList.typeIs,?_⟩;refine wpAny_getItem_list_slice h.isList hs pl j .none (by simp) ?_ (by rw[bz]<;>omega);rw[L8,<-d];refine⟨.ref s.heap.objs.size,_,I.laid (λb ob q=>ak _ q) (ae _) ?_,rfl,q _ (I.hok.fresh (ae _))⟩;exact⟨bq (Ft c e g) m,_,0,(r.drop (HT.aZ c.length 0 e)).take (HT.aZ c.length c.length g-HT.aZ c.length 0 e),bt _ rfl⟩
def pZ:V->Bool
 |.aK=>true
 |.bl _=>true
 |.int _=>true
 |.str _=>true
 |_=>false
def qz:V->V->Bool
 |.aK,.aK=>true
 |.bl a,.bl b=>a==b
 |.bl a,.int b=>(if a then 1 else 0)==b
 |.int a,.bl b=>a==(if b then 1 else 0)
 |.int a,.int b=>a==b
 |.str a,.str b=>a==b
 |_,_=>false
theorem L' (e:RelV y u)(c:RelV x v)(f:pZ y=true)(fx:pZ x=true):SeqAt.EqAt A s u v (qz y x):=by
 cases y with
 |aK=>
  cases e;cases x with
  |aK=>cases c;exact SeqAt.EqAt.same _
  |bl b=>cases c;exact SeqAt.EqAt.none_bool b
  |int b=>obtain⟨t,rfl⟩:=c;exact SeqAt.EqAt.none_int b t
  |str b=>obtain⟨t,rfl⟩:=c;exact SeqAt.EqAt.none_str b t
  |_=>exact absurd fx dr
 |bl a=>
  cases e;cases x with
  |aK=>cases c;exact SeqAt.EqAt.bool_none a
  |bl b=>cases c;exact SeqAt.EqAt.bool_bool a b
  |int b=>obtain⟨t,rfl⟩:=c;exact SeqAt.EqAt.bool_int a b t
  |str b=>obtain⟨t,rfl⟩:=c;exact SeqAt.EqAt.bool_str a b t
  |_=>exact absurd fx dr
 |int a=>
  obtain⟨d,rfl⟩:=e;cases x with
  |aK=>cases c;exact SeqAt.EqAt.int_none a d
  |bl b=>cases c;exact SeqAt.EqAt.int_bool a d b
  |int b=>obtain⟨t,rfl⟩:=c;exact SeqAt.EqAt.int_int a d b t
  |str b=>obtain⟨t,rfl⟩:=c;exact SeqAt.EqAt.int_str a d b t
  |_=>exact absurd fx dr
 |str a=>
  obtain⟨d,rfl⟩:=e;cases x with
  |aK=>cases c;exact SeqAt.EqAt.str_none a d
  |bl b=>cases c;exact SeqAt.EqAt.str_bool a d b
  |int b=>obtain⟨t,rfl⟩:=c;exact SeqAt.EqAt.str_int a d b t
  |str b=>obtain⟨t,rfl⟩:=c;exact SeqAt.EqAt.str_str a d b t
  |_=>exact absurd fx dr
 |_=>exact absurd f dr
def iM (x:V)(u:Value):Bool:=match u with
 |.none=>qz .aK x
 |.bool b=>qz (.bl b) x
 |.int i _=>qz (.int i) x
 |.str z _=>qz (.str z) x
 |_=>false
theorem Fz (r:RelV y u)(f:pZ y=true):iM x u=qz y x:=by
 cases y with
 |aK=>cases r;rfl
 |bl b=>cases r;rfl
 |int i=>obtain⟨t,rfl⟩:=r;rfl
 |str z=>obtain⟨t,rfl⟩:=r;rfl
 |_=>exact absurd f dr
theorem yf {a:List V}{b:List Value}(h:Vals a b)(f:a.all pZ=true):b.any (iM x)=a.any λy=>qz y x:=by
 induction h with
 |nil=>rfl
 |cons r t i=>rw[ci,bv]at f;rw[gz,gz,Fz r f.1,i f.2]
theorem u2 (c:RelV x v)(fx:pZ x=true):∀{a:List V} {b:List Value},Vals a b->a.all pZ=true->∀u∈b,SeqAt.EqAt A s u v (iM x u)
 |_,_,.nil,_=>λu hu=>by cases hu
 |y::a,u::b,.cons r t,f=>λd hu=>by
  rw[ci,bv]at f;rcases ax.mp hu with rfl|hu
  ·rw[Fz r f.1];exact L' r c f.1 fx
  ·exact u2 c fx t f.2 d hu
def FC (x:V)(xs:List V):Bool:=xs.any λy=>qz y x
def As (K:W.Frag)(neg:Bool):R2:=λx y H Q=>∃p xs,y=.ref p/\(SqL K H p xs\/cA K H p xs)/\pZ x=true/\xs.all pZ=true/\Q (.bl (if neg then !FC x xs else FC x xs)) H
theorem Ma:OpR X (cw .In) (As X.K false):=by
 rintro d s h H x y v u Q I e f ⟨p,i,rfl,b,fx,fs,q⟩
 cases f;rcases b with b|b
 ·obtain⟨a,r,pl,g⟩:=I.list b;refine SeqAt.in_listAt (iM x) pl.isList (λw c=>u2 e fx r fs w (by simpa using c)) ⟨.bl _,H,I,rfl,?_⟩;rw[show a.toArray.any (iM x)=a.any (iM x) by simp,yf r fs];exact q
 ·obtain⟨a,r,pl,g⟩:=I.tuple b;refine SeqAt.in_tupleAt (iM x) pl (λw c=>u2 e fx r fs w (by simpa using c)) ⟨.bl _,H,I,rfl,?_⟩;rw[show a.toArray.any (iM x)=a.any (iM x) by simp,yf r fs];exact q
theorem Mb:OpR X (cw .NotIn) (As X.K true):=by
 rintro d s h H x y v u Q I e f ⟨p,i,rfl,b,fx,fs,q⟩
 cases f;rcases b with b|b
 ·obtain⟨a,r,pl,g⟩:=I.list b;refine SeqAt.notIn_listAt (iM x) pl.isList (λw c=>u2 e fx r fs w (by simpa using c)) ⟨.bl _,H,I,rfl,?_⟩;rw[show a.toArray.any (iM x)=a.any (iM x) by simp,yf r fs];exact q
 ·obtain⟨a,r,pl,g⟩:=I.tuple b;refine SeqAt.notIn_tupleAt (iM x) pl (λw c=>u2 e fx r fs w (by simpa using c)) ⟨.bl _,H,I,rfl,?_⟩;rw[show a.toArray.any (iM x)=a.any (iM x) by simp,yf r fs];exact q
theorem Me:OpR X (cw .NotIn) (λx y H Q=>∃i j,x=.str i/\y=.str j/\Q (.bl (!(!(g7 j i 0 j.length 1).isEmpty))) H):=by
 rintro a s d H x y v u Q I b c ⟨i,j,rfl,rfl,q⟩
 obtain⟨t,rfl⟩:=b;obtain⟨e,rfl⟩:=c;exact notIn_str ⟨.bl _,H,I,rfl,q⟩
theorem Mf:CallR X (.builtin "len") (λf H Q=>∃p b,f=[.ref p]/\(SqL X.K H p b\/cA X.K H p b)/\Q (.int b.length) H):=by
 rintro g s i H f j Q I r ⟨p,b,rfl,c,q⟩
 obtain⟨u,rfl,rfl⟩:=vals1 r;have hn:=rK;rcases c with c|c
 ·obtain⟨d,e,pl,h⟩:=I.list c;have a:=e.length;exact Calls.call_len_list pl.isList (by simp<;>omega) ⟨.int b.length,H,I.tok _,⟨s.toks+1,by rw[bz,a]⟩,q⟩
 ·obtain⟨d,e,pl,h⟩:=I.tuple c;have a:=e.length;exact len_tuple pl (by simp<;>omega) ⟨.int b.length,H,I.tok _,⟨s.toks+1,by rw[bz,a]⟩,q⟩
theorem Mg:CallR X (.builtin "len") (λa H Q=>∃z,a=[.str z]/\z.length<=au/\Q (.int z.length) H):=by
 rintro b s c H a d Q I r ⟨z,rfl,e,q⟩
 obtain⟨u,rfl,t,rfl⟩:=vals1 r;have hn:=rK;exact len_str (by omega) ⟨.int z.length,H,I.tok _,⟨_,rfl⟩,q⟩
theorem CallR.or (h:CallR X f r)(e:CallR X f g):CallR X f (λb H Q=>r b H Q\/g b H Q):=by
 intro a s c H b d Q I rs q;rcases q with q|q
 ·exact h a s c H b d Q I rs q
 ·exact e a s c H b d Q I rs q
theorem Mh:CallR X (.type "list") (λx H Q=>∃p d,x=[.ref p]/\(SqL X.K H p d\/cA X.K H p d)/\∀l,H l=none->Q (.ref l) (upd H l (.lst d))):=by
 rintro h s z H x A Q I r ⟨p,d,rfl,i,q⟩
 obtain⟨u,rfl,rfl⟩:=vals1 r
 have j:∀a,Vals d a->d.length<=au->∀c f,(∀b y,s.heap.get? b=some y->c.get? b=some y)->
   c.get? s.heap.objs.size=some {cls:=.type "list",dict:=none,data:=.seq a.toArray f,slots:=#[]}->EP X h z Q (.ref s.heap.objs.size) {s with heap:=c}:=λa g k c f kp e=>
  ⟨.ref s.heap.objs.size,_,I.laid kp (ae _) (show z14 X.prog X.w _ c _ (.lst d)from⟨k,a,f,g,e⟩),rfl,q _ (I.hok.fresh (ae _))⟩
 rcases i with i|i
 ·obtain⟨a,g,pl,k⟩:=I.list i;have m:=g.length;obtain⟨o,t,v,n,hd⟩:=pl.isList;exact call_list_seq p (.inl rfl) t v hd (λc f kp e=>j a g k c f kp e) (by simp<;>omega)
 ·obtain⟨a,g,pl,k⟩:=I.tuple i;have m:=g.length;obtain⟨o,t,v,n,hd⟩:=pl;exact call_list_seq p (.inr rfl) t v hd (λc f kp e=>j a g k c f kp e) (by simp<;>omega)
theorem Mj:CallR X (.type "tuple") (λj H Q=>∃p d,j=[.ref p]/\((SqL X.K H p d/\∀l,H l=none->Q (.ref l) (upd H l (.tup d)))\/(cA X.K H p d/\Q (.ref p) H))):=by
 rintro a s k H j w Q I r ⟨p,d,rfl,h⟩
 obtain⟨u,rfl,rfl⟩:=vals1 r;rcases h with⟨g,q⟩|⟨g,q⟩
 ·obtain⟨c,i,pl,m⟩:=I.list g;have n:=i.length;refine call_tuple_list pl.isList (λf kp=>?_) (by simp<;>omega);have t:Inv X a k H {s with heap:=f}:=I.kept kp;have v:Inv X a k (upd H f.objs.size (.tup d)) {s with heap:=f.push {cls:=.type "tuple",data:=.seq c.toArray}}:=t.laid (λb o e=>ak _ e) (ae _) (⟨m,c,i,TupN.new _ _⟩);exact⟨.ref f.objs.size,_,v,rfl,q _ (t.hok.fresh (ae _))⟩
 ·obtain⟨c,i,pl,m⟩:=I.tuple g;exact call_tuple_same pl ⟨.ref p,H,I,rfl,q⟩
def tyV (K:W.Frag)(T:String)(x:V)(H:Hp):Prop:=match x with
 |.str _=>T="str"
 |.int _=>T="int"
 |.ref p=>(T="list"/\∃xs,SqL K H p xs)\/(T="tuple"/\∃o,K.lookup p=some o/\o.cls=.type "tuple"/\o.dict=none)\/(T="dict"/\((∃kvs,H p=some (.dK kvs))\/∃kvs,H p=some (.dT kvs)))\/(T="set"/\∃S n,H p=some (.set S n))
 |_=>False
theorem zje (I:Inv X f k H s)(r:RelV x v)(ty:tyV X.K T x H):
  s.TypeIs v T/\∀a,v=.ref a->∃ob,s.heap.get? a=some ob/\ob.dict=none:=by
 cases x with
 |str z=>obtain⟨t,rfl⟩:=r;cases ty;exact⟨ql s z t,λ_ e=>nomatch e⟩
 |int i=>obtain⟨t,rfl⟩:=r;cases ty;exact⟨typeIs_int s i t,λ_ e=>nomatch e⟩
 |ref p=>
  cases r;rcases ty with⟨rfl,l,g⟩|⟨rfl,o,b,h,hd⟩|⟨rfl,b⟩|⟨rfl,S,n,b⟩
  ·obtain⟨j,_,pl,_⟩:=I.list g;refine⟨pl.isList.typeIs,λa e=>?_⟩;cases e;obtain⟨o,n,e,c,hd,_⟩:=pl;exact⟨o,e,hd⟩
  ·refine⟨⟨o,I.cH p o b,h⟩,λa e=>?_⟩;cases e;exact⟨o,I.cH _ o b,hd⟩
  ·have z:∃o,s.heap.get? p=some o/\o.ExactDict:=by
    rcases b with⟨kvs,b⟩|⟨kvs,b⟩
    ·obtain⟨_,_,_,_,o,_,_,e,ex,_⟩:=I.hok p _ b;exact⟨o,e,ex⟩
    ·obtain⟨_,_,_,_,o,_,_,e,ex,_⟩:=I.hok p _ b;exact⟨o,e,ex⟩
   obtain⟨o,e,ex⟩:=z;refine⟨⟨o,e,ex.1⟩,λa d=>?_⟩;cases d;exact⟨o,e,ex.2.1⟩
  ·obtain⟨o,_,_,_,e,ex,_⟩:=I.hok p _ b;refine⟨⟨o,e,ex.1⟩,λa d=>?_⟩;cases d;exact⟨o,e,ex.2.1⟩
 |_=>exact False.elim ty
def rS (K:W.Frag)(T:String)(r:V->List V->Hp->VK->Prop)(to:TE):TE:=λσ H Q=>to σ H λx H1=>tyV K T x H1/\r x [] H1 Q
def Au (K:W.Frag)(T:String)(r:V->List V->Hp->VK->Prop)(to:TE)(t:TA):TE:=λσ H Q=>to σ H λx H1=>tyV K T x H1/\t σ H1 λxs H2=>r x xs H2 Q
variable {o e:Expr}{es:List Expr}{to:TE}{t:TA}{name:Str}{apos bD:Pos}{T id:String}{r:V->List V->Hp->VK->Prop}
theorem zo7 (i:qm T)(slot:Slot T name id)(d:qe (.builtin id)=pure (.type "method_descriptor"))(hm:MtR X id r)(j:PE X o to)
  (b:jg o name X.env (eval o X.env)=eval o X.env:=by rfl) (c:(apos.endLine==bD.line)=true:=by rfl):PE X (.Call (.Attribute o name apos) [] [] bD) (rS X.K T r to):=by
 intro a s e H Q I h;refine wpAny_Call_method0_late b c (aI (j a s e H _ I h) ?_)
 rintro v k ⟨x,H1,f,g,ty,l⟩
 obtain⟨m,n⟩:=zje f g ty;exact⟨T,id,i,slot,d,m,n,mv rfl (PySem.evalArgs_none (hm a k e H1 x [] v [] Q f g .nil l))⟩
theorem zmn (m:qm T)(slot:Slot T name id)(g:qe (.builtin id)=pure (.type "method_descriptor"))(hm:MtR X id r)(n:PE X o to)(p:PA X (e::es) t)
  (c:jg o name X.env (eval o X.env)=eval o X.env:=by rfl)
  (f:((iz bD (cx (e::es) X.env)).all (λx=> !x.1)&&(l4 bD (jr [] X.env)).all (λx=>x.1.isSome)
   &&decide ((e::es).length+([]:List kx).length+(if([]:List kx).isEmpty then 0 else 1)<30))=true:=by rfl)
  (d:(apos.endLine==bD.line)=true:=by rfl) (hs:cx (e::es) X.env=(false,eval e X.env)::cx es X.env:=by rfl) (b:(iz bD (cx es X.env)).any (·.1)=false:=by rfl):
  PE X (.Call (.Attribute o name apos) (e::es) [] bD) (Au X.K T r to t):=by
 intro a s i H Q I h;refine wpAny_Call_method_late c f d rfl (aI (n a s i H _ I h) ?_)
 rintro v q ⟨x,H1,j,k,ty,u⟩
 obtain⟨w,y⟩:=zje j k ty;refine⟨T,id,m,slot,g,w,y,?_⟩;have l:=p bD a q i H1 _ j u;rw[hs]at l ⊢;refine mv (by show(false||(iz bD (cx es X.env)).any (·.1))=false;rw[b]<;>rfl) (kg ?_);exact aI l λz A ⟨B,C,D,E,F⟩=>hm a A i C x B v z Q D k E F
end
def Ml (X:Cx)(id:String)(r:V->List V->Hp->VK->Prop):Prop:=∀(pins:List (Addr×Obj)) (s:az) (σ:St) (H:Hp) (x:V) (xs:List V) (v:Value) (us:List Value) (Q:VK),Inv X pins σ H s->RelV x v->Vals xs us->r x xs H Q->wpAny (model X.prog X.w) X.A (call (.builtin id) (v::us)) (EP X pins σ Q) X.xe s
theorem Vals.one (h:Vals [x] a):∃u,a=[u]/\RelV x u:=by
 cases h with
 |cons r h=>cases h;exact⟨_,rfl,r⟩
theorem Vals.two (h:Vals [x,y] a):∃u v,a=[u,v]/\RelV x u/\RelV y v:=by
 cases h with
 |cons r h=>cases h with
  |cons q h=>cases h;exact⟨_,_,rfl,r,q⟩
theorem Vals.zero:∀{a:List Value},Vals [] a->a=[]
 |_,.nil=>rfl
theorem Vals.rep (h:Vals a b):∀k,Vals (ao k a).flatten (ao k b).flatten
 |0=>.nil
 |k+1=>by exact Vals.append h (Vals.rep h k)
theorem Inv.lset {a:List Value}(I:Inv X pins σ H s)(b:H l=some (.lst xs))
  (e:s.heap.get? l=some {cls:=.type "list",data:=.seq a.toArray n}) (hf:f a.toArray=jY.toArray) (c:Vals ys jY) (d:ys.length<=au):
  Inv X pins σ (upd H l (.lst ys)) {s with heap:=s.heap.update l (Obj.mapSeq f),toks:=t'}:=by
 have q:=PySem.IsL.update e f;rw[hf]at q;refine I.write (b▸trivial) (.inl rfl) (λh u g hu=>(eo s.heap (Obj.mapSeq f) (Ne.symm g)).trans hu) ⟨_,q⟩ ?_;exact⟨d,jY,_,c,q⟩
theorem Inv.lnew (I:Inv X pins σ H s)(b:Vals ys a)(c:ys.length<=au):
  Inv X pins σ (upd H s.heap.objs.size (.lst ys)) {s with heap:=s.heap.push {cls:=.type "list",data:=.seq a.toArray},toks:=t'}:=
 I.laid (λ_ _ q=>ak _ q) (ae _) ⟨c,a,0,b,bt _ rfl⟩
theorem Inv.fresh (I:Inv X pins σ H s):H s.heap.objs.size=none:=I.hok.fresh (ae _)
theorem Inv.rT (I:Inv X pins σ H s)(b:H l=some (.lst xs)):xs.length<=au/\∃a n,Vals xs a/\xs.length=a.length/\s.heap.get? l=some {cls:=.type "list",data:=.seq a.toArray n}:=by obtain⟨z,a,n,r,e⟩:=I.hok l _ b;exact⟨z,a,n,r,r.length,e⟩
def yg:V->List V->Hp->VK->Prop:=λx vs H Q=>∃l xs y,x=.ref l/\vs=[y]/\H l=some (.lst xs)/\xs.length<au/\Q .aK (upd H l (.lst (xs++[y])))
theorem Aw:Ml X "list.append" yg:=by
 rintro b s h H x i v j Q I d f ⟨l,k,y,rfl,rfl,c,m,q⟩
 cases d;obtain⟨u,rfl,g⟩:=f.one;obtain⟨z,a,n,r,o,e⟩:=I.rT c;refine call_meets F.slot_list_append ⟨_,e,rfl⟩ F.entry_list_append (F.args_list_append_2 _ _) (PySem.list_append l a.toArray n u (by grind)) ⟨e,?_⟩;refine⟨.aK,_,I.lset c e (by simp) (r.append (.cons g .nil)) ?_,rfl,q⟩;rw[bf,d5];omega
def u3:R2:=λx y H Q=>∃l b xs zs,x=.ref l/\y=.ref b/\H l=some (.lst xs)/\H b=some (.lst zs)/\xs.length+zs.length<=au/\∀p,H p=none->Q (.ref p) (upd H p (.lst (xs++zs)))
theorem Mm:OpR X (fy .Add) u3:=by
 rintro d s p H x y v u Q I f g ⟨l,b,t,w,rfl,rfl,h,i,A,q⟩
 cases f;cases g;obtain⟨z,c,n,r,B,e⟩:=I.rT h;obtain⟨C,a,n2,j,k,m⟩:=I.rT i;refine PySem.P.add_list e m ?_ (by grind);have o:c.toArray++a.toArray=(c++a).toArray:=by simp
 rw[o];exact⟨.ref _,_,I.lnew (r.append j) (by grind),rfl,q _ I.fresh⟩
end L2
namespace Att
open PySem PySem.W PySem.Calls PyProof.Rows
theorem Mn:∀ns c,WellAll P h c (ns.map WData.int)->qj c ns:=by
 intro ns
 induction ns with
 |nil=>intro c w;cases w;exact .nil
 |cons n ns d=>
  intro c w;cases w with
  |cons a b=>cases a;exact .cons _ _ (d _ b)
theorem zeg {l:OpenLaw}(hn:l.most=some n)
  (b:l.row.toRowW.claim.pre args=true) (i:WellAll P h c args):
  ∃a k ns,c=[Value.ref a]/\args=[WData.list (ns.map WData.int)]/\h.get? a=some {cls:=.type "list",data:=.seq k.toArray}/\qj k ns/\ns.length<=n:=by
 have m:l.pre.holds [] {args:=args}=true:=(pre_splitW b).2;obtain⟨d,r,rfl,o,p⟩:=hasAllW_cons ((pre_splitW b).1);obtain rfl:=hasAllW_nil p;obtain⟨w,rfl,s⟩:=hasW_list o;obtain⟨ns,rfl⟩:=items_int s
 have e:ns.length<=n:=by
  have g:(WTm.not (.lt (.lit (.int n)) (.len (.arg 0)))).holds [] {args:=[.list (ns.map .int)]}=true:=by have g:=(holds_andW m).1;rw[hn]at g;exact g
  have j:=condW_of g (w_not (w_lt w_lit (w_len_list (w_arg rfl))));refine Nat.le_of_not_lt λq=>?_
  first
   |(rw[qy q']at j;exact absurd j dc)
   |(simp at j;omega)
 cases i with
 |cons t u=>
  cases u;cases t with
  |list v f=>exact⟨_,_,ns,rfl,rfl,v,Mn ns _ f,e⟩
theorem Mo (l:OpenLaw)(args:List WData):l.row.toRowW.claim.post args (.bool true) args=true:=
 postW_of
  (show WShape.has [] (.bool true) .bool=true by first|rfl|decide|simp[WShape.has,WShape.arms,WShape.armsAll])
  (show(WTm.eq .res (.lit (.bool true))).value [] {args:=args,res:=some (.bool true),after:=args}=some (.bool (true==true))from w_eq_bool (w_res rfl) w_lit) rfl
theorem attach_call {l:OpenLaw}
  (hn:l.most=some n) (m:d.params.defaults=[])
  (call:∀w s₀ b mg p fa o s cd c a g ns,
   Ground q loose [] A w s₀ mg p b.heap->B w b.heap->
   b.heap.get? fa=some o->o.data=.func (docDef d.name d.params d.body d.scope s cd c)->b.heap.CodeRec cd d.name->mg d.name=some (.ref fa)->
   b.heap.get? a=some {cls:=.type "list",data:=.seq g.toArray}->qj g ns->ns.length<=n->b.gens=#[]->
   i8 (model l.prog w) pv (.call (.ref fa) ⟨[.ref a],[]⟩) (λr k=>r=.ok (.ret (.bool true))/\OldK b.heap k.heap/\k.os=b.os/\ku k.gens) b):
  WalkO q loose A B l.row.toRowW d [] (λf g=>PySem.call f g):=by
 intro w s₀ b mg p G Y fa o s cd c C kV D hd t x u E args y as h z F v H;obtain rfl:C=.none:=Dflts.none x m;obtain rfl:kV=.none:=Dflts.noKw x;obtain⟨a,g,ns,rfl,rfl,i,e,j⟩:=zeg hn h v;refine enter_call (ij (call w s₀ b mg p fa o s cd c a g ns G Y D (fd_plain hd) t u i e j E) λr k I=>?_);obtain⟨rfl,J,K,L⟩:=I;exact⟨.inl ⟨.bool true,.bool true,[],rfl,λ_=>rfl,.bool true,Mo l _,λ_=>⟨List.Pairwise.nil,λ_ hm=>(nomatch hm)⟩⟩,J,K,L⟩
end Att
namespace L2
open PySem PySem.Spec PyProof.Rows
theorem FD:∀{a:List Value} {ns:List Int},qj a ns->Vals (ns.map V.int) a
 |_,_,.nil=>.nil
 |_,_,.cons n t h=>.cons ⟨t,rfl⟩ (FD h)
def Only (H:Hp):Prop:=∀b,H b=none\/∃o xs,H b=some (.eZ o (.lst xs))
theorem zgc {K:W.Frag}
  (M:K.In c.heap) (p:c.heap.Ns bo mg) (f:c.heap.Ns qk N) (D:∀x:Str,x≠"__name__"->N x=c7 x) (t:c.heap.NoLimit) (X:c.gens=#[])
  (C:c.heap.get? a=some {cls:=.type "list",data:=.seq vs.toArray}) (O:qj vs ns) (Q:ns.length<=au) (hr:Room k pv)
  (F:∀base,K.In base->base.Ns bo mg->FnOk P w K mg base CX k fa fd [x] sp) (l:∀s u,oa s fd ⟨[u],[]⟩ [(x,u)])
  (E:∀H,Only H->SqL K H a (ns.map V.int)->sp [.ref a] H (λv _=>v=.bl true) λ_ _ _=>False)
  (G:∀H e g,CX [] H c (λ_ _ _=>False) e g->False):
  i8 (model P w) pv (.call (.ref fa) ⟨[.ref a],[]⟩) (λr g=>r=.ok (.ret (.bool true))/\OldK c.heap g.heap/\g.os=c.os/\ku g.gens) c:=by
 have R:=FD O
 have j:∀H,Only H->SqL K H a (ns.map V.int)->HOk P w H c.heap->(∀b,H b≠none->b=a)->(H a≠none->K.lookup a=none)->
   i8 (model P w) pv (.call (.ref fa) ⟨[.ref a],[]⟩) (λr g=>r=.ok (.ret (.bool true))/\OldK c.heap g.heap/\g.os=c.os/\ku g.gens) c:=by
  intro H S hS hok T hK;have nR:∀{b:Addr} {o:Obj},c.heap.get? b=some o->H b=none->(jT c.heap H).get? b=some o:=λe n=>KR e n
  have I:∀{b:Addr} {o:Obj} {es:Array DictEntry} {ep:Nat},c.heap.get? b=some o->o.data=.dict es ep->H b=none:=λ{b o es ep} e d=>by
   cases q:H b with
   |none=>rfl
   |some u=>have J:=T b (by rw[q];simp);subst J;rw[C]at e;cases e;cases d
  have i:∀{b:Addr} {m:Str->Option Value},c.heap.Ns b m->(jT c.heap H).Ns b m:=λ{b m} ⟨o,es,ep,e,d,r⟩=>⟨o,es,ep,nR e (I e d),d,r⟩
  have y:=λb o e=>nR (M b o e) (by
   cases q:H b with
   |none=>rfl
   |some u=>have J:=T b (by rw[q];simp);subst J;rw[hK (by rw[q];simp)]at e;cases e)
  refine ij ((F _ y (i p)).run pv [] c H ⟨[.ref a],[]⟩ [.ref a] [.ref a] _ _ hr ⟨rfl,⟨y,i p,⟨N,i f,D⟩,let⟨mc,h1,h2⟩:=t;⟨mc,i h1,h2⟩⟩,λb o e=>KS e,Nat.le_of_eq (KQ _ _),trivial,λb f=>absurd (show b∈([]:List Addr)from f) (by simp),hok,.of_eq X⟩ (l c (.ref a)) (.cons rfl .nil) (E H S hS)) λr g h=>?_;cases r with
  |error e=>exact(G H e g h).elim
  |ok fl=>
   cases fl with
   |next=>exact False.elim h
   |brk=>exact False.elim h
   |cont=>exact False.elim h
   |ret u=>
    obtain⟨v,H',os,bare,un,A,r',rfl⟩:=h;obtain rfl:u=Value.bool true:=r';refine⟨rfl,OldK.of_keep λb o e=>?_,os,bare⟩;cases q:H b with
    |none=>exact un.keep b o e q (by intro z;exact absurd (show b∈([]:List Addr)from z) (by simp)) (by simp)
    |some u=>
     rcases S b with z|⟨ob,xs,z⟩
     ·rw[q]at z;cases z
     ·have z2:=un.cJ b ob _ z;obtain⟨U,_⟩:=hok b _ z;obtain⟨e2,_⟩:=A b _ z2;rw[e]at U;cases U;exact e2
 cases L:K.lookup a with
 |some o=>have e:=M a o L;rw[C]at e;cases e;refine j (λ_=>none) (λ_=>.inl rfl) (.inr ⟨_,vs.toArray,_,L,rfl,rfl,rfl,by rw[bz,O.length];exact Q,by simpa using R⟩) (λb u z=>by have B:none=some u:=z;cases B) (λb z=>absurd rfl z) λz=>absurd rfl z
 |none=>
  refine j (λb=>if b=a then some (.eZ {cls:=.type "list",data:=.seq vs.toArray} (.lst (ns.map V.int)))else none) (λb=>?_) (.inl (.inr ⟨{cls:=.type "list",data:=.seq vs.toArray},qt rfl⟩)) (λb u z=>?_) (λb z=>?_) λ_=>L
  ·by_cases f:b=a
   ·exact .inr ⟨_,_,qt f⟩
   ·exact .inl (qu f)
  ·by_cases f:b=a
   ·have B:=(qt f).symm.trans z;cases B;subst f;exact⟨C,by rw[am];exact Q,vs,_,R,C⟩
   ·have B:=(qu f).symm.trans z;cases B
  ·by_cases f:b=a
   ·exact f
   ·exact absurd (qu f) z
theorem walk_of {l:W.OpenLaw}{K:d9->W.Frag}{B:World->CXT}{C:World->Sp}
  (hn:l.most=some n) (p:n<=au) (r:d.params.defaults=[]) (hr:Room k pv)
  (I:∀w h,J w h->(K w.params).In h)
  (F:∀w mg fa h,(K w.params).In h->h.Ns bo mg->mg d.name=some (.ref fa)->∃fd,(∀s u,oa s fd ⟨[u],[]⟩ [(x,u)])/\∀base,(K w.params).In base->base.Ns bo mg->FnOk l.prog w (K w.params) mg base (B w) k fa fd [x] (C w))
  (t:∀w H a (ns:List Int),ns.length<=n->Only H->SqL (K w.params) H a (ns.map V.int)->C w [.ref a] H (λv _=>v=.bl true) λ_ _ _=>False)
  (y:∀w H s e z,B w [] H s (λ_ _ _=>False) e z->False):
  W.WalkO q loose S J l.row.toRowW d [] (λf D=>PySem.call f D):=by
 refine Att.attach_call hn r λw s₀ j mg U fa o X cd L a D ns G Y Z hd M A m i c N=>?_;have E:=I w _ Y;obtain⟨fd,O,P⟩:=F w mg fa _ E G.T.g A;exact zgc E G.T.g G.T.b G.T.builtins G.T.nolimit N m i (bq c p) hr P O (λH Q R=>t w H a ns c Q R) λH e z=>y w H j e z
def z0j (s:Stmt):Arguments:=match s with
 |.FunctionDef _ a _ _ _ _ _ _ _ _=>a
 |_=>{posonlyargs:=[],args:=[],vararg:=none,kwonlyargs:=[],kw_defaults:=[],kwarg:=none,defaults:=[]}
def z0d (s:Stmt):List Stmt:=match s with
 |.FunctionDef _ _ b _ _ _ _ _ _ _=>b
 |_=>[]
def z08 (s:Stmt):Scope:=match s with
 |.FunctionDef _ _ _ _ _ _ sc _ _ _=>sc
 |_=>{kind:=.function,names:=[],isGenerator:=false,isCoroutine:=false}
abbrev lU:CXT:=λ_ _ _ _ _ _=>False
abbrev E0:XK:=λ_ _ _=>False
theorem Mp:z1w lU X E0:=λ_ _ _ _ _ _ _ h=>h.elim
structure Fun (K:W.Frag)(x qual:Str)(st:Stmt)(f:Addr)(fd:dt):Prop where
 ex:∃(oc:Value) (od:Option Addr) (kV doc pm:Value) (an:Option Addr) (rV ct:Value) (u7:Array (Option Value)),fd=W.fnOf x qual (z0j st) (z0d st) (z08 st) .none kV doc pm an rV ct/\K.lookup f=some ⟨oc,od,.func fd,u7⟩/\W.codeIn K rV qual=true
 kp:W.keepIn K (.ref f)=true
section
variable {P:cj}{w:World}{K:W.Frag}{mg:Str->Option Value}{base:Heap}
theorem Fun.ok {st:Stmt}(F:Fun K x b st f fd)(S:FnScope N ps (z08 st))(len:∀vs H Q E,g vs H Q E->vs.length=ps.length)
  (c:∀a A outer s H vs Q E,Room k (A.deeper (n5 b (z08 st) s.heap.objs.size f a))->g vs H Q E->∃t,PSs (gT lU P w K mg base N b (z08 st) f a A outer s H E).uL (z0d st) t/\t {nx:=λ_ i=>Q .aK i,rt:=Q} (start N vs) H):FnOk P w K mg base lU (k+1) f fd ps g:=by
 obtain⟨oc,od,kV,j,n,an,a,ct,l,rfl,m,d⟩:=F.ex;refine zn9 m d S len λA outer s H vs Q E hr e=>?_;obtain⟨t,h,q⟩:=c a A outer s H vs Q E hr e;exact⟨t,h.uL,q⟩
theorem Fun.binds {st:Stmt}(F:Fun K x c st f fd)
  (h:∀kV a d an b ct e,e.length=ps.length->kb (W.fnOf x c (z0j st) (z0d st) (z08 st) .none kV a d an b ct) ⟨e,[]⟩=pure (ps.zip e)):Binds K fd ps []:=by
 obtain⟨oc,od,kV,a,d,an,b,ct,g,rfl,j,i⟩:=F.ex;exact .all (h kV a d an b ct)
theorem Ax {st:Stmt}{kV:Value}(l:K.lookup f=some ⟨oc,od,.func (W.fnOf x a (z0j st) (z0d st) (z08 st) .none kV d g an b ct),e⟩) (c:W.codeIn K b a=true) (k:W.keepIn K (.ref f)=true):Fun K x a st f (W.fnOf x a (z0j st) (z0d st) (z08 st) .none kV d g an b ct):=⟨⟨oc,od,kV,d,g,an,b,ct,e,rfl,l,c⟩,k⟩
end
theorem jZ {B:Prop}(h:B):if false=true then A else B:=h
theorem j' {B:Prop}(h:A):if true=true then A else B:=h
def Same (H H':Hp):Prop:=∀b o,H b=some o->H' b=some o
theorem Same.refl (H:Hp):Same H H:=λ_ _ h=>h
theorem Same.trans (a:Same H H1)(b:Same H1 d):Same H d:=λc o h=>b c o (a c o h)
theorem Mr:CallR X (.builtin "len") (λb H Q=>∃a kvs,b=[V.ref a]/\H a=some (.dK kvs)/\Q (.int kvs.length) H):=by
 rintro c s f H b g Q I r ⟨a,kvs,rfl,d,q⟩
 obtain⟨u,rfl,rfl⟩:=vals1 r;exact LO I (.inl d) λt h e=>⟨.int kvs.length,H,e,⟨t,rfl⟩,q⟩
end L2
set_option maxHeartbeats 5000000
namespace L2
open PySem PySem.Spec PyProof.Rows
def eQ (env:Env):List (Str×ek)->List (Str×Addr)->List (Str×Addr)
 | [],cs=>cs
 |(n,k)::r,cs=>eQ env r (if(k==.free)=true then(n,(env.cells.lookup n).getD 0)::cs else cs)
theorem FE:∀(l:List (Str×ek)) (cs:List (Str×Addr)),(∃c,cs.lookup x=some c)->∃c,(eQ env l cs).lookup x=some c
 | [],cs,h=>h
 |(n,k)::r,cs,h=>by
  refine FE r _ ?_;split
  ·by_cases e:(x==n)=true
   ·exact⟨_,by rw[cn,e]⟩
   ·obtain⟨c,a⟩:=h;exact⟨c,by rw[cn,pw.mpr e];exact a⟩
  ·exact h
theorem Ay:∀(l:List (Str×ek)) (cs:List (Str×Addr)),l.lookup x=some .free->∃c,(eQ env l cs).lookup x=some c
 | [],cs,h=>by simp at h
 |(n,k)::r,cs,h=>by
  rw[cn]at h;cases e:(x==n)with
  |true=>rw[e]at h;have hk:=qv h;subst hk;exact FE r _ ⟨_,by rw[qt (by rfl),cn,e]⟩
  |false=>rw[e]at h;exact Ay r _ h
theorem zbq:∀(l:List (Str×ek)) (cs:List (Str×Addr)),(∀y∈l,y.2=.free->∃c,env.cells.lookup y.1=some c)->(∀x c,cs.lookup x=some c->env.cells.lookup x=some c)->
  ∀x c,(eQ env l cs).lookup x=some c->env.cells.lookup x=some c
 | [],cs,_,h=>h
 |(n,k)::r,cs,g,h=>by
  refine zbq r _ (λy i=>g y (ay _ i)) λx c a=>?_;by_cases hk:(k==NameKind.free)=true
  ·rw[qt hk,cn]at a;cases e:(x==n)with
   |true=>
    rw[e]at a;have f:x=n:=by simpa using e
    obtain⟨d,hd⟩:=g (n,k) bj (by simpa using hk);have b:=hd;rw[b]at a;rw[f,b];exact a
   |false=>rw[e]at a;exact h x c a
  ·rw[qu hk]at a;exact h x c a
theorem FF (h:∀y∈scope.names,y.2=.free->∃c,env.cells.lookup y.1=some c):closureFor scope env=pure (eQ env scope.names []):=by
 have go:∀(l:List (Str×ek)) (cs:List (Str×Addr)),(∀y∈l,y.2=.free->∃c,env.cells.lookup y.1=some c)->
   (forIn l cs λ(x:Str×ek) (r:List (Str×Addr))=>if(x.2==NameKind.free)=true then(do let a <-cellOf env x.1;pure (ForInStep.yield ((x.1,a)::r)):Sem _)else pure (ForInStep.yield r))=(pure (eQ env l cs):Sem _):=by
  intro l
  induction l with
  |nil=>intro cs _;rfl
  |cons y r g=>
   intro cs d;obtain⟨n,k⟩:=y;rw[List.forIn_cons];unfold eQ;by_cases hk:(k==NameKind.free)=true
   ·obtain⟨c,i⟩:=d (n,k) bj (by simpa using hk);have b:=i;have e:cellOf env n=pure c:=by unfold cellOf;rw[b]
    rw[qt hk,qt hk];rw[e,b];exact g ((n,c)::cs) λy f=>d y (ay _ f)
   ·rw[qu hk,qu hk];exact g cs λy f=>d y (ay _ f)
 have:=go scope.names [] h
 first
  |exact this
  |(show(forIn scope.names [] _>>=λr=>pure r)=_;rw[show(forIn scope.names ([]:List (Str×Addr)) _:Sem _)=_ from this];rfl)
theorem zb3 (f:∀y∈scope.names,y.2≠.cell):
  (relabel scope env).names.lookup x=some .cell\/(relabel scope env).names.lookup x=some .free->scope.names.lookup x=some .free:=by
 have go:∀(l:List (Str×ek)),(∀y∈l,y.2≠ .cell)->∀k,(k=NameKind.cell\/k=NameKind.free)->
   (l.map λ(n,k)=>if(k==.free&&env.scope.kind==.function&&env.kindOf n==some .cell)then(n,NameKind.cell)else(n,k)).lookup x=some k->l.lookup x=some .free:=by
  intro l
  induction l with
  |nil=>intro _ k _ h;simp at h
  |cons y r g=>
   intro b k hk h;obtain⟨n,q⟩:=y;rw[bn]at h;rw[cn];by_cases c:(q==NameKind.free&&env.scope.kind==.function&&env.kindOf n==some .cell)=true
   ·have a:q=.free:=by
     simp at c;simpa using c.1.1
    dsimp only at h
    rw[qt c,cn]at h;cases e:(x==n)with
    |true=>rw[a]
    |false=>rw[e]at h;exact g (λy d=>b y (ay _ d)) k hk h
   ·dsimp only at h
    rw[qu c,cn]at h;cases e:(x==n)with
    |true=>
     rw[e]at h;have a:=qv h;rcases hk with hk|hk
     ·exact absurd (a.trans hk) (b (n,q) bj)
     ·show some q=some .free;rw[a,hk]
    |false=>rw[e]at h;exact g (λy d=>b y (ay _ d)) k hk h
 rintro(h|h)
 ·exact go scope.names f .cell (.inl rfl) h
 ·exact go scope.names f .free (.inr rfl) h
def blk (X:Cx)(scope:Scope)(N':List Str)(C:Addr)(fp:List Addr)(s:az)(H:Hp):Cx:={X with N:=N',s₀:=s,gR:=H,env:=compEnvC scope (eQ X.env scope.names []) C X.env,outer:=X.stack,stack:=X.stack,ex:=fp,fn:=λ_=>false,xe:=λ_ _=>False,fx:=none}
structure BlkScope (X:Cx)(scope:Scope)(N':List Str)(nt:Nat)(js:List Nat):Prop where
 kind:scope.kind=.function
 lV:∀y∈scope.names,y.2≠.cell
 names:∀y∈scope.names,y.2=.local->scope.names.lookup y.1=some .local
 frees:∀y∈scope.names,y.2=.free->X.env.scope.names.lookup y.1=some .cell\/X.env.scope.names.lookup y.1=some .free
 nd:N'.Nodup
 len:N'.length=nt+js.length
 pl:∀(i j:Nat),js[i]?=some j->N'[nt+i]?=X.N[j]?/\∃x,X.N[j]?=some x/\scope.names.lookup x=some .free
def oI (NX:List Str)(FG scope:Scope)(N':List Str)(nt:Nat)(js:List Nat):Bool:=
 (scope.kind==.function)&&scope.names.all (λy=>!(y.2==.cell))&&scope.names.all (λy=>!(y.2==.local)||(scope.names.lookup y.1==some .local))&&
 scope.names.all (λy=>!(y.2==.free)||(FG.names.lookup y.1==some .cell)||(FG.names.lookup y.1==some .free))&&decide N'.Nodup&&(N'.length==nt+js.length)&&
 (N'.drop nt==js.map λj=>NX.getD j "")&&js.all (λj=>decide (j<NX.length)&&(scope.names.lookup (NX.getD j "")==some .free))
theorem FH (hN:X.N=f)(hs:X.env.scope=c)(h:oI f c scope k l m=true):BlkScope X scope k l m:=by
 unfold oI at h;simp only[bv,b6,decide_eq_true_eq,beq_iff_eq,ko,py,beq_eq_false_iff_ne]at h;obtain⟨⟨⟨⟨⟨⟨⟨n,o⟩,p⟩,q⟩,r⟩,s⟩,t⟩,u⟩:=h;refine⟨n,o,λy d e=>(p y d).resolve_left (λz=>z e),λy d e=>?_,r,s,λi j g=>?_⟩
 ·rw[hs];rcases q y d with(z|z)|z
  ·exact absurd e z
  ·exact .inl z
  ·exact .inr z
 ·obtain⟨a,b⟩:=u j (aw g);have e:X.N[j]?=some (f.getD j ""):=by rw[hN,ah a,ac,ah a];rfl
  refine⟨?_,_,e,b⟩;rw[e,<-List.getElem?_drop,t,av,g];rfl
def eR (nt:Nat)(js:List Nat)(σ:St):St:=ao nt none++js.map λj=>σ.getD j none
theorem zke (B:BlkScope X scope P F Q)(I:Inv X pins σ H s)
  (w:∀b∈fp,FpOk X pins H b) (R:∀b∈fp,∃o,s.heap.get? b=some o)
  (k:∀b o,s.heap.get? b=some o->N.get? b=some o) (hn:N.Ns s.heap.objs.size m1):
  Inv (blk X scope P s.heap.objs.size fp s H) pins (eR F Q σ) H {s with heap:=N,toks:=t1}:=by
 have S:∀y∈scope.names,y.2=.free->∃c,X.env.cells.lookup y.1=some c:=λy O hf=>I.ok.has y.1 (B.frees y O hf);have g:∀x c,(eQ X.env scope.names []).lookup x=some c->X.env.cells.lookup x=some c:=zbq _ _ S (λx c h=>by simp at h);have lt:∀b o,s.heap.get? b=some o->b≠s.heap.objs.size:=λb o e=>cb (bg e);have hf:=I.hok.fresh (ae _);refine⟨⟨I.ok.mod,B.kind,I.ok.glob,I.ok.blt,ae _,λx y c N h2=>I.ok.inj x y c (g x c N) (g y c h2),λx T=>Ay _ _ (zb3 B.lV T),λx c h=>(by cases h),I.ok.hd,I.ok.frames,.inl rfl,λb D=>?_,I.bs,bq I.ok.iK I.sz,λb o e D=>?_,λb D T=>?_,I.stack,I.fY,λ_ _ z=>by cases z⟩,rfl,I.bare,Un.kept k,⟨m1,hn,λi x v e1 A e3=>?_⟩,λx c e=>?_,hf,λx c e=>I.aW x c (g x c e),λp hp=>?_,I.hok.kept k,?_,λ_ _ z=>by cases z⟩
 ·obtain⟨o,G⟩:=R b D;exact⟨lt b o G,λx c h=>(w b D).2.2.2.2.1 x c (g x c h)⟩
 ·rcases(w b D).2.2.2.1 with z|z
  ·exact I.ok.fV b o e z
  ·exact absurd (b8 (bg e) (bq I.ok.iK z)) (cu _)
 ·rcases ax.mp (I.fX b T)with z|z
  ·exact(w b D).2.1 z
  ·exact(w b D).2.2.1 z
 ·--a name with a value:one of U6 yh
  have hi:F<=i:=by refine Nat.le_of_not_lt λh=>?_;unfold eR at A;rw[dn (bw▸h),cc,qt h]at A;cases A
  unfold eR at A;rw[dj (bw▸hi),bw,av]at A;cases U:Q[i-F]? with
  |none=>rw[U]at A;cases A
  |some j=>
   rw[U]at A;have C:σ.getD j none=some v:=qv A;obtain⟨J,y,O,f⟩:=B.pl (i-F) j U;rw[ol hi]at J;have V:x=y:=by have K:P[i]?=some x:=e1;rw[J,O]at K;exact(qv K).symm
   subst V
   have W:σ[j]?=some (some v):=by
    rw[ac]at C;cases q:σ[j]? with
    |none=>rw[q]at C;cases C
    |some z=>rw[q]at C;simp_all
   have L:=B.frees (x,.free) (PySem.mem_of_lookup f) rfl;have M:Vis X.env.scope x:=L.elim (λz=>.inr (.inl z)) (λz=>.inr (.inr z));obtain⟨m,U7,hl⟩:=I.loc;obtain⟨u,r,l⟩:=hl j x v O W M;refine⟨u,r,?_⟩;rcases l with⟨hk,_⟩|⟨hk,c,hc,E⟩
   ·rcases L with z|z
    ·have t:X.env.scope.names.lookup x=some .local:=hk;rw[z]at t;cases t
    ·have t:X.env.scope.names.lookup x=some .local:=hk;rw[z]at t;cases t
   ·obtain⟨d,hd⟩:=Ay scope.names [] f;have Y:d=c:=by have:=g x d hd;rw[hc]at this;cases this;rfl
    subst Y;refine .inr ⟨?_,d,hd,?_⟩
    ·rcases e3 with z|z|z
     ·exfalso;have z':=z
      have:∀(l:List (Str×ek)),l.lookup x=some .free->(l.map λ(n,k)=>if(k==.free&&X.env.scope.kind==.function&&X.env.kindOf n==some .cell)then(n,NameKind.cell)else(n,k)).lookup x≠some .local:=by
       intro l
       induction l with
       |nil=>intro h;simp at h
       |cons y r ih=>
        intro h;obtain⟨n,q⟩:=y;rw[cn]at h;rw[bn]
        dsimp only
        cases e:(x==n)with
        |true=>
         rw[e]at h;have hq:=qv h;subst hq;split
         ·rw[cn,e];intro z;cases z
         ·rw[cn,e];intro z;cases z
        |false=>
         rw[e]at h;split
         ·rw[cn,e];exact ih h
         ·rw[cn,e];exact ih h
      exact this _ f z'
     ·exact .inl z
     ·exact .inr z
    ·obtain⟨o,G,Z⟩:=E;exact⟨o,k _ _ G,Z⟩
 ·obtain⟨v,o,G,hd⟩:=I.cell x c (g x c e);exact⟨v,o,k _ _ G,hd⟩
 ·obtain⟨q1,q2,q3,q4,q5⟩:=I.pin p hp;refine⟨k _ _ q1,q2,lt _ _ q1,λz=>?_,q5⟩;rcases ax.mp (I.fX p.1 z)with z|z
  ·exact q3 z
  ·exact q4 z
 ·show(eR F Q σ).length=P.length;unfold eR;rw[bf,bw,am,B.len]
section
variable (M:Model)(A:fk)(env:Env)
abbrev fN:Value->az->Prop:=λ_ _=>False
def Mu (acc:Value)(Z:az->Prop)(x:Value):az->Prop:=wpAny M A (call (.builtin "list.append") [acc,x]) (λ_=>Z) fN
def Az (elt:Expr)(acc:Value)(Z:az->Prop)(ok:Bool)(s:az):Prop:=if ok=true then wpAny M A (eval elt env) (Mu M A acc Z) fN s else Z s
def Mv (ifs:List Expr)(elt:Expr)(acc:Value)(Z:az->Prop):az->Prop:=wpAny M A (forIn ifs true λc r=>if r=true then(qc c env (eval c env)>>=λok=>pure (ForInStep.yield ok))else pure (ForInStep.yield r)) (Az M A env elt acc Z) fN
def AA (tg:Expr)(ifs:List Expr)(elt:Expr)(acc:Value)(Z:az->Prop)(v:Value):az->Prop:=wpAny M A (pb tg env v) (λ_=>Mv M A env ifs elt acc Z) fN
def AD (tg:Expr)(ifs:List Expr)(elt:Expr)(it acc:Value)(End Z:az->Prop)(r:Option Value)(s:az):Prop:=match r with
 |some v=>wpAny M A (jk tg it v) (λ_=>AA M A env tg ifs elt acc Z v) fN s
 |none=>End s
end
theorem zkr (I:Nat->az->Prop)
  (one:∀k t,I k t->wpAny (model P w) A (pyNext d) (AD (model P w) A env i a b d c (R (.ok .next)) λj=>∃m,m<k/\I m j) fN t) (n:Nat) (h:I n s):
  i8 (model P w) A (.compLoop (.ListComp b [⟨i,e,a,0⟩] scope D) 0 d c env) R s:=by
 apply codeAny_loop rfl I _ n h;intro k t hk;apply wpAny_noted;apply wpAny_noRaise;apply aa;apply gf;apply aa;refine aI (one k t hk) ?_
 rintro(_|v) r f
 ·exact bb f
 apply aa;refine aI f λ_ u l=>?_;apply aa;refine aI l λ_ y o=>?_;apply aa;refine aI o ?_
 rintro(_|_) z g
 ·exact bb ⟨rfl,g⟩
 apply aa;apply aa;refine aI g λx B p=>?_;apply aa;refine aI p λ_ C q=>?_;exact bb (bb ⟨rfl,q⟩)
theorem Un.but (u:Un fs ex H j h f)(g:h.get? C=none)(c:gb C f i):Un fs ex H j h i:=by
 have ne:∀b o,h.get? b=some o->b≠C:=λb o e z=>by rw[z,g]at e;cases e
 exact⟨λb o e n d a=>c.extBut b o (ne b o e) (u.keep b o e n d a),λb o e n d a=>let⟨sl,q⟩:=u.slot b o e n d a;⟨sl,c.extBut b _ (ne b o e) q⟩,u.free,λb o e a=>let⟨o',q⟩:=u.there b o e a;⟨o',c.extBut b _ (ne b o e) q⟩,u.cN,u.cJ,u.cO⟩
theorem HOk.but (ok:HOk P w H h)(d:H C=none)(f:gb C h g):HOk P w H g:=λa o e=>by
 refine(ok a o e).stay (λb u c q=>f.extBut b u (λz=>?_) q) (λ_ q=>q) λ_ _ q=>q;rcases c with c|c
 ·rw[z]at c;rw[<-c,d]at e;cases e
 ·rw[z,d]at c;cases c
def oJ (X:Cx)(ifs:List Expr)(t:TT):Prop:=∀(pins:List (Addr×Obj)) (s:az) (σ:St) (H:Hp) (Q:Bool->Hp->Prop),Inv X pins σ H s->t σ H Q->wpAny (model X.prog X.w) X.A (forIn ifs true λc r=>if r=true then do let ok <-qc c X.env (eval c X.env);pure (ForInStep.yield ok)else pure (ForInStep.yield r)) (TP X pins σ Q) X.xe s
def u9:TT:=λ_ H Q=>Q true H
theorem FI:oJ X [] u9:=λ_ _ _ H _ I h=>wpAny_tests_nil ⟨H,I,h⟩
theorem FJ (h:PT X c t):oJ X [c] t:=λa s b H Q I q=>wpAny_tests_one (h a s b H Q I q)
def fH (a b:St):Prop:=a.length=b.length/\∀(i:Nat) v,a[i]?=some (some v)->b[i]?=some (some v)
def vb (wi:TI)(g:TG)(tc:TT)(te:TE)(em:St->St):TE:=λσ H Q=>wi σ H λJ H1=>∀l,H1 l=none->∃P:Nat->Nat->List V->Hp->Prop,(∃m,P 0 m [] (upd H1 l (.lst [])))/\∀i m acc H2,P i m acc H2->(J.stop i H2/\Q (.ref l) H2)\/(J.go i H2/\acc.length<au/\∃N:List V->Hp->Prop,(∀lW H',N lW H'->∃m',m'<m/\P (i+1) m' lW H')/\∀x H3,J.gO i H2 x H3->g x (em σ) H3 λkA H4=>fH (em σ) kA/\tc kA H4 λb H5=>if b=true then te kA H5 λy H6=>H6 l=some (.lst acc)/\N (acc++[y]) (upd H6 l (.lst (acc++[y])))else N acc H5)
theorem z5a {Q:VK}{RR:Value->Addr->Result->az->Prop}(hc:X.calm=true)(B:BlkScope X scope O nt js)
  (hg:∀C t s H,PG (blk X scope O C t s H) tg g) (ht:∀C t s H,oJ (blk X scope O C t s H) ifs tc) (he:∀C t s H,PE (blk X scope O C t s H) elt te)
  (h2:tR X Y σ tg (λJ H1=>∀l,H1 l=none->∃P:Nat->Nat->List V->Hp->Prop,(∃m,P 0 m [] (upd H1 l (.lst [])))/\∀i m a G,P i m a G->(J.stop i G/\Q (.ref l) G)\/(J.go i G/\a.length<au/\∃N:List V->Hp->Prop,(∀D H',N D H'->∃m',m'<m/\P (i+1) m' D H')/\∀x H3,J.gO i G x H3->g x (eR nt js σ) H3 λkA H4=>fH (eR nt js σ) kA/\tc kA H4 λb H5=>
  if b=true then te kA H5 λy H6=>H6 l=some (.lst a)/\N (a++[y]) (upd H6 l (.lst (a++[y])))else N a H5)) uQ h)
  (Mw:∀(l C:Addr) (H':Hp) (s1:az),(∃m,s1.heap.Ns C m)->H' C=none->C≠X.env.locals->C∉X.fs->(∀x c,X.env.cells.lookup x=some c->c≠C)->X.s₀.heap.objs.size<=C->(∀p∈X.pn++Y,p.1≠C)->(∀h',gb C s1.heap h'->Inv X Y σ H' {s1 with heap:=h'})->Q (.ref l) H'->RR (.ref l) C (.ok .next) s1):
  wpAny (model X.prog X.w) X.A (newList []) (λa F=>wpAny (model X.prog X.w) X.A (newFunctionEnv scope X.env.globals (eQ X.env scope.names []) [] X.env.qual none .none (some X.env)) (λU AE=>i8 (model X.prog X.w) X.A (.compStart (.ListComp elt [⟨tg,iter,ifs,0⟩] scope pos) 0 uQ a {U with scope:=relabel scope X.env}) (RR a U.locals) AE) E F) E h:=by
 obtain⟨it,t,tn,J,G,rfl,I2,T,AF,f2,q⟩:=h2;refine gx (wpAny_newFunctionEnv B.lV (by intro y hy;simp at hy) (λh₁ I K=>?_) B.kind);have W:∀b∈t,∃o,h.heap.get? b=some o:=λb f=>let⟨o,e,_⟩:=T.obj 0 _ AF b f;⟨o,e⟩;have hl:=I2.hok.fresh (ae _);have R:=I2.lnew (t':=h.toks) .nil (db _);obtain⟨P,⟨m0,p0⟩,turn⟩:=q _ hl;generalize Mx:h.heap.push {cls:=.type "list",dict:=none,data:=.seq ([]:List Value).toArray}=j at I K R ⊢;generalize My:h.heap.objs.size=l at hl R p0 turn ⊢;have L:∀b o,h.heap.get? b=some o->j.get? b=some o:=λb o e=>Mx▸ak _ e;have k:=λb o e=>K.extBut b o (cb (bg e)) (ak _ e);have f3:∀b∈t,FpOk X Y (upd G l (.lst [])) b:=λb f=>by obtain⟨o,e⟩:=W b f;have nl:b≠l:=My▸cb (bg e);exact⟨by rw[aE nl];exact(f2 b f).1,(f2 b f).2⟩
 have AG:∀b∈t,∃o,j.get? b=some o:=λb f=>let⟨o,e⟩:=W b f;⟨o,L b o e⟩;have J0:=zke (t1:=h.toks+([]:List (Str×Value)).length) B R f3 AG k I;have AH:∀{H':Hp},(∀b∈t,H' b=none)->∀b∈t,FpOk (blk X scope O j.objs.size t {h with heap:=j,toks:=h.toks} (upd G l (.lst []))) Y H' b:=λhn b f=>⟨hn b f,(J0.ok.iJ b f).1,J0.ok.fW b f,.inl f,(J0.ok.iJ b f).2,(f2 b f).2.2.2.2.2⟩;have Mz:j.get? j.objs.size=none:=gw (ae _);have out:∀{H':Hp} {s1:az},Inv (blk X scope O j.objs.size t {h with heap:=j,toks:=h.toks} (upd G l (.lst []))) Y (eR nt js σ) H' s1->∀h',gb j.objs.size s1.heap h'->Inv X Y σ H' {s1 with heap:=h'}:=λ{H' s1} Jn h' sb=>by refine R.call' Jn.os (Un.but Jn.base Mz sb) (Jn.hok.but Jn.free sb) Jn.bare λb f=>?_;exact⟨(f3 b f).2.2.2.1,(f3 b f).2.1,(f3 b f).2.2.2.2.1,(f3 b f).2.2.2.2.2⟩
 have nL:=Nat.ne_of_gt (R.lt);have nF:=R.uH (ae _);have nC:∀x c,X.env.cells.lookup x=some c->c≠j.objs.size:=λx c e z=>by obtain⟨v,q⟩:=R.cell x c e;exact absurd q.lt (z▸cu _)
 have nS:=R.sz;have nP:=λp hp=>cb (bg (R.pin p hp).1)
 have loop:∀F:az,F={h with heap:=h₁,toks:=h.toks+([]:List (Str×Value)).length}->
   i8 (model X.prog X.w) X.A (.compLoop (.ListComp elt [⟨tg,iter,ifs,0⟩] scope pos) 0 (.ref it) (.ref l) (compEnvC scope (eQ X.env scope.names []) j.objs.size X.env)) (RR (.ref l) j.objs.size) F:=by
  rintro F rfl
  refine zkr (λn s'=>∃i a H',Inv (blk X scope O j.objs.size t {h with heap:=j,toks:=h.toks} (upd G l (.lst []))) Y (eR nt js σ) H' s'/\tn i s'.heap/\(∀b∈t,H' b=none)/\P i n a H') ?_ m0 ⟨0,[],_,J0,T.keep _ _ _ AF λb _ o e=>k b o (L b o e),λb f=>(f3 b f).1,p0⟩
  rintro n s3 ⟨i,a,H3,Jn,FK,FN,w3⟩
  rcases turn i n a H3 w3 with⟨stop,qn⟩|⟨go,MA,N,hN,step⟩
  ·refine aI (T.done (blk X scope O j.objs.size t {h with heap:=j,toks:=h.toks} (upd G l (.lst []))) rfl rfl rfl hc i Y s3 _ H3 (λ_ _=>False) Jn (AH FN) FK stop) λr s4 ⟨hr,I4⟩=>?_;subst hr;obtain⟨m,hn,_⟩:=id I4.loc;exact Mw l j.objs.size H3 s4 ⟨m,hn⟩ I4.free nL nF nC nS nP (out I4) qn
  ·refine aI (T.item (blk X scope O j.objs.size t {h with heap:=j,toks:=h.toks} (upd G l (.lst []))) rfl rfl rfl hc i Y s3 _ H3 (λ_ _=>False) Jn (AH FN) FK go) λr s4 ⟨u,hr,h4⟩=>?_;subst hr;refine aI h4 ?_
   rintro _ s5 ⟨x,H5,I5,r5,y5,AI,AJ⟩
   have MB:=I5.pinned (AH AJ) (T.obj _ _ AI);refine aI (hg _ _ _ _ _ s5 _ H5 x u _ MB r5 (step x H5 y5)) ?_
   rintro _ s6 ⟨S,H6,I6,kp,q6⟩
   refine aI (ht _ _ _ _ _ s6 S H6 _ I6 q6) λb s7 ⟨H7,I7,q7⟩=>?_
   have M:∀{s7:az} {H7:Hp} {D:List V},Inv (blk X scope O j.objs.size t {h with heap:=j,toks:=h.toks} (upd G l (.lst []))) (Y++z7o t s5.heap) S H7 s7->N D H7->
     ∃m,m<n/\∃i a H',Inv (blk X scope O j.objs.size t {h with heap:=j,toks:=h.toks} (upd G l (.lst []))) Y (eR nt js σ) H' s7/\tn i s7.heap/\(∀b∈t,H' b=none)/\P i m a H':=λ{s7 H7 D} I7 w7=>by
    obtain⟨n',hm,w7⟩:=hN _ _ w7;refine⟨n',hm,i+1,D,H7,(I7.cB).weak kp.1 kp.2,T.keep _ _ _ AI λb f o e=>(I7.pin (b,o) (br _ (br _ (tS f e)))).1,λb f=>?_,w7⟩;obtain⟨o,e,d⟩:=T.obj _ _ AI b f;exact(I7.pin (b,o) (br _ (br _ (tS f e)))).2.1
   cases b with
   |false=>exact M I7 q7
   |true=>
    refine aI (he _ _ _ _ _ s7 S H7 _ I7 q7) ?_
    rintro y' s8 ⟨y,H8,I8,r8,AK,w8⟩
    refine aI (Aw _ s8 S H8 (.ref l) [y] (.ref l) [y'] (λ_ H9=>N (a++[y]) H9) I8 rfl (.cons r8 .nil) ⟨l,a,y,rfl,rfl,AK,MA,w8⟩) ?_
    rintro _ s9 ⟨v9,H9,I9,r9,w9⟩
    exact M I9 w9
 exact codeAny_compStart_list (loop _ rfl) (T.self _ 0 _ _ _ (T.keep _ _ _ AF λb _ o e=>k b o (L b o e)) (loop _ rfl))
theorem z9u (j:X.calm=true)(B:BlkScope X scope c k n)(J:PI X i a o)
  (p:∀C b s H,PG (blk X scope c C b s H) i g) (r:∀C b s H,oJ (blk X scope c C b s H) d tc) (t:∀C b s H,PE (blk X scope c C b s H) e te)
  (hs:∀x,e6 a X.env x=pure x:=by intro _;rfl):PE X (.ListComp e [⟨i,a,d,0⟩] scope pos) (vb o g tc te (eR k n)):=by
 intro G s K H Q I h;refine lw rfl hs (FF λy u hf=>I.ok.has y.1 (B.frees y u hf)) B.kind B.names (aI (J G s K H _ I h) λv s1 w=>aI w λz F A=>?_);refine z5a j B p r t A ?_;intro l C L s1 ns _ _ _ _ _ _ f q;obtain⟨m,hn⟩:=ns;exact⟨m,hn,λD E=>⟨.ref l,L,f D E,rfl,q⟩⟩
def MC (i:Nat)(t:TE):TS:=λD σ H=>t σ H λv H1=>D.nx (σ.set i (some v)) H1
theorem zg9 (U:X.calm=true)(hN:X.N.Nodup)(V:X.N[i]?=some y)(O:X.env.scope.names.lookup y=some .local)(B:BlkScope X scope t W Y)(hi:PI X u a wi)
  (hg:∀C c s H,PG (blk X scope t C c s H) u g) (ht:∀C c s H,oJ (blk X scope t C c s H) d tc) (he:∀C c s H,PE (blk X scope t C c s H) f te)
  (E:i7 (.ListComp f [⟨u,a,d,0⟩] scope pos) (some (.Name y F)) j.line X.env=pure true)
  (hs:∀x,e6 a X.env x=pure x:=by intro _;rfl):PS X (.Assign [.Name y F] (.ListComp f [⟨u,a,d,0⟩] scope pos) j) (MC i (vb wi g tc te (eR W Y))):=by
 intro Z s σ H D I h;have ex:=exec_Assign_Name_used _ _ _ _ E;rw[ex];apply aa;apply gf;apply aa;refine aa (fm (lw (use:=some (pb (.Name y F) X.env)) rfl hs (FF λz hz hf=>I.ok.has z.1 (B.frees z hz hf)) B.kind B.names (aI (hi Z s σ H _ I h) λv s1 h1=>aI h1 λuQ s2 h2=>?_)) (λ_ s' hq=>bb (bb hq)) λ_ _ e=>e);refine z5a (Q:=λv H1=>D.nx (σ.set i (some v)) H1) (RR:=λG C=>compPost (model X.prog X.w) X.A X.xe (some (pb (.Name y F) X.env)) (λ_ s'=>SP X Z D .next s') G C) U B hg ht he h2 ?_;intro l C H' s1 ns P R nF nC nS nP J q;obtain⟨m,hn⟩:=ns;have S:=J s1.heap (.refl ..);obtain⟨r,es,ep,K,k,L⟩:=id hn
 have I2:Inv X (Z++[(C,r)]) σ H' s1:=S.fZ λp hp=>(cz.mp hp).elim (λz=>S.pin p (br _ z)) λz=>by
  have e:p=(C,r):=by simpa using z
  subst e;exact⟨K,P,R,nF,λv z=>by have T:=z;rw[k]at T;cases T⟩
 refine pf (z6r I2 hN V (.inl O) (v:=.ref l) rfl (λrO n=>?_) (.inr O));have M:=(n.pin (C,r) (br _ (br _ (bu.mpr rfl)))).1;refine⟨m,⟨r,es,ep,M,k,L⟩,λh' sb=>⟨_,H',?_,q⟩⟩;exact(n.cB).turned (λb o hb e=>sb.extBut b o hb e) P R (.inr nS) nC nP
def AL (z:Str):It:=⟨λi _=>i<z.cps.size,λi H x H'=>H'=H/\∃c,z.cps[i]?=some c/\x=.str ⟨#[c]⟩,λi _=>z.cps.size<=i⟩
theorem MD {K:W.Frag}(j:ty="str_ascii_iterator"\/ty="str_iterator")(a:Addr)(z:Str)(t:Tok):Turn P w K N (AL z) [a] a (λi h=>h.IsStrIter a ty z t i) where
 mem:=by simp
 obj:=λi h st b l=>by
  have e:b=a:=by simpa using l
  subst e;obtain⟨o,e,c,d⟩:=st;exact⟨o,e,λv z=>by rw[d]at z;cases z⟩
 keep:=λi h g st k=>let⟨o,e,r⟩:=st;⟨o,k a (by simp) o e,r⟩
 item:=by
  intro X G J L n i T s V H E I hf st B;subst G J L;obtain⟨f0,f1,f2,f3,q,y⟩:=hf a (by simp);have U:=B
  have p:∀(u:Value) (g:Heap) (m:Nat),SignAt z i u->g.IsStrIter a ty z t (i+1)->(∀b o,b∉ [a]->s.heap.get? b=some o->g.get? b=some o)->
    ∃C,some u=some C/\wpAny (model X.prog X.w) X.A (jk N (.ref a) C) (λ_ M=>∃x Y,Inv X T V Y M/\RelV x C/\(AL z).gO i H x Y/\M.heap.IsStrIter a ty z t (i+1)/\∀b∈[a],Y b=none) E {s with heap:=g,toks:=m}:=by
   rintro u g m ⟨c,O,Q,rfl⟩ f kk
   have R:Inv X T V H {s with heap:=g,toks:=m}:=I.turned (λb o l e=>kk b o (by simpa using l) e) f0 f1 f3 q y;obtain⟨o,e,S,d⟩:=id f;exact⟨_,rfl,zga e S d (by rcases j with rfl|rfl<;>decide) ⟨.str ⟨#[c]⟩,H,R,⟨O,rfl⟩,⟨rfl,c,Q,rfl⟩,f,λb l=>(hf b l).1⟩⟩
  rcases j with rfl|rfl
  ·exact(Walks.strAscii (I.ok.hd n) a z t).item i s _ _ U st λv g m D f kk=>p v g m D f kk
  ·exact(Walks.strWide (I.ok.hd n) a z t).item i s _ _ U st λv g m D f kk=>p v g m D f kk
 done:=by
  intro X G J L n i T s V H E I hf st B;obtain⟨f0,f1,f2,f3,q,y⟩:=hf a (by simp);have U:z.cps[i]?=none:=by have:z.cps.size<=i:=B;simpa using this
  rcases j with rfl|rfl
  ·exact wpAny_pyNext_ascii_end (I.ok.hd n) st U λg F=>⟨rfl,I.turned (λb o l e=>F b o l e) f0 f1 f3 q y⟩
  ·exact wpAny_pyNext_wide_end (I.ok.hd n) st U λg F=>⟨rfl,I.turned (λb o l e=>F b o l e) f0 f1 f3 q y⟩
 self:=λ_ _ _ _ _ st h=>by
  rcases j with rfl|rfl
  ·exact wpAny_pyIter_striter_ascii st h
  ·exact wpAny_pyIter_striter_wide st h
theorem zu6 {J:It}{g:TG}{tc:TT}{C:TE}{Q:VK}(P:Nat->List V->Hp->Prop)(hn:n<=au)(h0:P 0 [] (upd D l (.lst [])))
  (q:∀i a H,P i a H->a.length<=i)
  (h:∀a H,P n a H->J.stop n H/\Q (.ref l) H) (u:∀i a H,i<n->P i a H->J.go i H)
  (r:∀i a H x j,i<n->P i a H->J.gO i H x j->g x k j λc v=>fH k c/\tc c v λb s=>if b=true then C c s λy t=>t l=some (.lst a)/\P (i+1) (a++[y]) (upd t l (.lst (a++[y])))else P (i+1) a s):
  ∃P:Nat->Nat->List V->Hp->Prop,(∃m,P 0 m [] (upd D l (.lst [])))/\∀i m a f,P i m a f->(J.stop i f/\Q (.ref l) f)\/(J.go i f/\a.length<au/\∃N:List V->Hp->Prop,(∀d B,N d B->∃w,w<m/\P (i+1) w d B)/\∀x j,J.gO i f x j->g x k j λc v=>fH k c/\tc c v λb s=>if b=true then C c s λy t=>t l=some (.lst a)/\N (a++[y]) (upd t l (.lst (a++[y])))else N a s):=by
 refine⟨λi m a H=>i<=n/\m=n-i/\P i a H,⟨n,db _,rfl,h0⟩,?_⟩
 rintro i m a f ⟨E,rfl,p⟩
 by_cases o:i<n
 ·have A:=q i a f p;exact .inr ⟨u i a f o p,by omega,P (i+1),λd B z=>⟨n-(i+1),by omega,o,rfl,z⟩,λx j y=>r i a f x j o p y⟩
 ·have e:i=n:=by omega
  subst e;exact .inl (h a f p)
theorem ME:OpR X (cw .LtE) (λx y H Q=>∃i j,x=.str i/\y=.str j/\Q (.bl (!decide (j.cps.toList<i.cps.toList))) H):=by
 rintro d s e H x y v u Q I a b ⟨i,j,rfl,rfl,q⟩
 obtain⟨t,rfl⟩:=a;obtain⟨c,rfl⟩:=b;exact PySem.P.le_str ⟨.bl _,H,I,rfl,q⟩
theorem MF:OpR X (cw .Gt) (λx y H Q=>∃i j,x=.str i/\y=.str j/\Q (.bl (decide (j.cps.toList<i.cps.toList))) H):=by
 rintro d s e H x y v u Q I a b ⟨i,j,rfl,rfl,q⟩
 obtain⟨t,rfl⟩:=a;obtain⟨c,rfl⟩:=b;exact PySem.P.gt_str ⟨.bl _,H,I,rfl,q⟩
def ve:V->Option Int->Option Int->Hp->VK->Prop:=λx lo hi H Q=>∃z,x=.str z/\z.length<=au/\Q (.str (Txt.slice z lo hi)) H
theorem yi:nQ X ve:=by
 rintro r s w H x v n p y A sl Q I m hs pl f ⟨z,rfl,b,q⟩
 obtain⟨t,rfl⟩:=m;refine⟨"str",_,PySem.F.slot_str_getitem.lookup,ql _ _ _,?_⟩;obtain⟨o,c,d,hd⟩:=hs;have a:∀g k,EP X r w Q (.str (Txt.slice z y A) g) {s with toks:=k}:=λg k=>⟨.str _,H,I.tok _,⟨_,rfl⟩,q⟩;cases pl with
 |none=>
  cases f with
  |none=>exact g8 (l:=none) (u:=none) (st:=none) ⟨o,c,d,hd⟩ rfl (kq ⟨bq (Txt.slice_le z _ _) b,a⟩)
  |int j e=>exact g8 (l:=none) (u:=some (j,e)) (st:=none) ⟨o,c,d,hd⟩ rfl (kq ⟨bq (Txt.slice_le z _ _) b,a⟩)
 |int i h=>
  cases f with
  |none=>exact g8 (l:=some (i,h)) (u:=none) (st:=none) ⟨o,c,d,hd⟩ rfl (kq ⟨bq (Txt.slice_le z _ _) b,a⟩)
  |int j e=>exact g8 (l:=some (i,h)) (u:=some (j,e)) (st:=none) ⟨o,c,d,hd⟩ rfl (kq ⟨bq (Txt.slice_le z _ _) b,a⟩)
def Own (K:W.Frag)(mg:Str->Option Value)(x:Str)(st:Stmt)(ps:List Str):Prop:=∃f fd,Fun K x x st f fd/\mg x=some (.ref f)/\W.keepIn K (.ref f)=true/\Binds K fd ps []
def Cal (P:cj)(w:World)(K:W.Frag)(mg:Str->Option Value)(base:Heap)(k:Nat)(x:Str)(ps:List Str)(sp:Sp):Prop:=∃f fd,FnOk P w K mg base lU k f fd ps sp/\mg x=some (.ref f)/\W.keepIn K (.ref f)=true/\Binds K fd ps []
section
variable {K:W.Frag}{mg:Str->Option Value}
theorem zos {st:Stmt}{kV:Value}(X:K.In h)(G:h.Ns bo mg)
  (a:W.nsIn K bo x=some (some (.ref f))) (l:K.lookup f=some ⟨oc,od,.func (W.fnOf x x (z0j st) (z0d st) (z08 st) .none kV e g an d ct),i⟩) (c:W.codeIn K d x=true) (k:W.keepIn K (.ref f)=true)
  (b:∀(kV e g:Value) (an:Option Addr) (d ct:Value) (j:List Value),j.length=ps.length->kb (W.fnOf x x (z0j st) (z0d st) (z08 st) .none kV e g an d ct) ⟨j,[]⟩=pure (ps.zip j)):Own K mg x st ps:=
 ⟨f,_,Ax l c k,W.mg_of X G a,k,(Ax l c k).binds b⟩
end
def isStar:Expr->Bool
 |.Starred ..=>true
 |_=>false
theorem eS (h:isStar e=false):cx (e::a) env=(false,eval e env)::cx a env:=by cases e<;>first|rfl|cases h
theorem kZ:∀{b:List Expr},(b.all λe=> !isStar e)=true->(iz pos (cx b env)).any (·.1)=false
 | [],_=>rfl
 |e::b,h=>by have a:=ar.mp (ci▸h);rw[eS (by simpa using a.1)];show(false||(iz pos (cx b env)).any (·.1))=false;rw[kZ a.2];rfl
section
variable {X:Cx}{x:Str}{p pos:Pos}{e:Expr}{es:List Expr}{t:TA}{id:String}{r:List V->Hp->VK->Prop}
theorem dQ (a:PE X e c)(b:PA X es t)(hs:isStar e=false:=by rfl):PA X (e::es) (lT c t):=ya a b (eS hs)
theorem yj (c:CallR X (.builtin id) r)(hm:X.mg x=none)(d:c7 x=some (.builtin id))(f:PA X (e::es) t)(a:((e::es).all λe=> !isStar e)=true:=by rfl)(g:Gl X x:=by rfl)(hn:x≠"__name__":=by decide)(b:Vx x:=by decide):PE X (.Call (.Name x p) (e::es) [] pos) (jX r t):=by rw[ci,bv]at a;exact zh3 c g hm d f hn b (eS (by simpa using a.1)) (kZ a.2)
theorem vf (c:CallR X (.type T) r)(hm:X.mg x=none)(d:c7 x=some (.type T))(f:PA X (e::es) t)(a:((e::es).all λe=> !isStar e)=true:=by rfl)(g:Gl X x:=by rfl)(hn:x≠"__name__":=by decide)(b:Vx x:=by decide):PE X (.Call (.Name x p) (e::es) [] pos) (jX r t):=by rw[ci,bv]at a;exact zce c g hm d f hn b (eS (by simpa using a.1)) (kZ a.2)
theorem zgn (C:Cal X.prog X.w X.K X.mg X.base k x ps j)(d:Room g X.A)(h:PA X (e::es) t)(a:((e::es).all fun e=> !isStar e)=true:=by rfl)(hk:k<=g:=by decide)(i:Gl X x:=by rfl)
  (c:Vx x:=by decide):PE X (.Call (.Name x p) (e::es) [] pos) (hW j [] E0 t):=by
 obtain⟨f,fd,F,m,kp,b⟩:=C;rw[ci,bv]at a;exact zcx F (d.mono hk) i m kp b .nil Mp h c (eS (by simpa using a.1)) (kZ a.2)
end
def lB:Expr->Bool
 |.ListComp ..=>true
 |.SetComp ..=>true
 |.DictComp ..=>true
 |_=>false
theorem rW (h:lB e=false)(a:Option Expr)(n:Nat)(env:Env):i7 e a n env=pure false:=by cases e<;>first|rfl|cases h
theorem AM (hN:X.N.Nodup)(c:X.N[i]?=some x)(a:Loc X.env.scope x)(b:PE X e d)(hs:lB e=false:=by rfl)(hf:X.fn x=true\/X.env.scope.names.lookup x=some .local:=by first|exact .inl rfl|exact .inr rfl|assumption): PS X (.Assign [.Name x pos'] e pos) (oF d (x8 i)):=zjo hN c a b (rW hs _ _ _) hf
theorem oK (a:PE X e b)(hs:lB e=false:=by rfl):PS X (.Expr e pos) (uN b):=K7 a (rW hs _ _ _)
def AN (K:W.Frag):R2:=λx y H Q=>kX (λi j=>.int (i+j)) x y H Q\/(∃i j,x=.str i/\y=.str j/\i.length+j.length<=au/\Q (.str (i++j)) H)\/u3 x y H Q\/Fu K x y H Q
def rX:R2:=λx y H Q=>kX (λi j=>.bl (decide (i<j))) x y H Q\/∃i j,x=.str i/\y=.str j/\Q (.bl (decide (i.cps.toList<j.cps.toList))) H
def rY:R2:=λx y H Q=>kX (λi j=>.bl (decide (i<=j))) x y H Q\/∃i j,x=.str i/\y=.str j/\Q (.bl (!decide (j.cps.toList<i.cps.toList))) H
def rZ:R2:=λx y H Q=>kX (λi j=>.bl (decide (j<i))) x y H Q\/∃i j,x=.str i/\y=.str j/\Q (.bl (decide (j.cps.toList<i.cps.toList))) H
def oM (K:W.Frag)(neg:Bool):R2:=λx y H Q=>As K neg x y H Q\/∃i j,x=.str i/\y=.str j/\Q (.bl (if neg then !(!(g7 j i 0 j.length 1).isEmpty)else !(g7 j i 0 j.length 1).isEmpty)) H
def AO (K:W.Frag):V->Option Int->Option Int->Hp->VK->Prop:=λx lo hi H Q=>u1 K x lo hi H Q\/ve x lo hi H Q
def MG (K:W.Frag):List V->Hp->VK->Prop:=λxs H Q=>(∃z,xs=[.str z]/\z.length<=au/\Q (.int z.length) H)\/(∃p ys,xs=[.ref p]/\(SqL K H p ys\/cA K H p ys)/\Q (.int ys.length) H)
theorem MH:OpR X (fy .Add) (AN X.K):=Ll.or (LB.or (Mm.or L1))
theorem AQ:OpR X (cw .Lt) rX:=Ls.or Lx
theorem AR:OpR X (cw .LtE) rY:=Lu.or ME
theorem AS:OpR X (cw .Gt) rZ:=Lw.or MF
theorem AU:OpR X (cw .In) (oM X.K false):=Ma.or Ly
theorem MI:OpR X (cw .NotIn) (oM X.K true):=Mb.or Me
theorem MJ:kY X (uZ X.K):=Fx
theorem MK:nQ X (AO X.K):=L9.or yi
theorem ML:CallR X (.builtin "len") (MG X.K):=Mg.or Mf
def kE (t T:String):Bool:=t==T||(t=="bool"&&T=="int")
def oN:List String:=["NoneType","bool","int","str","list","tuple","dict"]
def tysB:List String:=["str","int","bool","tuple","list"]
theorem MM (K:W.Frag):∀t∈oN,∀T∈tysB,W.kitOne K (.type t) (.type T)=some (kE t T):=by intro t a T b;simp only[oN,ax,g9,or_false]at a;simp only[tysB,ax,g9,or_false]at b;rcases a with rfl|rfl|rfl|rfl|rfl|rfl|rfl<;>rcases b with rfl|rfl|rfl|rfl|rfl<;>kernel_rfl
section
variable {H:Hp}{Q:VK}{K:W.Frag}
theorem MN (h:Q (.int (i+j)) H):AN K (.int i) (.int j) H Q:=.inl ⟨i,j,rfl,rfl,h⟩
theorem MO (c:i.length+j.length<=au)(h:Q (.str (i++j)) H):AN K (.str i) (.str j) H Q:=.inr (.inl ⟨i,j,rfl,rfl,c,h⟩)
theorem MP (h:Q (.bl (decide (i<j))) H):rX (.int i) (.int j) H Q:=.inl ⟨i,j,rfl,rfl,h⟩
theorem MQ (h:Q (.bl (decide (i<=j))) H):rY (.int i) (.int j) H Q:=.inl ⟨i,j,rfl,rfl,h⟩
theorem MR (h:Q (.bl (decide (j<i))) H):rZ (.int i) (.int j) H Q:=.inl ⟨i,j,rfl,rfl,h⟩
theorem MS (h:Q (.bl (decide (i.cps.toList<j.cps.toList))) H):rX (.str i) (.str j) H Q:=.inr ⟨i,j,rfl,rfl,h⟩
theorem MT (h:Q (.bl (!decide (j.cps.toList<i.cps.toList))) H):rY (.str i) (.str j) H Q:=.inr ⟨i,j,rfl,rfl,h⟩
theorem MU (h:Q (.bl (decide (j.cps.toList<i.cps.toList))) H):rZ (.str i) (.str j) H Q:=.inr ⟨i,j,rfl,rfl,h⟩
end
section
variable {K:W.Frag}{H:Hp}{Q:VK}
theorem MV (h:Q (.bl (decide (c∈z.cps.toList))) H):oM K false (.str ⟨#[c]⟩) (.str z) H Q:=.inr ⟨_,z,rfl,rfl,by have e:=PySem.StrLaws.found_one z c;rw[e];exact h⟩
theorem MW (h:Q (.bl (!decide (c∈z.cps.toList))) H):oM K true (.str ⟨#[c]⟩) (.str z) H Q:=.inr ⟨_,z,rfl,rfl,by have e:=congrArg Bool.not (PySem.StrLaws.found_one z c);rw[e];exact h⟩
end
theorem Same.upd (h:H p=none):Same H (L2.upd H p o):=λb u e=>by rw[aE (bQ e h)];exact e
theorem FO (h:n<=1000):n<=au:=bq h (by rw[c8];decide)
end L2
namespace Mi
open PySem
abbrev D:=aq
set_option genInjectivity true in
inductive Res (α:Type) where
 |ok (a:α)|exc (e:D)|no
namespace Res
def bind {α β:Type}(x:Res α)(f:α->Res β):Res β:=match x with
 |.ok a=>f a
 |.exc e=>.exc e
 |.no=>.no
instance:Monad Res where
 pure:=.ok
 bind:=Res.bind
theorem aB {b c:Type}(a:b)(f:b->Res c):(Res.ok a>>=f)=f a:=rfl
def eJ {α:Type}:Option α->Res α
 |some a=>.ok a
 |none=>.no
theorem aA {c d:Type}{x:Res c}{f:c->Res d}{b:d}(h:(x>>=f)=.ok b):∃a,x=.ok a/\f a=.ok b:=by
 cases x with
 |ok a=>exact⟨a,rfl,h⟩
 |exc e=>cases h
 |no=>cases h
end Res
mutual
def imm:aq->Bool
 |.tuple xs=>imms xs
 |.list _=>false
 |.dict _=>false
 |.none=>true
 |.bool _=>true
 |.int _=>true
 |.str _=>true
def imms:List aq->Bool
 | []=>true
 |x::xs=>imm x&&imms xs
end
theorem vg:∀{a:List D},imms a=true↔∀x∈a,imm x=true
 | []=>by simp[imms]
 |x::a=>by rw[imms,bv,vg];simp
abbrev dZ:D->D->Bool:=PyData.eqv
mutual
def bA:Nat->aq->Bool
 |0,.tuple _=>false
 |0,.list _=>false
 |n+1,.tuple xs=>fO n xs
 |n+1,.list xs=>fO n xs
 |_,.dict _=>false
 |_,.none=>true
 |_,.bool _=>true
 |_,.int _=>true
 |_,.str _=>true
def fO:Nat->List aq->Bool
 |_,[]=>true
 |n,x::xs=>bA n x&&fO n xs
end
theorem qA:∀{a:List D},fO n a=true↔∀x∈a,bA n x=true
 | []=>by simp[fO]
 |x::a=>by rw[fO,bv,qA];simp
def truth:aq->Bool
 |.none=>false
 |.bool b=>b
 |.int i=>!decide (i=0)
 |.str x=>!decide (x.length=0)
 |.tuple xs=>!xs.isEmpty
 |.list xs=>!xs.isEmpty
 |.dict es=>!es.isEmpty
def iL (n:Nat)(i:Int):Option Nat:=if 0<=i then(if i<n then some i.toNat else none)else if -(n:Int)<=i then some (i+n).toNat else none
def cF {α:Type}(xs:List α)(i:Int):Option α:=(iL xs.length i).bind λj=>xs[j]?
def aZ (n d:Nat):Option Int->Nat
 |none=>d
 |some v=>if v<0 then(v+(n:Int)).toNat else min v.toNat n
def cut {α:Type}(xs:List α)(lo hi:Option Int):List α:=(xs.drop (aZ xs.length 0 lo)).take (aZ xs.length xs.length hi-aZ xs.length 0 lo)
def eqK:aq->aq->Bool
 |.int a,y=>match y with|.int b=>a==b|_=>false
 |.str a,y=>match y with|.str b=>decide (a=b)|_=>false
 |_,_=>false
def jH:aq->Bool
 |.int _=>true
 |.str _=>true
 |_=>false
abbrev aX:=List (D×D)
def z0e (es:aX)(k:D):Option D:=(es.find? λe=>eqK e.1 k).map (·.2)
def dput (es:aX)(k v:D):aX:=if es.any (λe=>eqK e.1 k)then es.map (λe=>if eqK e.1 k then(e.1,v)else e)else es++[(k,v)]
def ent (e:D×D):D:=.tuple [e.1,e.2]
def kF:aX->List D->Option aX
 |es,[]=>some es
 |es,p::ps=>match p with
  |.tuple [k,v]=>if jH k then kF (dput es k v) ps else none
  |_=>none
mutual
def cR:aq->aq->Bool
 |.int a,y=>match y with|.int b=>decide (a<b)|_=>false
 |.str a,y=>match y with|.str b=>decide (a.cps.toList<b.cps.toList)|_=>false
 |.tuple xs,y=>match y with|.tuple ys=>bS xs ys|_=>false
 |.none,_=>false
 |.bool _,_=>false
 |.list _,_=>false
 |.dict _,_=>false
def bS:List aq->List aq->Bool
 | [],ys=>!ys.isEmpty
 |x::xs,ys=>match ys with|y::ys=>if dZ x y then bS xs ys else cR x y| []=>false
end
def gU (x:D):List D->List D
 | []=>[x]
 |y::ys=>if cR y x then y::gU x ys else x::y::ys
def lX:List D->List D
 | []=>[]
 |x::xs=>gU x (lX xs)
def tU:D->Bool
 |.int _=>true
 |_=>false
def yk:D->Bool
 |.str _=>true
 |_=>false
def ofK (b:Bool)(x:D):Bool:=if b then tU x else yk x
def cS:List Bool->List D->Bool
 | [],xs=>xs.isEmpty
 |b::bs,xs=>match xs with|x::xs=>ofK b x&&cS bs xs| []=>false
def zav (bs:List Bool):D->Bool
 |.tuple xs=>cS bs xs
 |_=>false
def yl (xs:List D):Bool:=xs.all tU||xs.all yk||(match xs with|.tuple ys::_=>!ys.isEmpty&&xs.all (zav (ys.map tU))|_=>false)
def ym (xs:List D):Bool:=yl xs||false
section
inductive G where
 |fr|od|al|nu
 deriving Inhabited,DecidableEq
abbrev Rho:=List (Option (G×D))
abbrev GD:=G×D
inductive Tg where
 |nm (i:Nat)|tp (is:List Nat)
 deriving Inhabited,DecidableEq
inductive C where
 |var (i:Nat)|aK|bl (b:Bool)|int (i:Int)|str (x:Str)|glob (k:Nat) (x:Str)|bin (op:pz) (a b:C)|neg (a:C)|cmp (op:CmpOp) (a b:C)|qB (neg:Bool) (a:C)|and (a b:C)|or (a b:C)|not (a:C)|se (c a b:C)|tup (xs:C)|lst (xs:C)|gC|ix (a b:C)|sl (a lo hi:C)|call (k:Nat) (f:Str) (args:C)|bi (f:String) (args:C)|lC (f:String) (a:C)|kE (a:C) (ts:List String)|mt (m:String) (o args:C)|comp (nt:Nat) (js:List Nat) (N':List Str) (tg:Tg) (it cond elt:C)|fA (args:C)|enum (a:C)|tv (a:C)|lD (b:Bool) (x:Str)|nil|cons (a r:C)
 deriving Inhabited
inductive S where
 |nil|seq (a b:S)|bad|asg (t:Tg) (e:C)|mut (m:String) (i:Nat) (args:C)|drop (e:C)|ret (e:C)|bV (c:C) (a b:S)|bP (t:Tg) (it:C) (b:S)|kG (c:Str)
 deriving Inhabited
inductive Out where
 |nx (ρ:Rho)|rt (g:G) (d:D)
abbrev Fn:=List D->Res GD
def aR:Nat:=1000000
def FP:G->G
 |.fr=>.al
 |.od=>.od
 |.al=>.al
 |.nu=>.nu
def vh:Option (Option GD)->Res GD
 |some (some (g,d))=>.ok (if imm d then .fr else FP g,d)
 |_=>.no
def jI:D->Res Bool
 |.str x=>if x.length<=aR then .ok (!decide (x.length=0))else .no
 |d=>.ok (truth d)
def jJ:G->G
 |.fr=>.fr
 |.od=>.al
 |.al=>.al
 |.nu=>.fr
def agG:G->G
 |.fr=>.fr
 |.od=>.al
 |.al=>.al
 |.nu=>.nu
def gJ (d:D)(g:G):G:=if imm d then .fr else g
def gN (d:D)(g:G):G:=match d with
 |.list xs=>if imms xs then .fr else g
 |d=>gJ d g
def cK (xs:List GD):G:=if xs.all (λx=>x.1==.fr)then .fr else if xs.all (λx=>x.1==.fr||x.1==.nu)then .nu else .al
def qC (xs:List GD):G:=if xs.all (λx=>x.1==.fr)then .fr else .al
def okIn (x:GD):Bool:=imm x.2||(x.1==.fr||x.1==.nu)
def cU (es:aX):Bool:=es.all λe=>imm e.2
def z1v:GD->GD
 |(g,d)=>if imm d then(.al,d)else match g,d with
  |.fr,.list xs=>(if imms xs then .fr else .nu,.list xs)
  |.fr,.dict es=>(if cU es then .fr else .nu,.dict es)
  |.fr,d=>(.nu,d)
  |.nu,d=>(.nu,d)
  |.od,d=>(.od,d)
  |.al,d=>(.al,d)
def z1d:GD->GD
 |(g,d)=>match g with|.od=>(.od,d)|_=>(.al,d)
def iN:Option GD->Option GD
 |some (.fr,d)=>some (.al,d)
 |some (.nu,d)=>some (.al,d)
 |s=>s
def qD:Option GD->Option GD
 |some (.al,d)=>if imm d then some (.al,d)else none
 |s=>s
def qE:Rho->List Nat->List D->G->Option Rho
 |ρ,[],[],_=>some ρ
 |ρ,i::is,d::ds,g=>qE (ρ.set i (some (z1d (gJ d g,d)))) is ds g
 |_,_,_,_=>none
def fB:Tg->GD->Rho->Res Rho
 |.nm i,x,ρ=>.ok (ρ.set i (some (z1d x)))
 |.tp is,(g,.tuple ds),ρ=>Res.eJ (qE ρ is ds g)
 |.tp is,(g,.list ds),ρ=>Res.eJ (qE ρ is ds g)
 |_,_,_=>.no
def AV:D->Res D
 |.str x=>if x.length<=aR then .ok (.int x.length)else .no
 |.tuple xs=>.ok (.int xs.length)
 |.list xs=>.ok (.int xs.length)
 |.dict es=>.ok (.int es.length)
 |_=>.no
def oO {α:Type}(n:Nat)(xs:List α):List α:=(ao n xs).flatten
def dE:pz->D->D->Res D
 |.Add,.int a,.int b=>.ok (.int (a+b))
 |.Add,.str a,.str b=>if a.length+b.length<=aR then .ok (.str (a++b))else .no
 |.Add,.list a,.list b=>if a.length+b.length<=aR then .ok (.list (a++b))else .no
 |.Add,.tuple a,.tuple b=>if a.length+b.length<=aR then .ok (.tuple (a++b))else .no
 |.Sub,.int a,.int b=>.ok (.int (a-b))
 |.Mult,.str a,.int n=>if 0<=n/\n<=aR/\a.length*n.toNat<=aR then .ok (.str ⟨(oO n.toNat a.cps.toList).toArray⟩)else .no
 |.Mult,.int a,.int b=>if(-(2 ^ 64)<a/\a<2 ^ 64)\/(-(2 ^ 64)<b/\b<2 ^ 64)then .ok (.int (a*b))else .no
 |.FloorDiv,.int a,.int b=>if 0<b/\b<2 ^ 200 then .ok (.int (a/b))else .no
 |.Mod,.int a,.int b=>if 0<b then .ok (.int (a%b))else .no
 |.Pow,.int a,.int b=>if 0<=b/\b<=1000/\a.natAbs<2 ^ 64 then .ok (.int (a ^ b.toNat))else .no
 |_,_,_=>.no
def inD (x:D):D->Res Bool
 |.list xs=>if bA 40 x&&fO 40 xs then .ok (xs.any λy=>dZ y x)else .no
 |.tuple xs=>if bA 40 x&&fO 40 xs then .ok (xs.any λy=>dZ y x)else .no
 |.dict es=>if jH x then .ok (z0e es x).isSome else .no
 |.str z=>match x with
  |.str w=>(match w.cps.toList with| [c]=>.ok (decide (c∈z.cps.toList))|_=>.no)
  |_=>.no
 |_=>.no
def cmpD:CmpOp->D->D->Res Bool
 |.Eq,x,y=>if bA 40 x&&bA 40 y then .ok (dZ x y)else .no
 |.NotEq,x,y=>if bA 40 x&&bA 40 y then .ok (!dZ x y)else .no
 |.Lt,.int a,.int b=>.ok (decide (a<b))
 |.LtE,.int a,.int b=>.ok (decide (a<=b))
 |.Gt,.int a,.int b=>.ok (decide (b<a))
 |.Lt,.str a,.str b=>.ok (decide (a.cps.toList<b.cps.toList))
 |.LtE,.str a,.str b=>.ok (!decide (b.cps.toList<a.cps.toList))
 |.Gt,.str a,.str b=>.ok (decide (b.cps.toList<a.cps.toList))
 |.In,x,y=>inD x y
 |.NotIn,x,y=>inD x y>>=λb=>.ok (!b)
 |_,_,_=>.no
def gW:D->D->Res D
 |.list xs,.int i=>Res.eJ (cF xs i)
 |.tuple xs,.int i=>Res.eJ (cF xs i)
 |.str z,.int i=>if z.length<=aR then Res.eJ ((cF z.cps.toList i).map λc=>.str ⟨#[c]⟩)else .no
 |.dict es,k=>if jH k then Res.eJ (z0e es k)else .no
 |_,_=>.no
def lE (z:Str)(lo hi:Option Int):Str:=⟨(cut z.cps.toList lo hi).toArray⟩
def oP:D->Option Int->Option Int->Res D
 |.list xs,lo,hi=>.ok (.list (cut xs lo hi))
 |.tuple xs,lo,hi=>if aZ xs.length 0 lo=0/\aZ xs.length xs.length hi=xs.length then .no else .ok (.tuple (cut xs lo hi))
 |.str z,lo,hi=>if z.length<=aR then .ok (.str (lE z lo hi))else .no
 |_,_,_=>.no
def sf:D->Res (Option Int)
 |.int i=>.ok (some i)
 |_=>.no
def z8f:D->Res (List D)
 |.list xs=>.ok xs
 |.tuple xs=>.ok xs
 |.str z=>if z.length<=aR then .ok (z.cps.toList.map λc=>.str ⟨#[c]⟩)else .no
 |_=>.no
def gX:List D->Option (List Str)
 | []=>some []
 |.str b::r=>(gX r).map (b:: ·)
 |_=>none
def z58:D->Res (Bool×List D)
 |.list xs=>.ok (true,xs)
 |.tuple xs=>.ok (false,xs)
 |_=>.no
def aggD (f:String)(l:Bool)(xs:List D):Res D:=
 if f="list"then .ok (.list xs)
 else if f="tuple"then .ok (.tuple xs)
 else if f="sorted"then(if(l||false)&&ym xs&&decide (xs.length<64)then .ok (.list (lX xs))else .no)
 else if f="dict"then Res.eJ ((kF [] xs).map .dict)
 else .no
def vI:D->Option Int
 |.int i=>some i
 |_=>none
def vT:D->Option (List D)
 |.tuple xs=>some xs
 |_=>none
def min2 (x y:D):Res D:=Res.eJ ((vI x).bind λa=>(vI y).map λb=>.int (min a b))
def minD (xs:List D):Res D:=if xs.length=2 then min2 (xs.getD 0 .none) (xs.getD 1 .none)else if xs.length=1 then(match vT (xs.getD 0 .none)with|some ys=>if ys.length=2 then min2 (ys.getD 0 .none) (ys.getD 1 .none)else .no|none=>.no)else .no
def sg (l:List Nat):Bool:=!l.isEmpty&&l.all λc=>decide (48<=c)&&decide (c<=57)
def vi (l:List Nat):Nat:=l.foldl (λn c=>n*10+(c-48)) 0
def vj (x:Str):Res D:=if sg x.cps.toList&&decide (x.length<=600)then .ok (.int (vi x.cps.toList:Int))else .no
def vo (y:Str):Option Nat:=match y.cps.toList with
 | [c]=>some c
 |_=>none
def toS (l:List Nat):Str:=⟨l.toArray⟩
def AW (x y:Str):Res D:=match vo y with
 |some c=>if decide (x.length<=aR)then .ok (.tuple [.str (toS (x.cps.toList.takeWhile (· != c))),.str (if x.cps.toList.contains c then y else ""),.str (toS ((x.cps.toList.dropWhile (· != c)).drop 1))])else .no
 |none=>.no
def AX (x y:Str):Res D:=match vo y with
 |some c=>.ok (.int (match x.cps.toList.findIdx? (· ==c)with|some i=>(i:Int)|none=>-1))
 |none=>.no
def hX (f:String)(xs:List D):Res D:=
 if f="len"then(match xs with| [x]=>AV x|_=>.no)
 else if f="int"then(match xs with| [.int a]=>.ok (.int a)| [.bool b]=>.ok (.int (if b then 1 else 0))| [.str x]=>vj x|_=>.no)
 else if f="min"then minD xs
 else .no
def iO:D->String
 |.none=>"NoneType"|.bool _=>"bool"|.int _=>"int"|.str _=>"str"|.tuple _=>"tuple"|.list _=>"list"|.dict _=>"dict"
def lY (t T:String):Bool:=t==T||(t=="bool"&&T=="int")
def yn (sep:List Nat):List Str->List Nat
 | []=>[]
 |x::r=>x.cps.toList++(r.map λp=>sep++p.cps.toList).flatten
def qF (sep:Str)(xs:List Str):Str:=⟨(yn sep.cps.toList xs).toArray⟩
def AY (sep:Str)(xs:List Str):Nat:=(xs.map (·.length)).sum+xs.length*sep.length
def mtD (m:String)(o:D)(xs:List D):Res D:=
 if m="get"then(match o,xs with|.dict es,[k,d]=>if jH k then .ok ((z0e es k).getD d)else .no|_,_=>.no)
 else if m="join"then(match o,xs with|.str z,[.list ys]=>(match gX ys with|some ss=>if AY z ss<=aR then .ok (.str (qF z ss))else .no|none=>.no)|_,_=>.no)
 else if m="partition"then(match o,xs with|.str x,[.str y]=>AW x y|_,_=>.no)
 else if m="find"then(match o,xs with|.str x,[.str y]=>AX x y|_,_=>.no)
 else .no
def iP:List D->Res (List D)
 | [.int n]=>if n<=aR/\-aR<=n then .ok ((cg n.toNat).map λ(i:Nat)=>.int i)else .no
 | [.int a,.int b]=>if -aR<=a/\b<=aR/\a<=aR/\-aR<=b then .ok ((cg (b-a).toNat).map λ(i:Nat)=>.int (a+i))else .no
 | [.int a,.int b,.int c]=>if -aR<=a/\b<=aR/\a<=aR/\-aR<=b/\0<c/\c<=aR then .ok ((cg (if a<b then((b-a-1)/c+1).toNat else 0)).map λ(i:Nat)=>.int (a+i*c))else .no
 |_=>.no
def z29:Nat->List D->List D
 |_,[]=>[]
 |i,x::xs=>.tuple [.int i,x]::z29 (i+1) xs
def seqR:D->Res (List D)
 |.list xs=>if decide (xs.length<=aR)then .ok xs else .no
 |.tuple xs=>if decide (xs.length<=aR)then .ok xs else .no
 |_=>.no
def oc:Option GD->List GD->List GD
 |some y,r=>y::r
 |none,r=>r
def kI (f:D->Res (Option GD)):List D->Res (List GD)
 | []=>.ok []
 |x::xs=>f x>>=λo=>kI f xs>>=λr=>.ok (oc o r)
variable (Κ:List D)(Φ:List Fn)
mutual
def aL:C->Rho->Res GD
 |.var i,ρ=>vh ρ[i]?
 |.aK,_=>.ok (.fr,.none)
 |.bl b,_=>.ok (.fr,.bool b)
 |.int i,_=>.ok (.fr,.int i)
 |.str x,_=>.ok (.fr,.str x)
 |.lD b _,_=>.ok (.fr,.bool b)
 |.glob k _,_=>match Κ[k]? with|some d=>if imm d then .ok (.fr,d)else .no|none=>.no
 |.bin op a b,ρ=>aL a ρ>>=λx=>aL b ρ>>=λy=>dE op x.2 y.2>>=λd=>.ok (gN d (cK [x,y]),d)
 |.neg a,ρ=>aL a ρ>>=λx=>match x.2 with|.int i=>.ok (.fr,.int (-i))|_=>.no
 |.cmp op a b,ρ=>aL a ρ>>=λx=>aL b ρ>>=λy=>cmpD op x.2 y.2>>=λb=>.ok (.fr,.bool b)
 |.qB ng a,ρ=>aL a ρ>>=λx=>.ok (.fr,.bool (match x.2 with|.none=>!ng|_=>ng))
 |.and a b,ρ=>aL a ρ>>=λx=>match x.2 with|.bool c=>if c then aL b ρ else .ok (.fr,.bool false)|_=>.no
 |.or a b,ρ=>aL a ρ>>=λx=>match x.2 with|.bool c=>if c then .ok (.fr,.bool true)else aL b ρ|_=>.no
 |.not a,ρ=>aL a ρ>>=λx=>jI x.2>>=λc=>.ok (.fr,.bool (!c))
 |.se c a b,ρ=>eA c ρ>>=λk=>if k then aL a ρ else aL b ρ
 |.tup xs,ρ=>dM xs ρ>>=λys=>.ok (gJ (.tuple (ys.map (·.2))) (cK ys),.tuple (ys.map (·.2)))
 |.lst xs,ρ=>dM xs ρ>>=λys=>.ok (cK ys,.list (ys.map (·.2)))
 |.gC,_=>.ok (.fr,.dict [])
 |.ix a b,ρ=>aL a ρ>>=λx=>aL b ρ>>=λy=>gW x.2 y.2>>=λd=>.ok (gJ d x.1,d)
 |.sl a lo hi,ρ=>aL a ρ>>=λx=>si lo ρ>>=λl=>si hi ρ>>=λh=>oP x.2 l h>>=λd=>.ok (gN d (cK [x]),d)
 |.call k _ args,ρ=>dM args ρ>>=λys=>match Φ[k]? with|some m=>m (ys.map (·.2))>>=λr=>.ok (gJ r.2 (jJ r.1),r.2)|none=>.no
 |.bi f args,ρ=>dM args ρ>>=λys=>hX f (ys.map (·.2))>>=λd=>.ok (gJ d .al,d)
 |.lC f a,ρ=>AZ a ρ>>=λw=>aggD f w.2.1 w.2.2>>=λd=>.ok (gJ d (if imms w.2.2 then .fr else agG w.1),d)
 |.kE a ts,ρ=>aL a ρ>>=λx=>.ok (.fr,.bool (ts.any λT=>lY (iO x.2) T))
 |.mt m o args,ρ=>aL o ρ>>=λx=>dM args ρ>>=λys=>mtD m x.2 (ys.map (·.2))>>=λd=>.ok (gJ d .al,d)
 |.comp nt js _ tg it cond elt,ρ=>evW it ρ>>=λw=>kI (λx=>fB tg (gJ x w.1,x) (ao nt none++js.map λj=>iN (ρ.getD j none))>>=λsj=>eA cond sj>>=λk=>if k then aL elt sj>>=λy=>.ok (some y)else .ok none) w.2>>=λys=>.ok (qC ys,.list (ys.map (·.2)))
 |_,_=>.no
def eA:C->Rho->Res Bool
 |.and a b,ρ=>eA a ρ>>=λc=>if c then eA b ρ else .ok false
 |.or a b,ρ=>eA a ρ>>=λc=>if c then .ok true else eA b ρ
 |.not a,ρ=>eA a ρ>>=λc=>.ok (!c)
 |.nil,_=>.ok true
 |.tv a,ρ=>aL a ρ>>=λx=>jI x.2
 |_,_=>.no
def dM:C->Rho->Res (List GD)
 |.nil,_=>.ok []
 |.cons a r,ρ=>aL a ρ>>=λx=>dM r ρ>>=λxs=>.ok (x::xs)
 |_,_=>.no
def si:C->Rho->Res (Option Int)
 |.nil,_=>.ok none
 |.tv a,ρ=>aL a ρ>>=λx=>sf x.2
 |_,_=>.no
def AZ:C->Rho->Res (G×Bool×List D)
 |.tv a,ρ=>aL a ρ>>=λx=>z58 x.2>>=λp=>.ok (x.1,p)
 |_,_=>.no
def evW:C->Rho->Res (G×List D)
 |.fA args,ρ=>dM args ρ>>=λys=>iP (ys.map (·.2))>>=λxs=>.ok (.fr,xs)
 |.tv a,ρ=>aL a ρ>>=λx=>z8f x.2>>=λxs=>.ok (x.1,xs)
 |.enum a,ρ=>aL a ρ>>=λx=>seqR x.2>>=λxs=>.ok (.al,z29 0 xs)
 |_,_=>.no
end
def oQ:Res Out->(Rho->Res Out)->Res Out
 |.ok (.nx ρ),k=>k ρ
 |r,_=>r
def cZ (f:D->Rho->Res Out):List D->Rho->Res Out
 | [],ρ=>.ok (.nx ρ)
 |x::xs,ρ=>match f x ρ with
  |.ok (.nx jK)=>cZ f xs jK
  |.ok (.rt g d)=>.ok (.rt g d)
  |.exc e=>.exc e
  |.no=>.no
def putAt (xs:List D)(ys:List GD):Res (List D):=match ys with
 | [x,y]=>(match x.2 with
  |.int i=>if okIn y&&decide (xs.length<aR)&&decide (0<=i)&&decide (i<=xs.length)then .ok (xs.take i.toNat++y.2::xs.drop i.toNat)else .no
  |_=>.no)
 |_=>.no
def lZ (m:String)(xs:List D)(ys:List GD):Res (List D):=
 if m="append"then(match ys with| [y]=>if okIn y&&decide (xs.length<aR)then .ok (xs++[y.2])else .no|_=>.no)
 else .no
def A6 (ρ:Rho)(i:Nat):Bool:=match ρ[i]? with
 |some (some (.fr,_))=>true
 |_=>false
def A7 (i:Nat)(ρ:Rho):Res (G×List D×Rho):=match ρ[i]? with
 |some (some (.fr,d))=>z8f d>>=λxs=>.ok (.al,xs,ρ.set i (some (.al,d)))
 |_=>.no
def A8:Option GD->Option GD
 |some (.fr,.list xs)=>some (.al,.list xs)
 |s=>s
def oR (x:GD)(ρ:Rho):Res (G×List D×Rho):=match x.2 with
 |.list xs=>if imms xs then .ok (.al,xs,ρ.map A8)else .no
 |_=>.no
def yo (x:GD):Bool:=match x.2 with
 |.list _=>!(x.1==.al)
 |d=>!(x.1==.al)||imm d
def oS (ys:List GD)(ρ:Rho):Res (G×List D×Rho):=match ys with
 | [x]=>if yo x then seqR x.2>>=λxs=>.ok (.al,z29 0 xs,ρ)else .no
 |_=>.no
def sk (it:C)(ρ:Rho):Bool:=match evW Κ Φ it ρ with
 |.ok w=>w.1==.al
 |_=>false
def vq (it:C)(ρ:Rho):Res (G×List D×Rho):=evW Κ Φ it ρ>>=λw=>if w.1==.al then .no else .ok (w.1,w.2,ρ)
def evF (it:C)(ρ:Rho):Res (G×List D×Rho):=match it with
 |.tv (.var i)=>if A6 ρ i then A7 i ρ else if sk Κ Φ it ρ then aL Κ Φ (.var i) ρ>>=λx=>oR x ρ else vq Κ Φ it ρ
 |.tv a=>if sk Κ Φ it ρ then aL Κ Φ a ρ>>=λx=>oR x ρ else vq Κ Φ it ρ
 |.enum a=>dM Κ Φ (.cons a .nil) ρ>>=λys=>oS ys ρ
 |it=>vq Κ Φ it ρ
def excOf:Res GD->Option Str
 |.exc (.str c)=>some c
 |_=>none
def vt:Option GD->Option GD
 |some (.fr,d)=>some (.nu,d)
 |s=>s
def aU:S->Rho->Res Out
 |.nil,ρ=>.ok (.nx ρ)
 |.seq a b,ρ=>oQ (aU a ρ) (aU b)
 |.bad,_=>.no
 |.asg (.nm i) e,ρ=>aL Κ Φ e ρ>>=λx=>.ok (.nx (ρ.set i (some (z1v x))))
 |.asg t e,ρ=>aL Κ Φ e ρ>>=λx=>fB t x ρ>>=λjK=>.ok (.nx jK)
 |.mut m i args,ρ=>dM Κ Φ args ρ>>=λys=>match ρ[i]? with
  |some (some (.fr,.list xs))=>lZ m xs ys>>=λA9=>.ok (.nx ((ρ.set i (some (.fr,.list A9))).map qD))
  |_=>.no
 |.drop e,ρ=>aL Κ Φ e ρ>>=λ_=>.ok (.nx ρ)
 |.ret e,ρ=>match e with
  |.var i=>match ρ[i]? with
   |some (some (g,d))=>.ok (.rt (if imm d then .fr else jJ g) d)
   |_=>.no
  |e=>aL Κ Φ e ρ>>=λx=>.ok (.rt (jJ x.1) x.2)
 |.bV c a b,ρ=>eA Κ Φ c ρ>>=λk=>if k then aU a ρ else aU b ρ
 |.bP t it b,ρ=>evF Κ Φ it ρ>>=λw=>cZ (λx sj=>fB t (gJ x w.1,x) sj>>=λMX=>aU b MX) w.2.1 w.2.2
 |.kG _,_=>.no
def MY (Κ:List D)(Φ:List Fn)(_:S)(_:Rho):Option Str:=none
def bC (n:Nat)(s:S)(ds:List D):Res GD:=match aU Κ Φ s (ds.map (λd=>some (.od,d))++ao (n-ds.length) none)with
 |.ok (.nx _)=>.ok (.fr,.none)
 |.ok (.rt g d)=>.ok (g,d)
 |_=>match MY Κ Φ s (ds.map (λd=>some (.od,d))++ao (n-ds.length) none)with
  |some c=>.exc (.str c)
  |none=>.no
end
open PySem.Spec PyProof.Rows L2
def kD:Key->D
 |.inl i=>.int i
 |.inr x=>.str x
def keyOk:Key->Prop
 |.inl _=>True
 |.inr x=>PyData.strOk x=true
def KL (K:W.Frag)(a:Addr)(xs:List V):Prop:=∃(o:Obj) (eI:Array Value) (n:Nat),K.lookup a=some o/\o.cls=.type "list"/\o.dict=none/\o.data=.seq eI n/\eI.size<=au/\Vals xs eI.toList
abbrev Ad:=Option Addr
def FL (K:W.Frag)(H:Hp)(a:Addr)(xs:List V):Prop:=(∃o,H a=some (.eZ o (.lst xs)))\/KL K a xs
def nw (H:Hp):Ad->Prop
 |some a=>H a=none
 |none=>False
section
variable (K:W.Frag)(H:Hp)(B:Ad->Prop)
mutual
def Rep:V->aq->Prop
 |v,.none=>v=.aK
 |v,.bool b=>v=.bl b
 |v,.int i=>v=.int i
 |v,.str x=>v=.str x/\PyData.strOk x=true
 |v,.tuple ds=>∃a vs,v=.ref a/\cA K H a vs/\Reps vs ds
 |v,.list ds=>∃a vs,v=.ref a/\((H a=some (.lst vs)/\B (some a))\/(FL K H a vs/\B none))/\Reps vs ds
 |v,.dict es=>∃a kvs,v=.ref a/\H a=some (.dK kvs)/\B (some a)/\aS kvs es
def Reps:List V->List aq->Prop
 |vs,[]=>vs=[]
 |vs,d::ds=>∃v r,vs=v::r/\Rep v d/\Reps r ds
def aS:List (Key×V)->List (aq×aq)->Prop
 |kvs,[]=>kvs=[]
 |kvs,(kd,d)::es=>∃k v r,kvs=(k,v)::r/\kd=kD k/\keyOk k/\Rep v d/\aS r es
end
end
def Fix:HO->Prop
 |.tup _=>True
 |.eZ _ (.lst _)=>True
 |.eZ _ (.tup _)=>True
 |_=>False
section
variable {K:W.Frag}{H H':Hp}{B B':Ad->Prop}
theorem FL.keep (b:∀a o,H a=some o->(B (some a)\/Fix o)->H' a=some o)(r:FL K H a c):FL K H' a c:=by
 rcases r with⟨o,r⟩|r
 ·exact .inl ⟨o,b a _ r (.inr True.intro)⟩
 ·exact .inr r
theorem _root_.L2.cA.keep (b:∀a o,H a=some o->(B (some a)\/Fix o)->H' a=some o)(r:cA K H a c):cA K H' a c:=by
 rcases r with(r|⟨o,r⟩)|r
 ·exact .inl (.inl (b a _ r (.inr True.intro)))
 ·exact .inl (.inr ⟨o,b a _ r (.inr True.intro)⟩)
 ·exact .inr r
mutual
theorem Rep.keep (hH:∀a o,H a=some o->(B (some a)\/Fix o)->H' a=some o)(hB:∀a,B a->B' a):∀{v:V} (d:aq),Rep K H B v d->Rep K H' B' v d
 |v,.none,r=>r
 |v,.bool b,r=>r
 |v,.int i,r=>r
 |v,.str x,r=>r
 |v,.tuple ds,r=>by obtain⟨a,vs,e,h,q⟩:=r;exact⟨a,vs,e,h.keep hH,Reps.keep hH hB ds q⟩
 |v,.list ds,r=>by
  obtain⟨a,vs,e,h,q⟩:=r;refine⟨a,vs,e,?_,Reps.keep hH hB ds q⟩;rcases h with⟨h,b⟩|h
  ·exact .inl ⟨hH a _ h (.inl b),hB _ b⟩
  ·exact .inr ⟨FL.keep hH h.1,hB _ h.2⟩
 |v,.dict es,r=>by obtain⟨a,kvs,e,h,b,q⟩:=r;exact⟨a,kvs,e,hH a _ h (.inl b),hB _ b,aS.keep hH hB es q⟩
theorem Reps.keep (hH:∀a o,H a=some o->(B (some a)\/Fix o)->H' a=some o)(hB:∀a,B a->B' a):∀{vs:List V} (ds:List aq),Reps K H B vs ds->Reps K H' B' vs ds
 |vs,[],r=>r
 |vs,d::ds,r=>by obtain⟨v,t,e,h,q⟩:=r;exact⟨v,t,e,Rep.keep hH hB d h,Reps.keep hH hB ds q⟩
theorem aS.keep (hH:∀a o,H a=some o->(B (some a)\/Fix o)->H' a=some o)(hB:∀a,B a->B' a):∀{kvs:List (Key×V)} (es:List (aq×aq)),aS K H B kvs es->aS K H' B' kvs es
 |kvs,[],r=>r
 |kvs,(kd,d)::es,r=>by obtain⟨k,v,t,e,e2,ok,h,q⟩:=r;exact⟨k,v,t,e,e2,ok,Rep.keep hH hB d h,aS.keep hH hB es q⟩
end
theorem Rep.same (s:Same H H')(b:∀a,B a->B' a)(r:Rep K H B v d):Rep K H' B' v d:=Rep.keep (λa o e _=>s a o e) b d r
theorem Reps.same (s:Same H H')(hB:∀a,B a->B' a)(r:Reps K H B vs ds):Reps K H' B' vs ds:=Reps.keep (λa o e _=>s a o e) hB ds r
theorem aS.same (s:Same H H')(hB:∀a,B a->B' a)(r:aS K H B vs ds):aS K H' B' vs ds:=aS.keep (λa o e _=>s a o e) hB ds r
theorem Rep.weak (b:∀a,B a->B' a)(r:Rep K H B v d):Rep K H B' v d:=r.same (λ_ _ e=>e) b
theorem Reps.weak (b:∀a,B a->B' a)(r:Reps K H B v d):Reps K H B' v d:=r.same (λ_ _ e=>e) b
mutual
theorem Rep.bE:∀{v:V} (d:aq),imm d=true->Rep K H B v d->Rep K H B' v d
 |v,.none,_,r=>r
 |v,.bool b,_,r=>r
 |v,.int i,_,r=>r
 |v,.str x,_,r=>r
 |v,.tuple ds,i,r=>by obtain⟨a,vs,e,h,q⟩:=r;exact⟨a,vs,e,h,Reps.bE ds (i) q⟩
 |v,.list ds,i,r=>by cases(show false=true from i)
 |v,.dict es,i,r=>by cases(show false=true from i)
theorem Reps.bE:∀{vs:List V} (ds:List aq),imms ds=true->Reps K H B vs ds->Reps K H B' vs ds
 |vs,[],_,r=>r
 |vs,d::ds,i,r=>by have i:=ar.mp (show(imm d&&imms ds)=true from i);obtain⟨v,t,e,h,q⟩:=r;exact⟨v,t,e,Rep.bE d i.1 h,Reps.bE ds i.2 q⟩
end
mutual
theorem Rep.iQ (hH:∀a o,H a=some o->Fix o->H' a=some o):∀{v:V} (d:aq),imm d=true->Rep K H B v d->Rep K H' B' v d
 |v,.none,_,r=>r
 |v,.bool b,_,r=>r
 |v,.int i,_,r=>r
 |v,.str x,_,r=>r
 |v,.tuple ds,i,r=>by obtain⟨a,vs,e,h,q⟩:=r;exact⟨a,vs,e,h.keep (B:=λ_=>False) (λa o e f=>hH a o e (f.resolve_left id)),Reps.iQ hH ds (i) q⟩
 |v,.list ds,i,r=>by cases(show false=true from i)
 |v,.dict es,i,r=>by cases(show false=true from i)
theorem Reps.iQ (hH:∀a o,H a=some o->Fix o->H' a=some o):∀{vs:List V} (ds:List aq),imms ds=true->Reps K H B vs ds->Reps K H' B' vs ds
 |vs,[],_,r=>r
 |vs,d::ds,i,r=>by have i:=ar.mp (show(imm d&&imms ds)=true from i);obtain⟨v,t,e,h,q⟩:=r;exact⟨v,t,e,Rep.iQ hH d i.1 h,Reps.iQ hH ds i.2 q⟩
end
theorem Reps.length:∀{vs:List V} {ds:List D},Reps K H B vs ds->vs.length=ds.length
 |vs,[],r=>by have e:vs=[]:=r;subst e;rfl
 |vs,d::ds,r=>by obtain⟨v,t,rfl,h,q⟩:=r;rw[bh,bh,q.length]
theorem Reps.get:∀{vs:List V} {a:List D} {i:Nat} {d:D},Reps K H B vs a->a[i]?=some d->∃v,vs[i]?=some v/\Rep K H B v d
 |vs,[],i,d,r,e=>by simp at e
 |vs,c::a,0,d,r,e=>by
  obtain⟨v,t,b,h,q⟩:=r;subst b;have:c=d:=by simpa using e
  subst this;exact⟨v,rfl,h⟩
 |vs,c::a,i+1,d,r,e=>by obtain⟨v,t,b,h,q⟩:=r;subst b;obtain⟨u,f,g⟩:=q.get (by simpa using e);exact⟨u,by simpa using f,g⟩
theorem Reps.kJ:∀{j:List V} {b:List D} {i:Nat} {v:V},Reps K H B j b->j[i]?=some v->∃d,b[i]?=some d/\Rep K H B v d
 |j,[],i,v,r,e=>by have a:j=[]:=r;subst a;simp at e
 |j,c::b,0,v,r,e=>by
  obtain⟨u,t,a,h,q⟩:=r;subst a;have:u=v:=by simpa using e
  subst this;exact⟨c,rfl,h⟩
 |j,c::b,i+1,v,r,e=>by obtain⟨u,t,a,h,q⟩:=r;subst a;obtain⟨d,f,g⟩:=q.kJ (by simpa using e);exact⟨d,by simpa using f,g⟩
theorem Reps.cons {v:V}{d:D}{vs:List V}{ds:List D}(h:Rep K H B v d)(r:Reps K H B vs ds):Reps K H B (v::vs) (d::ds):=⟨v,vs,rfl,h,r⟩
theorem Reps.append:∀{b ws:List V} {a c:List D},Reps K H B b a->Reps K H B ws c->Reps K H B (b++ws) (a++c)
 |b,ws,[],c,r,q=>by have e:b=[]:=r;subst e;exact q
 |b,ws,d::a,c,r,q=>by obtain⟨v,t,rfl,h,p⟩:=r;exact⟨v,t++ws,rfl,h,p.append q⟩
theorem Reps.take:∀{vs:List V} {ds:List D} n,Reps K H B vs ds->Reps K H B (vs.take n) (ds.take n)
 |vs,ds,0,r=>by rw[List.take_zero];exact rfl
 |vs,[],n+1,r=>by have e:vs=[]:=r;subst e;exact rfl
 |vs,d::ds,n+1,r=>by obtain⟨v,t,e,h,p⟩:=r;subst e;exact⟨v,t.take n,rfl,h,p.take n⟩
theorem Reps.drop:∀{a:List V} {b:List D} n,Reps K H B a b->Reps K H B (a.drop n) (b.drop n)
 |a,b,0,r=>r
 |a,[],n+1,r=>by have e:a=[]:=r;subst e;exact rfl
 |a,d::b,n+1,r=>by obtain⟨v,t,rfl,h,p⟩:=r;exact p.drop n
theorem Reps.set (h:Rep K H B v d):∀{a:List V} {b:List D} (n:Nat),Reps K H B a b->Reps K H B (a.set n v) (b.set n d)
 |a,[],n,r=>by have e:a=[]:=r;subst e;exact rfl
 |a,d::b,0,r=>by obtain⟨u,t,e,_,p⟩:=r;subst e;exact⟨_,_,rfl,h,p⟩
 |a,d::b,n+1,r=>by obtain⟨u,t,e,h0,p⟩:=r;subst e;exact⟨_,_,rfl,h0,p.set h n⟩
mutual
theorem Rep.there:∀{v:V} (d:aq),Rep K H B v d->Rep K H (λa=>B a/\¬nw H a) v d
 |v,.none,r=>r
 |v,.bool b,r=>r
 |v,.int i,r=>r
 |v,.str x,r=>r
 |v,.tuple ds,r=>by obtain⟨a,vs,e,h,q⟩:=r;exact⟨a,vs,e,h,Reps.there ds q⟩
 |v,.list ds,r=>by
  obtain⟨a,vs,e,h,q⟩:=r;refine⟨a,vs,e,?_,Reps.there ds q⟩;rcases h with⟨h,b⟩|h
  ·refine .inl ⟨h,b,λz=>?_⟩;have z':H a=none:=z;rw[h]at z';cases z'
  ·exact .inr ⟨h.1,h.2,λz=>z⟩
 |v,.dict es,r=>by obtain⟨a,kvs,e,h,b,q⟩:=r;exact⟨a,kvs,e,h,⟨b,λz=>by have z':H a=none:=z;rw[h]at z';cases z'⟩,aS.there es q⟩
theorem Reps.there:∀{vs:List V} (ds:List aq),Reps K H B vs ds->Reps K H (λa=>B a/\¬nw H a) vs ds
 |vs,[],r=>r
 |vs,d::ds,r=>by obtain⟨v,t,e,h,q⟩:=r;exact⟨v,t,e,Rep.there d h,Reps.there ds q⟩
theorem aS.there:∀{kvs:List (Key×V)} (es:List (aq×aq)),aS K H B kvs es->aS K H (λa=>B a/\¬nw H a) kvs es
 |kvs,[],r=>r
 |kvs,(kd,d)::es,r=>by obtain⟨k,v,t,e,e2,ok,h,q⟩:=r;exact⟨k,v,t,e,e2,ok,Rep.there d h,aS.there es q⟩
end
end
structure Fm where
 H0:Hp
 V:Addr->Prop
 O:Addr->Option Nat
 z:Prop
def Bin (F:Fm):Ad->Prop
 |some a=>F.O a=none/\F.H0 a=none/\F.V a
 |none=>False
def bY (F:Fm):Ad->Prop
 |some a=>F.V a
 |none=>F.z
def dU (F:Fm):Ad->Prop
 |some a=>F.H0 a≠none/\F.V a
 |none=>F.z
def Slot (K:W.Frag)(F:Fm)(H:Hp)(i:Nat):G->V->D->Prop
 |.fr,v,d=>∃p,v=.ref p/\F.O p=some i/\((∃vs ds,d=.list ds/\H p=some (.lst vs)/\Reps K H (Bin F) vs ds)\/(∃kvs es,d=.dict es/\H p=some (.dK kvs)/\aS K H (Bin F) kvs es))
 |.od,v,d=>Rep K H (dU F) v d
 |.al,v,d=>Rep K H (bY F) v d
 |.nu,v,d=>Rep K H (Bin F) v d
structure StOk (K:W.Frag)(F:Fm)(H:Hp)(σ:L2.St)(ρ:Rho):Prop where
 ext:Same F.H0 H
 aN:∀a,H a=none->F.V a
 own:∀a i,F.O a=some i->F.H0 a=none/\F.V a/\((∃xs,H a=some (.lst xs))\/∃kvs,H a=some (.dK kvs))
 len:σ.length=ρ.length
 sl:∀i g d,ρ[i]?=some (some (g,d))->∃v,σ[i]?=some (some v)/\Slot K F H i g v d
def BG (F:Fm)(H:Hp):G->Ad->Prop
 |.fr=>nw H
 |.od=>dU F
 |.al=>bY F
 |.nu=>λa=>nw H a\/Bin F a
section
variable {K:W.Frag}{F:Fm}{H H':Hp}{σ:L2.St}{ρ:Rho}
theorem Slot.same (s:Same H H')(h:Slot K F H i g v d):Slot K F H' i g v d:=by
 cases g with
 |fr=>
  obtain⟨p,e,o,h⟩:=h;refine⟨p,e,o,?_⟩;rcases h with⟨j,a,c,f,r⟩|⟨j,a,c,f,r⟩
  ·exact .inl ⟨j,a,c,s _ _ f,r.same s λ_ b=>b⟩
  ·exact .inr ⟨j,a,c,s _ _ f,r.same s λ_ b=>b⟩
 |od=>exact Rep.same s (λ_ b=>b) h
 |al=>exact Rep.same s (λ_ b=>b) h
 |nu=>exact Rep.same s (λ_ b=>b) h
theorem _root_.L2.Same.none (s:Same H H')(h:H' a=none):H a=none:=by
 cases e:H a with
 |none=>rfl
 |some o=>rw[s a o e]at h;cases h
theorem StOk.same (s:Same H H')(h:StOk K F H σ ρ):StOk K F H' σ ρ where
 ext:=λa o e=>s a o (h.ext a o e)
 aN:=λa e=>h.aN a (s.none e)
 own:=λa i e=>by
  obtain⟨c,j,b⟩:=h.own a i e;refine⟨c,j,?_⟩;rcases b with⟨f,b⟩|⟨f,b⟩
  ·exact .inl ⟨f,s _ _ b⟩
  ·exact .inr ⟨f,s _ _ b⟩
 len:=h.len
 sl:=λi g d e=>by obtain⟨v,c,b⟩:=h.sl i g d e;exact⟨v,c,b.same s⟩
theorem nw.back (s:Same H H')(h:nw H' a):nw H a:=by
 cases a with
 |none=>exact h
 |some a=>exact s.none h
theorem nw.aN (b:∀a,H a=none->F.V a)(h:nw H a):bY F a:=by
 cases a with
 |none=>exact h.elim
 |some a=>exact b a h
theorem dU.aN (h:dU F a):bY F a:=by
 cases a with
 |none=>exact h
 |some a=>exact h.2
theorem Bin.aN (h:Bin F a):bY F a:=by
 cases a with
 |none=>exact h.elim
 |some a=>exact h.2.2
theorem BG.back (s:Same H H')(h:BG F H' g a):BG F H g a:=by
 cases g with
 |fr=>exact nw.back s h
 |od=>exact h
 |al=>exact h
 |nu=>exact h.elim (λh=>.inl (nw.back s h)) .inr
theorem BG.aN (b:∀a,H a=none->F.V a)(h:BG F H g a):bY F a:=by
 cases g with
 |fr=>exact nw.aN b h
 |od=>exact dU.aN h
 |al=>exact h
 |nu=>exact h.elim (nw.aN b) Bin.aN
theorem Slot.rep (f:∀a i,F.O a=some i->F.V a)(h:Slot K F H i g v d):Rep K H (bY F) v d:=by
 cases g with
 |fr=>
  obtain⟨p,e,o,h⟩:=h;rcases h with⟨k,j,rfl,c,r⟩|⟨k,j,rfl,c,r⟩
  ·exact⟨p,k,e,.inl ⟨c,f _ _ o⟩,r.weak λ_ b=>b.aN⟩
  ·exact⟨p,k,e,c,f _ _ o,aS.same (λ_ _ e=>e) (λ_ b=>b.aN) r⟩
 |od=>exact Rep.weak (λ_ b=>b.aN) h
 |al=>exact h
 |nu=>exact Rep.weak (λ_ b=>Bin.aN b) h
theorem StOk.iR (h:StOk K F H σ ρ):∀a i,F.O a=some i->F.V a:=λa i e=>(h.own a i e).2.1
theorem StOk.rd (h:StOk K F H σ ρ){i:Nat}(e:vh ρ[i]?=.ok x):∃v,σ[i]?=some (some v)/\Rep K H (BG F H x.1) v x.2:=by
 cases c:ρ[i]? with
 |none=>rw[c]at e;cases e
 |some o=>
  cases o with
  |none=>rw[c]at e;cases e
  |some f=>
   obtain⟨g,d⟩:=f;rw[c]at e;obtain⟨v,j,a⟩:=h.sl i g d c;have k:=(Res.ok.inj e).symm;subst k;refine⟨v,j,?_⟩;by_cases l:imm d=true
   ·show Rep K H (BG F H (if imm d=true then _ else _)) v d;exact Rep.bE d l (a.rep h.iR)
   ·show Rep K H (BG F H (if imm d=true then _ else _)) v d;rw[qu l];cases g with
    |fr=>exact a.rep h.iR
    |od=>exact a
    |al=>exact a
    |nu=>exact Rep.weak (λ_ b=>.inr b) a
end
structure Gm where
 N:List Str
 sc:Scope
 blk:Bool:=false
 free:List Str
 fns:List (Str×Nat)
 cst:List Str
 cm:Bool:=true
 xc:Option (Str×Str):=none
 sub:List (Str×Str×Bool):=[]
 rs:List Str:=[]
 fC:List (Str×Str):=[]
section
variable (Γ:Gm)
def l' (i:Nat)(x:Str):Bool:=(Γ.N[i]?==some x)&&(Γ.sc.names.lookup x==some .local||Γ.sc.names.lookup x==some .cell||Γ.sc.names.lookup x==some .free)&& !(x==("__debug__":Str))&& !(x==("__classdict__":Str))
def lF (x:Str):Bool:=(Γ.sc.names.lookup x==some .globalImplicit)&& !(x==("__debug__":Str))
def cV (x:Str):Bool:=lF Γ x&&Γ.free.contains x&& !(x==("__name__":Str))
def mC (i:Nat)(x:Str):Bool:=(Γ.N[i]?==some x)&&(Γ.sc.names.lookup x==some .local||(!Γ.blk&&Γ.sc.names.lookup x==some .cell))
end
def tgIx:Tg->List Nat
 |.nm i=>[i]
 |.tp is=>is
def yp (scope sc:Scope):Scope:={scope with names:=scope.names.map λ(n,k)=>if(k==.free&&sc.kind==.function&&sc.names.lookup n==some .cell)then(n,.cell)else(n,k)}
def plainT:Expr->Bool
 |.UnaryOp .Not _ _=>false
 |.BoolOp _ _ _=>false
 |.IfExp _ _ _ _=>false
 |.Compare _ _ _ _=>false
 |_=>true
def FQ:Expr->Bool
 |.Compare _ _ _ _=>true
 |_=>false
def z4c:Expr->Bool
 |.Slice _ _ _ _=>false
 |_=>true
def z0n:Expr->Bool
 |.Call (.Name _ _) [] [] _=>false
 |_=>true
def sm:Expr->Bool
 |.Set _ _ _=>false
 |_=>true
def isTup:Expr->Bool
 |.Tuple _ _ _=>true
 |_=>false
def vv:Expr->Option Str
 |.Name x _=>some x
 |_=>none
def fI:Expr->Option Const
 |.Constant v _ _=>some v
 |_=>none
def vx:Expr->Option (Expr×pz×Expr)
 |.BinOp l o r _=>some (l,o,r)
 |_=>none
def vy:Expr->Option (UnaryOp×Expr)
 |.UnaryOp o x _=>some (o,x)
 |_=>none
def nT:Expr->Option (Expr×List CmpOp×List Expr)
 |.Compare l o r _=>some (l,o,r)
 |_=>none
def qG:Expr->Option (BoolOp×List Expr×Pos)
 |.BoolOp o xs p=>some (o,xs,p)
 |_=>none
def vz:Expr->Option (Expr×Expr×Expr)
 |.IfExp t x y _=>some (t,x,y)
 |_=>none
def oT:Expr->Option (List Expr)
 |.Tuple es _ _=>some es
 |_=>none
def sr:Expr->Option (List Expr)
 |.List es _=>some es
 |_=>none
def Ba:Expr->Option (List (Option Expr)×List Expr)
 |.Dict k v _=>some (k,v)
 |_=>none
def kK:Expr->Option (Expr×Expr)
 |.Subscript x i _=>some (x,i)
 |_=>none
def vA:Expr->Option (Option Expr×Option Expr×Option Expr)
 |.Slice l h s _=>some (l,h,s)
 |_=>none
def yq:Expr->Option (Expr×List Expr×List kx×Pos)
 |.Call f es k p=>some (f,es,k,p)
 |_=>none
def sx:Expr->Option (Expr×Str×Pos)
 |.Attribute x n p=>some (x,n,p)
 |_=>none
def Bb:Expr->Option (Expr×List Comprehension×Scope)
 |.ListComp el gs s _=>some (el,gs,s)
 |_=>none
def bF {α:Type}:List α->Option α
 | [x]=>some x
 |_=>none
def oU {α:Type}:List α->Option (α×α)
 | [x,y]=>some (x,y)
 |_=>none
def hY (e:Expr):Option (Str×List Expr):=(yq e).bind λv=>if v.2.2.1.isEmpty then(vv v.1).map λx=>(x,v.2.1)else none
def sy (e:Expr):Option (Expr×Str×List Expr×Bool):=(yq e).bind λv=>if v.2.2.1.isEmpty then(sx v.1).map λu=>(u.1,u.2.1,v.2.1,u.2.2.endLine==v.2.2.2.line)else none
def qH (f g:Expr->Bool)(o:BoolOp)(p:Pos):List Expr->Bool
 |x::y::r=>f x&&(if r.isEmpty then g y else g (.BoolOp o (y::r) p))
 |_=>false
def vB (n:Bool)(f:Expr->Bool):List Expr->Bool
 | []=>n
 |t::r=>r.isEmpty&&f t
def vC:C->Bool
 |.nil=>true
 |_=>false
def kL (f:Str->Bool)(e:Expr):Bool:=(vv e).any f
def Bc (Γ:Gm):List Nat->List Expr->Bool
 | [],es=>es.isEmpty
 |i::is,es=>match es with|e::es=>kL (mC Γ i) e&&Bc Γ is es| []=>false
def qI (Γ:Gm):Tg->Expr->Bool
 |.nm i,e=>kL (mC Γ i) e
 |.tp is,e=>Γ.cm&&(oT e).any (Bc Γ is)
def Bd:pz->Bool
 |.Add|.Sub|.Mult|.FloorDiv|.Mod|.Pow=>true
 |_=>false
def z42:CmpOp->Bool
 |.Is|.IsNot|.GtE=>false
 |_=>true
def Be (T:String):Bool:=tysB.contains T
def tyB (Γ:Gm)(T:String)(t:Expr):Bool:=kL (λx=>(x==Str.ofString T)&&cV Γ x&&Be T) t
def vD:List String:=["tuple","sorted","dict"]
def MZ:Tg->Bool
 |.nm _=>true
 |.tp _=>false
def yr:C->Expr->Bool
 |.enum _,e=>isTup e
 |_,_=>true
mutual
def chkE (Γ:Gm):C->Expr->Bool
 |.var i,e=>kL (l' Γ i) e
 |.aK,e=>decide (fI e=some .none)
 |.bl b,e=>decide (fI e=some (.bool b))
 |.int i,e=>decide (fI e=some (.int i))
 |.str x,e=>decide (fI e=some (.str x))&&PyData.strOk x
 |.glob _ _,_=>false
 |.bin op a b,e=>(vx e).any λv=>decide (op=v.2.1)&&Bd op&&chkE Γ a v.1&&chkE Γ b v.2.2
 |.neg a,e=>(vy e).any λv=>decide (v.1=.USub)&&chkE Γ a v.2
 |.cmp op a b,e=>(nT e).any λv=>decide (v.2.1=[op])&&(bF v.2.2).any λr=>z42 op&& !(dw op r)&&chkE Γ a v.1&&chkE Γ b r
 |.qB ng a,e=>(nT e).any λv=>decide (v.2.1=[if ng then .IsNot else .Is])&&(bF v.2.2).any λr=>decide (fI r=some .none)&&chkE Γ a v.1
 |.and a b,e=>(qG e).any λv=>decide (v.1=.And)&&qH (λx=>chkE Γ a x) (λx=>chkE Γ b x) .And v.2.2 v.2.1
 |.or a b,e=>(qG e).any λv=>decide (v.1=.Or)&&qH (λx=>chkE Γ a x) (λx=>chkE Γ b x) .Or v.2.2 v.2.1
 |.not a,e=>(vy e).any λv=>decide (v.1=.Not)&&chkE Γ a v.2
 |.se c a b,e=>(vz e).any λv=>eF Γ c v.1&&chkE Γ a v.2.1&&chkE Γ b v.2.2
 |.tup xs,e=>(oT e).any λes=>decide (es.length<=1000)&&dV Γ xs es
 |.lst xs,e=>(sr e).any λes=>decide (es.length<=1000)&&dV Γ xs es
 |.gC,e=>(Ba e).any λv=>v.1.isEmpty&&v.2.isEmpty
 |.ix a b,e=>(kK e).any λv=>z4c v.2&&chkE Γ a v.1&&chkE Γ b v.2
 |.sl a lo hi,e=>(kK e).any λv=>(vA v.2).any λs=>s.2.2.isNone&&chkE Γ a v.1&&oV Γ lo s.1&&oV Γ hi s.2.1
 |.call k f args,e=>(hY e).any λv=>(Γ.cm&&(v.1==f))&&lF Γ v.1&&(Γ.fns[k]?==some (f,v.2.length))&&dV Γ args v.2&& !v.2.isEmpty
 |.bi f args,e=>(hY e).any λv=>(v.1==Str.ofString f)&&cV Γ v.1&&((["len","min","int"].contains f)&&(Γ.cm||f=="int"))&&dV Γ args v.2&& !v.2.isEmpty
 |.lC f a,e=>(hY e).any λv=>(v.1==Str.ofString f)&&cV Γ v.1&&(vD.contains f&&Γ.cm)&&(bF v.2).any λy=>!isStar y&&sA Γ a y
 |.kE a ts,e=>(hY e).any λv=>(v.1==("isinstance":Str))&&cV Γ v.1&&(oU v.2).any λy=>!isStar y.1&&chkE Γ a y.1&&(bF ts).any λT=>tyB Γ T y.2
 |.mt m o args,e=>(sy e).any λv=>((v.2.1==Str.ofString m)&& ["get","join"].contains m&&z0n v.1&&v.2.2.2&&decide (v.2.2.1.length<20))&&chkE Γ o v.1&&dV Γ args v.2.2.1&& !v.2.2.1.isEmpty
 |.comp nt js N' tg it cond elt,e=>(Bb e).any λv=>(bF v.2.1).any λg=>let Bf:Gm:={Γ with N:=N',sc:=yp v.2.2 Γ.sc,blk:=true,xc:=none}
  ((Γ.cm&&(g.is_async==0))&&(tgIx tg).all (λi=>decide (i<nt))&&oI Γ.N Γ.sc v.2.2 N' nt js&&sm g.iter&&decide N'.Nodup)&&(qI Bf tg g.target&&yr it g.target)&&kM Γ it g.iter&&vB (vC cond) (λt=>eF Bf cond t) g.ifs&&chkE Bf elt v.1
 |.lD b x,e=>(hY e).any λv=>(v.1==("isinstance":Str))&&cV Γ v.1&&(oU v.2).any λy=>Γ.xc.any λz=>kL (λn=>(n==z.1)&&(Γ.sc.names.lookup n==some .local)&& !(n==("__debug__":Str))&& !(n==("__classdict__":Str))) y.1&&kL (λC=>(C==x)&&lF Γ C&&Γ.sub.contains (z.2,x,b)) y.2
 |.fA _,_=>false
 |.enum _,_=>false
 |.tv _,_=>false
 |.nil,_=>false
 |.cons _ _,_=>false
def eF (Γ:Gm):C->Expr->Bool
 |.and a b,e=>(qG e).any λv=>decide (v.1=.And)&&qH (λx=>eF Γ a x) (λx=>eF Γ b x) .And v.2.2 v.2.1
 |.or a b,e=>(qG e).any λv=>decide (v.1=.Or)&&qH (λx=>eF Γ a x) (λx=>eF Γ b x) .Or v.2.2 v.2.1
 |.not a,e=>(vy e).any λv=>decide (v.1=.Not)&&eF Γ a v.2
 |.tv a,e=>(plainT e||FQ e)&&chkE Γ a e
 |_,_=>false
def dV (Γ:Gm):C->List Expr->Bool
 |.nil,es=>es.isEmpty
 |.cons a r,es=>match es with|e::es=>!isStar e&&chkE Γ a e&&dV Γ r es|_=>false
 |_,_=>false
def oV (Γ:Gm):C->Option Expr->Bool
 |.nil,e=>e.isNone
 |.tv a,e=>e.any λe=>chkE Γ a e
 |_,_=>false
def kM (Γ:Gm):C->Expr->Bool
 |.fA args,e=>(hY e).any λv=>(v.1==("range":Str))&&cV Γ v.1&&dV Γ args v.2&&(!v.2.isEmpty&&decide (v.2.length<=2))
 |.tv a,e=>sm e&&chkE Γ a e
 |.enum a,e=>(hY e).any λv=>(v.1==("enumerate":Str))&&cV Γ v.1&&(bF v.2).any λy=>!isStar y&&chkE Γ a y
 |_,_=>false
def sA (Γ:Gm):C->Expr->Bool
 |.tv a,e=>chkE Γ a e
 |_,_=>false
end
def sD:C->Bool
 |_=>false
def vE (Γ:Gm)(it:C)(tg ie:Expr):Bool:=yr it tg&&kM Γ it ie
def tV:Stmt->Option (List Expr×Expr)
 |.Assign t v _=>some (t,v)
 |_=>none
def vF:Stmt->Option Expr
 |.Expr v _=>some v
 |_=>none
def Bg:Stmt->Option (Option Expr)
 |.Return v _=>some v
 |_=>none
def Bh:Stmt->Option (Expr×List Stmt×List Stmt)
 |.If t A B _=>some (t,A,B)
 |_=>none
def yt:Stmt->Option (Expr×Expr×List Stmt×List Stmt)
 |.For t i B o _=>some (t,i,B,o)
 |_=>none
def FR:Stmt->Option (Expr×List Stmt×List Stmt)
 |.While t B o _=>some (t,B,o)
 |_=>none
def vG:Stmt->Option (Str×List Expr)
 |.Raise (some c) none _=>hY c
 |_=>none
def Bi (e:Expr):Bool:=(fI e).any λk=>match k with|.str x=>PyData.strOk x|_=>false
def Bj:o4->Option (Str×Str×List Stmt)
 |.ExceptHandler (some t) (some n) b _=>(vv t).map λx=>(x,n,b)
 |_=>none
mutual
def sE (Γ:Gm):S->Stmt->Bool
 |.bad,_=>true
 |.asg t e,s=>(tV s).any λu=>(bF u.1).any λx=>qI Γ t x&& !sD e&&(MZ t||(!lB u.2&& !isTup u.2))&&chkE Γ e u.2
 |.mut m i args,s=>(vF s).any λc=>(sy c).any λv=>(kL (l' Γ i) v.1&&(v.2.1==Str.ofString m)&& ["append"].contains m&&v.2.2.2&&decide (v.2.2.1.length<20))&& !v.2.2.1.isEmpty&&dV Γ args v.2.2.1
 |.drop e,s=>(vF s).any λv=>!lB v&&chkE Γ e v
 |.ret e,s=>(Bg s).any λo=>o.any λv=>chkE Γ e v
 |.bV c a b,s=>(Bh s).any λv=>eF Γ c v.1&&chkL Γ a v.2.1&&chkL Γ b v.2.2
 |.bP t it b,s=>Γ.cm&&(yt s).any λv=>qI Γ t v.1&&vE Γ it v.1 v.2.1&&chkL Γ b v.2.2.1&&v.2.2.2.isEmpty
 |.kG c,s=>(vG s).any λv=>(v.1==c)&&lF Γ c&&Γ.rs.contains c&&Γ.cm&&(bF v.2).any Bi
 |.nil,_=>false
 |.seq _ _,_=>false
def chkL (Γ:Gm):S->List Stmt->Bool
 |.nil,l=>l.isEmpty
 |.seq a b,l=>match l with|s::r=>sE Γ a s&&chkL Γ b r|_=>false
 |_,_=>false
end
def tD (K:W.Frag)(f:Rho->Res GD):TE:=λσ H Q=>∃ρ F x,StOk K F H σ ρ/\f ρ=.ok x/\∀v H',Same H H'->Rep K H' (BG F H x.1) v x.2->Q v H'
def dN (K:W.Frag)(f:Rho->Res Bool):TT:=λσ H Q=>∃ρ F b,StOk K F H σ ρ/\f ρ=.ok b/\∀H',Same H H'->Q b H'
def tDO (K:W.Frag)(f:Rho->Res (Option Int)):TO:=λσ H Q=>∃ρ F b,StOk K F H σ ρ/\f ρ=.ok b/\∀H',Same H H'->Q b H'
def eK (K:W.Frag)(F:Fm)(H H':Hp):List V->List GD->Prop
 |vs,[]=>vs=[]
 |vs,x::xs=>∃v r,vs=v::r/\Rep K H' (BG F H x.1) v x.2/\eK K F H H' r xs
def tDA (K:W.Frag)(f:Rho->Res (List GD)):TA:=λσ H Q=>∃ρ F xs,StOk K F H σ ρ/\f ρ=.ok xs/\∀vs H',Same H H'->eK K F H H' vs xs->Q vs H'
theorem _root_.L2.PE.imp (h:PE X e t)(i:∀b H Q,a b H Q->t b H Q):PE X e a:=λc s b H Q I q=>h c s b H Q I (i b H Q q)
theorem _root_.L2.PT.imp (h:PT X e t)(i:∀b H Q,a b H Q->t b H Q):PT X e a:=λc s b H Q I q=>h c s b H Q I (i b H Q q)
theorem _root_.L2.PW.imp (h:PW X e t)(i:∀b H Q,a b H Q->t b H Q):PW X e a:=λwh c s b H Q I q=>h wh c s b H Q I (i b H Q q)
theorem _root_.L2.PA.imp (h:PA X e t)(i:∀b H Q,a b H Q->t b H Q):PA X e a:=λd c s b H Q I q=>h d c s b H Q I (i b H Q q)
theorem _root_.L2.PO.imp (h:PO X e t)(i:∀b H Q,a b H Q->t b H Q):PO X e a:=λc s b H Q I q=>h c s b H Q I (i b H Q q)
theorem _root_.L2.PS.imp (h:PS X e t)(i:∀D b H,a D b H->t D b H):PS X e a:=λc s b H D I q=>h c s b H D I (i D b H q)
theorem _root_.L2.PSs.imp (h:PSs X e t)(i:∀D b H,a D b H->t D b H):PSs X e a:=λc s b H D I q=>h c s b H D I (i D b H q)
section
variable {K:W.Frag}{F:Fm}{H H1 H':Hp}
theorem eK.back:∀{c:List V} {a:List GD},Same H H1->eK K F H1 H' c a->eK K F H H' c a
 |c,[],_,r=>r
 |c,x::a,s,r=>by obtain⟨v,t,e,h,q⟩:=r;exact⟨v,t,e,h.weak λ_ b=>b.back s,q.back s⟩
theorem eK.mD:∀{f:List V} {b:List GD},(∀x∈b,∀a,BG F H x.1 a->B a)->eK K F H H' f b->Reps K H' B f (b.map (·.2))
 |f,[],_,r=>r
 |f,x::b,c,r=>by obtain⟨v,t,e,h,q⟩:=r;exact⟨v,t,e,h.weak (c x bj),q.mD λy d=>c y (ay _ d)⟩
theorem eK.jL (b:∀a,H a=none->F.V a)(r:eK K F H H' d c):Reps K H' (bY F) d (c.map (·.2)):=r.mD λ_ _ _ h=>h.aN b
theorem vH (f:∀a,H a=none->F.V a)(c:x∈d)(h:BG F H x.1 a):BG F H (cK d) a:=by
 unfold cK;by_cases e:(d.all λx=>x.1==.fr)=true
 ·rw[qt e];have:=(b6.mp e) x c;have b:x.1=.fr:=by simpa using this
  rw[b]at h;exact h
 ·rw[qu e];split
  ·rename_i g;have:=(b6.mp g) x c;rcases d2.mp this with b|b
   ·rw[eq_of_beq b]at h;exact .inl h
   ·rw[eq_of_beq b]at h;exact h
  ·exact h.aN f
theorem Bk (b:∀a,H a=none->F.V a)(s:Same H H1)(h:nw H1 a):BG F H (cK c) a:=by
 unfold cK;by_cases e:(c.all λx=>x.1==.fr)=true
 ·rw[qt e];exact nw.back s h
 ·rw[qu e];split
  ·exact .inl (nw.back s h)
  ·exact(nw.back s h).aN b
theorem qJ (r:Rep K H' B v d)(h:∀a,B a->BG F H g a):Rep K H' (BG F H (gJ d g)) v d:=by
 unfold gJ;by_cases e:imm d=true
 ·rw[qt e];exact Rep.bE d e r
 ·rw[qu e];exact r.weak h
end
def jM (K:W.Frag)(m:D->D->Res D):R2:=λx y H Q=>∃Bx By dx dy d,Rep K H Bx x dx/\Rep K H By y dy/\m dx dy=.ok d/\∀w H',Same H H'->Rep K H' (λa=>nw H a\/Bx a\/By a) w d->Q w H'
def oW (X:Cx)(f:Value->Value->Sem Value)(m:D->D->Res D):Prop:=OpR X f (jM X.K m)
def Bl (K:W.Frag)(m:D->D->Res D):R2:=λx y H Q=>∃Bx By dx dy d,Rep K H Bx x dx/\Rep K H By y dy/\m dx dy=.ok d/\∀w H',Same H H'->Rep K H' (λa=>nw H a\/Bx a\/By a) w d->(∀ds,d=.list ds->imms ds=true->Rep K H' (nw H) w d)->Q w H'
def Bm (X:Cx)(f:Value->Value->Sem Value)(m:D->D->Res D):Prop:=OpR X f (Bl X.K m)
theorem _root_.L2.OpR.imp (h:OpR X f r)(i:∀x y H Q,a x y H Q->r x y H Q):OpR X f a:=λd s e H x y v u Q I b c q=>h d s e H x y v u Q I b c (i x y H Q q)
def z59 (K:W.Frag)(m:List D->Res D):List V->Hp->VK->Prop:=λxs H Q=>∃B ds d,Reps K H B xs ds/\m ds=.ok d/\∀w H',Same H H'->Rep K H' (λa=>nw H a\/B a) w d->Q w H'
theorem _root_.L2.CallR.imp (h:CallR X f r)(i:∀x H Q,a x H Q->r x H Q):CallR X f a:=λc s d H x v Q I b q=>h c s d H x v Q I b (i x H Q q)
theorem M3 (a:PyData.strOk x=true)(b:PyData.strOk y=true):PyData.strOk (x++y)=true:=by
 unfold PyData.strOk at *
 show(x.cps++y.cps).all _=true;rw[Array.all_append,a,b];rfl
theorem qK:PyData.strOk x=true↔∀c∈x.cps.toList,c<0x110000:=by unfold PyData.strOk;rw[<-Array.all_toList];rw[b6];exact⟨λh c a=>by simpa using h c a,λh c a=>by simpa using h c a⟩
theorem FU (a:PyData.strOk x=true)(b:c∈x.cps.toList):PyData.strOk ⟨#[c]⟩=true:=
 qK.mpr λd hd=>by
  have e:d=c:=by simpa using hd
  rw[e];exact qK.mp a c b
theorem mE (h:n<=aR):n<=au:=bq h (by rw[c8];unfold aR;decide)
theorem _root_.L2.cA.rel {K:W.Frag}(s:Same H b)(h:cA K H a c):cA K b a c:=h.keep (B:=λ_=>True) λa o e _=>s a o e
section
def M5 (K:W.Frag):R2:=λx y H Q=>∃l b xs zs,x=.ref l/\y=.ref b/\SqL K H l xs/\SqL K H b zs/\xs.length+zs.length<=au/\∀p,H p=none->Q (.ref p) (upd H p (.lst (xs++zs)))
theorem M6:OpR X (fy .Add) (M5 X.K):=by
 intro M s O H x y v u Q I z A h;obtain⟨l,b,J,L,rfl,rfl,B,C,m,q⟩:=h;cases z;cases A;obtain⟨c,o,p1,_⟩:=I.list B;obtain⟨a,p,p2,_⟩:=I.list C;obtain⟨⟨cls,N,r,sl⟩,n,t,D,_,hd⟩:=p1;obtain⟨⟨w,e,f,g⟩,E,d,i,_,j⟩:=p2;subst D hd i j;have k:c.toArray.size+a.toArray.size<=au:=by rw[bz,bz,<-o.length,<-p.length];exact m
 refine mo ⟨_,t,rfl⟩ ⟨_,d,rfl⟩ noFill_list_add seq_list_add PySem.F.slot_list_add PySem.F.entry_list_add (PySem.F.args_list_add_2 _ _) (list_addW l b c.toArray a.toArray n E N e sl g k) ⟨t,d,?_⟩;have G:c.toArray++a.toArray=(c++a).toArray:=by simp
 rw[G];exact⟨.ref _,_,I.lnew (o.append p) (bf▸m),rfl,q _ I.fresh⟩
def M' (K:W.Frag):R2:=λx y H Q=>∃a b ys,x=.ref a/\y=.ref b/\cA K H a []/\cA K H b ys/\Q (.ref b) H
theorem Na:OpR X (fy .Add) (M' X.K):=by intro E s J H x y v u Q I o p h;obtain⟨l,b,C,rfl,rfl,r,t,q⟩:=h;cases o;cases p;obtain⟨w,z,p1,_⟩:=I.tuple r;obtain⟨a,D,p2,_⟩:=I.tuple t;cases z;obtain⟨⟨cls,G,j,sl⟩,k,A,n,hd⟩:=p1;obtain⟨⟨m,d,e,f⟩,c,g,B,i⟩:=p2;subst A hd g i;refine mo ⟨_,k,rfl⟩ ⟨_,c,rfl⟩ l5 oy PySem.F.slot_tuple_add PySem.F.entry_tuple_add (PySem.F.args_tuple_add_2 _ _) (tuple_addW0 l b _ a.toArray n B G d sl f (by simp)) ⟨k,c,?_⟩;exact⟨.ref b,H,I,rfl,q⟩
variable {K:W.Frag}{H:Hp}{B:Ad->Prop}{v:V}
theorem lG (r:Rep K H B v (.list b)):∃a c,v=.ref a/\SqL K H a c/\Reps K H B c b:=by
 obtain⟨a,c,e,h,q⟩:=r;refine⟨a,c,e,?_,q⟩;rcases h with⟨h,_⟩|⟨h|h,_⟩
 ·exact .inl (.inl h)
 ·exact .inl (.inr h)
 ·exact .inr h
theorem qL (b:H p=none)(r:Reps K H B f c)(d:∀a,B a->B' a)(e:B' (some p)):Rep K (upd H p (.lst f)) B' (.ref p) (.list c):=⟨p,f,rfl,.inl ⟨bI,e⟩,r.same (Same.upd b) d⟩
theorem yu (b:H p=none)(r:Reps K H B e c)(d:∀a,B a->f a):Rep K (upd H p (.tup e)) f (.ref p) (.tuple c):=⟨p,e,rfl,.inl (.inl bI),r.same (Same.upd b) d⟩
theorem dO {b:Type}{a:b}(h:(Res.no:Res b)=.ok a):False:=by cases h
theorem Nb:Bm X (fy .Add) (dE .Add):=by
 refine OpR.imp ((MH.or M6).or Na) λx y H Q h=>?_;obtain⟨u,v,D,w,d,k,l,e,q⟩:=h;cases D<;>try (exact(dO e).elim)
 all_goals cases w<;>try (exact(dO e).elim)
 case int.int i j=>cases e;have s:=k;have t:=l;subst s t;exact .inl (.inl (MN (q _ H (Same.refl H) rfl λm z=>by cases z)))
 case str.str i j=>
  have s:=k.1;have t:=l.1;subst s t;have e:(if i.length+j.length<=aR then Res.ok (PyData.str (i++j))else Res.no)=Res.ok d:=e;split at e
  ·rename_i n;cases e;exact .inl (.inl (MO (mE n) (q _ H (Same.refl H) ⟨rfl,M3 k.2 l.2⟩ λm z=>by cases z)))
  ·cases e
 case list.list xs ys=>
  have e:(if xs.length+ys.length<=aR then Res.ok (PyData.list (xs++ys))else Res.no)=Res.ok d:=e;split at e
  ·rename_i n;cases e;obtain⟨a,C,rfl,o,c⟩:=lG k;obtain⟨b,ws,rfl,r,f⟩:=lG l;refine .inl (.inr ⟨a,b,C,ws,rfl,rfl,o,r,mE (by rw[c.length,f.length];exact n),λp g=>q _ _ (Same.upd g) ?_ ?_⟩)
   ·exact qL g (Reps.append (c.weak λ_ z=>.inr (.inl z)) (f.weak λ_ z=>.inr (.inr z))) (λ_ z=>z) (.inl g)
   ·intro m z E;cases z;exact qL g (Reps.bE _ E (Reps.append (c.weak (B':=λa=>nw H a\/u a\/v a) λ_ z=>.inr (.inl z)) (f.weak λ_ z=>.inr (.inr z)))) (λ_ z=>z) g
  ·cases e
 case tuple.tuple xs ys=>
  have e:(if xs.length+ys.length<=aR then Res.ok (PyData.tuple (xs++ys))else Res.no)=Res.ok d:=e;split at e
  ·rename_i n;cases e;obtain⟨a,C,rfl,o,c⟩:=k;obtain⟨b,ws,rfl,r,f⟩:=l;cases C with
   |nil=>
    have:xs=[]:=by have:=c.length;exact fg.mp this.symm
    subst this;exact .inr ⟨a,b,ws,rfl,rfl,o,r,q _ H (Same.refl H) ⟨b,ws,rfl,r,f.weak λ_ z=>.inr (.inr z)⟩ λm z=>by cases z⟩
   |cons A B=>
    refine .inl (.inl (.inr (.inr (.inr ⟨a,b,A::B,ws,rfl,rfl,o,r,by simp,mE (by rw[c.length,f.length];exact n),λz=>?_,λz p g=>q _ _ (Same.upd g) ?_ λm z=>by cases z⟩))))
    ·subst z;have:ys=[]:=by have:=f.length;exact fg.mp this.symm
     subst this;rw[dz]at q;exact q _ H (Same.refl H) ⟨a,_,rfl,o,c.weak λ_ z=>.inr (.inl z)⟩ λm z=>by cases z
    ·exact yu g (Reps.append (c.weak λ_ z=>.inr (.inl z)) (f.weak λ_ z=>.inr (.inr z))) (λ_ z=>z)
  ·cases e
theorem yw {gd:Int->Int->D}(h:OpR X f (rI k g))(b:∀i j H B,Rep X.K H B (g i j) (gd i j))(hm:∀r a d,m r a=.ok d->∃i j,r=.int i/\a=.int j/\k i j/\d=gd i j):Bm X f m:=by refine OpR.imp h λx y H Q h=>?_;obtain⟨o,p,r,a,d,l,n,e,q⟩:=h;obtain⟨i,j,rfl,rfl,c,rfl⟩:=hm r a d e;exact⟨i,j,l,n,c,q _ H (Same.refl H) (b i j _ _) λ_ _ _=>b i j _ _⟩
theorem Nc (h:OpR X f (kX g)):OpR X f (rI (λ_ _=>True) g):=OpR.imp h λx y H Q ⟨i,j,a,b,_,q⟩=>⟨i,j,a,b,q⟩
theorem Nd:OpR X (fy .FloorDiv) (rI (λ_ j=>0<j/\j<2 ^ 200) λi j=>.int (i/j)):=opI λi j _ _ _ _ _ b q=>by
 refine floordiv_int (by omega) (by rw[Int.fdiv_eq_ediv_of_nonneg i (by omega)];exact q) (.inl (PyProof.noPylong_of_log2 ?_));have a:j.natAbs<2 ^ 200:=by omega
 have c:=(Nat.log2_lt (by omega)).mpr a;omega
def Nf:R2:=λx y H Q=>∃a n,x=.str a/\y=.int n/\(0<=n/\n<=aR/\a.length*n.toNat<=aR)/\Q (.str ⟨(oO n.toNat a.cps.toList).toArray⟩) H
theorem Ng {a:Type}(n:Nat):oO n ([]:List a)=[]:=by
 unfold oO
 induction n with
 |zero=>rfl
 |succ n b=>rw[om,p4,b];rfl
theorem FV (a:Array Nat):∀(k:Nat) (b:List Nat),(ao k a).foldl (·++·) b.toArray=(b++oO k a.toList).toArray
 |0,b=>by simp[oO]
 |k+1,b=>by
  rw[om,nk];have e:b.toArray++a=(b++a.toList).toArray:=by simp
  rw[e,FV a k];rw[i3];rfl
theorem Nh (h:0<=n):Txt.mul a n=⟨(oO n.toNat a.cps.toList).toArray⟩:=by
 unfold Txt.mul;by_cases c:n<1
 ·obtain rfl:n=0:=by omega
  rw[qt c];rfl
 ·rw[qu c];split
  ·rename_i b;rcases d2.mp b with b|b
   ·obtain rfl:n=1:=q8 b;show a=⟨(a.cps.toList++[]).toArray⟩;rw[dz]
   ·have e:a.cps.size=0:=q8 b;have d:=fg.mp (jb▸e);rw[d,Ng];have f:a.cps=#[]:=by rw[<-kh (xs:=a.cps),d]
    cases a;cases f;rfl
  ·have :=FV a.cps n.toNat [];exact congrArg Str.mk this
theorem Ni (h:PyData.strOk a=true)(n:Nat):PyData.strOk ⟨(oO n a.cps.toList).toArray⟩=true:=by unfold PyData.strOk at h ⊢;rw[<-Array.all_toList,b6]at h ⊢;intro c d;obtain⟨l,e,b⟩:=l8.mp d;rw[(List.mem_replicate.mp e).2]at b;exact h c b
theorem Nj:OpR X (fy .Mult) Nf:=by
 rintro g s h H x y v u Q I b c ⟨a,n,rfl,rfl,⟨h0,hn,d⟩,q⟩
 obtain⟨t,rfl⟩:=b;obtain⟨e,rfl⟩:=c;unfold aR at hn d;refine SB.mul (PyProof.Rows.mulOk_of a.length n.toNat (ae _) (by omega) (by omega) (by omega) (by omega)) λf k=>?_;rw[Nh h0];exact⟨.str _,H,I.tok _,⟨_,rfl⟩,q⟩
theorem Nk (f:pz)(h:Bd f=true):Bm X (fy f) (dE f):=by
 cases f<;>try (cases h;done)
 case Add=>exact Nb
 case Sub=>
  refine yw (Nc Lm) (gd:=λi j=>.int (i-j)) (λ_ _ _ _=>rfl) λs b d e=>?_;cases s<;>try (exact(dO e).elim)
  cases b<;>try (exact(dO e).elim)
  cases e;simp_all
 case Mult=>
  refine OpR.imp (Ln.or Nj) λx y H Q h=>?_;obtain⟨p,r,s,b,d,l,m,e,q⟩:=h;cases s<;>try (exact(dO e).elim)
  all_goals cases b<;>try (exact(dO e).elim)
  case int.int i j=>
   have e:(if(-(2 ^ 64)<i/\i<2 ^ 64)\/(-(2 ^ 64)<j/\j<2 ^ 64)then Res.ok (PyData.int (i*j))else Res.no)=Res.ok d:=e;split at e
   ·rename_i c;cases e;exact .inl ⟨i,j,l,m,c,q _ H (Same.refl H) rfl λo z=>by cases z⟩
   ·cases e
  case str.int a n=>
   have e:(if 0<=n/\n<=aR/\a.length*n.toNat<=aR then Res.ok (PyData.str ⟨(oO n.toNat a.cps.toList).toArray⟩)else Res.no)=Res.ok d:=e;split at e
   ·rename_i c;cases e;obtain⟨g,k⟩:=l;exact .inr ⟨a,n,g,m,c,q _ H (Same.refl H) ⟨rfl,Ni k _⟩ λo z=>by cases z⟩
   ·cases e
 case FloorDiv=>
  refine yw Nd (gd:=λi j=>.int (i/j)) (λ_ _ _ _=>rfl) λs b d e=>?_;cases s<;>try (exact(dO e).elim)
  cases b<;>try (exact(dO e).elim)
  rename_i i j;have e:(if 0<j/\j<2 ^ 200 then Res.ok (PyData.int (i/j))else Res.no)=Res.ok d:=e;split at e
  ·rename_i c;cases e;simp_all
  ·cases e
 case Mod=>
  refine yw Lo (gd:=λi j=>.int (i%j)) (λ_ _ _ _=>rfl) λs b d e=>?_;cases s<;>try (exact(dO e).elim)
  cases b<;>try (exact(dO e).elim)
  rename_i i j;have e:(if 0<j then Res.ok (PyData.int (i%j))else Res.no)=Res.ok d:=e;split at e
  ·rename_i c;cases e;simp_all
  ·cases e
 case Pow=>
  refine yw Lp (gd:=λi j=>.int (i ^ j.toNat)) (λ_ _ _ _=>rfl) λs b d e=>?_;cases s<;>try (exact(dO e).elim)
  cases b<;>try (exact(dO e).elim)
  rename_i i j;have e:(if 0<=j/\j<=1000/\i.natAbs<2 ^ 64 then Res.ok (PyData.int (i ^ j.toNat))else Res.no)=Res.ok d:=e;split at e
  ·rename_i c;cases e;exact⟨_,_,rfl,rfl,⟨c.1,by omega,c.2.2⟩,rfl⟩
  ·cases e
end
section
variable {X:Cx}{pins:List (Addr×Obj)}{σ:L2.St}{H:Hp}{s:az}{B:Ad->Prop}
mutual
theorem Rep.reads (I:Inv X pins σ H s):∀{v:V} {u:Value} (d:aq) (n:Nat),bA n d=true->Rep X.K H B v d->RelV v u->(∃as,Reads s.heap u d as)/\d.canLay0=true/\d.depth<=n
 |v,u,.none,n,_,r,q=>by have e:v=.aK:=r;subst e;cases q;exact⟨⟨[],.none⟩,by simp only[PyData.canLay0],db _⟩
 |v,u,.bool b,n,_,r,q=>by have e:v=.bl b:=r;subst e;cases q;exact⟨⟨[],.bool b⟩,by simp only[PyData.canLay0],db _⟩
 |v,u,.int b,n,_,r,q=>by have e:v=.int b:=r;subst e;obtain⟨t,rfl⟩:=q;exact⟨⟨[],.int b t⟩,by simp only[PyData.canLay0],db _⟩
 |v,u,.str b,n,_,r,q=>by obtain⟨e,ok⟩:v=.str b/\_:=r;subst e;obtain⟨t,rfl⟩:=q;exact⟨⟨[],.str b t⟩,by simp only[PyData.canLay0];exact ok,db _⟩
 |v,u,.tuple ds,0,h,r,q=>by cases h
 |v,u,.list ds,0,h,r,q=>by cases h
 |v,u,.tuple ds,n+1,h,r,q=>by obtain⟨a,vs,e,h1,r1⟩:=r;subst e;cases q;obtain⟨eI,rv,⟨o,ho,hc,k,hd⟩,_⟩:=I.tuple h1;obtain⟨⟨as,ra⟩,c,dp⟩:=Reps.reads I ds n (h) r1 rv;refine⟨⟨as,.tuple ho hc hd (by simpa using ra)⟩,by simp only[PyData.canLay0];exact c,?_⟩;simp only[PyData.depth];omega
 |v,u,.list ds,n+1,h,r,q=>by obtain⟨a,vs,e,h1,r1⟩:=lG r;subst e;cases q;obtain⟨eI,rv,⟨o,k,ho,hc,_,hd⟩,_⟩:=I.list h1;obtain⟨⟨as,ra⟩,c,dp⟩:=Reps.reads I ds n (h) r1 rv;refine⟨⟨a::as,.list ho hc hd (by simpa using ra)⟩,by simp only[PyData.canLay0];exact c,?_⟩;simp only[PyData.depth];omega
 |v,u,.dict es,n,h,r,q=>by cases n<;>cases h
theorem Reps.reads (I:Inv X pins σ H s):∀{vs:List V} {us:List Value} (ds:List aq) (n:Nat),fO n ds=true->Reps X.K H B vs ds->Vals vs us->(∃as,ReadsAll s.heap us ds as)/\PyData.canLayAll0 ds=true/\PyData.depthAll ds<=n
 |vs,us,[],n,_,r,q=>by have e:vs=[]:=r;subst e;cases q;exact⟨⟨[],.nil⟩,by simp only[PyData.canLayAll0],db _⟩
 |vs,us,d::ds,n,h,r,q=>by
  obtain⟨v,t,e,h1,r1⟩:=r;subst e;rw[fO,bv]at h;cases q with
  |cons q1 q2=>obtain⟨⟨as,ra⟩,c,dp⟩:=Rep.reads I d n h.1 h1 q1;obtain⟨⟨bs,rb⟩,c2,Nl⟩:=Reps.reads I ds n h.2 r1 q2;refine⟨⟨as++bs,.cons ra rb⟩,by simp only[PyData.canLayAll0,c,c2,Bool.and_self],?_⟩;simp only[PyData.depthAll];exact Nat.max_le.mpr ⟨dp,Nl⟩
end
end
def mB (m:D->D->Res Bool):D->D->Res D:=λx y=>m x y>>=λb=>.ok (.bool b)
theorem vJ (h:mB m x y=.ok d):∃b,m x y=.ok b/\d=.bool b:=by obtain⟨b,a,c⟩:=Res.aA h;exact⟨b,a,(Res.ok.inj c).symm⟩
theorem Bn (hu:X.A.units+64<cLine):oW X (cw .Eq) (mB (cmpD .Eq)):=by
 intro w s z H x y v u Q I c f h;obtain⟨o,p,t,a,d,g,i,e,q⟩:=h;obtain⟨b,j,ed⟩:=vJ e;subst ed;have e:=j;have e:(if(bA 40 t&&bA 40 a)=true then Res.ok (dZ t a)else Res.no)=Res.ok b:=e;split at e
 ·rename_i hs;cases e;rw[bv]at hs;obtain⟨⟨r,k⟩,l,p1⟩:=Rep.reads I t 40 hs.1 g c;obtain⟨⟨bs,m⟩,n,p2⟩:=Rep.reads I a 40 hs.2 i f;exact SeqAt.compareEq_reads k m l n (by omega) ⟨.bl _,H,I,rfl,q _ H (Same.refl H) rfl⟩
 ·cases e
theorem Bo (hu:X.A.units+64<cLine):oW X (cw .NotEq) (mB (cmpD .NotEq)):=by
 intro w s z H x y v u Q I c f h;obtain⟨o,p,t,a,d,g,i,e,q⟩:=h;obtain⟨b,j,ed⟩:=vJ e;subst ed;have e:=j;have e:(if(bA 40 t&&bA 40 a)=true then Res.ok (!dZ t a)else Res.no)=Res.ok b:=e;split at e
 ·rename_i hs;cases e;rw[bv]at hs;obtain⟨⟨r,k⟩,l,p1⟩:=Rep.reads I t 40 hs.1 g c;obtain⟨⟨bs,m⟩,n,p2⟩:=Rep.reads I a 40 hs.2 i f;exact SeqAt.compareNe_reads k m l n (by omega) ⟨.bl _,H,I,rfl,q _ H (Same.refl H) rfl⟩
 ·cases e
theorem zkv (h:OpR X (cw a) r)(m:∀i j b H Q,cmpD a (.int i) (.int j)=.ok b->Q (.bl b) H->r (.int i) (.int j) H Q)(n:∀i j b H Q,cmpD a (.str i) (.str j)=.ok b->Q (.bl b) H->r (.str i) (.str j) H Q)
  (hm:∀t c b,cmpD a t c=.ok b->(∃i j,t=.int i/\c=.int j)\/∃i j,t=.str i/\c=.str j):oW X (cw a) (mB (cmpD a)):=by
 refine OpR.imp h λx y H Q h=>?_;obtain⟨p,s,t,c,d,k,l,e,q⟩:=h;obtain⟨b,o,ed⟩:=vJ e;subst ed;have e:=o;rcases hm t c b e with⟨i,j,rfl,rfl⟩|⟨i,j,rfl,rfl⟩
 ·have f:x=.int i:=k;have g:=l;subst f g;exact m i j b H Q e (q _ H (Same.refl H) rfl)
 ·have f:x=.str i:=k.1;have g:=l.1;subst f g;exact n i j b H Q e (q _ H (Same.refl H) rfl)
theorem Bp:oW X (cw .Lt) (mB (cmpD .Lt)):=zkv AQ (λi j b H Q e q=>by cases e;exact MP q) (λi j b H Q e q=>by cases e;exact MS q) λc a b e=>by cases c<;>first|exact(dO e).elim|(cases a<;>first|exact .inl ⟨_,_,rfl,rfl⟩|exact .inr ⟨_,_,rfl,rfl⟩|exact(dO e).elim)
theorem Bq:oW X (cw .LtE) (mB (cmpD .LtE)):=zkv AR (λi j b H Q e q=>by cases e;exact MQ q) (λi j b H Q e q=>by cases e;exact MT q) λc a b e=>by cases c<;>first|exact(dO e).elim|(cases a<;>first|exact .inl ⟨_,_,rfl,rfl⟩|exact .inr ⟨_,_,rfl,rfl⟩|exact(dO e).elim)
theorem Br:oW X (cw .Gt) (mB (cmpD .Gt)):=zkv AS (λi j b H Q e q=>by cases e;exact MR q) (λi j b H Q e q=>by cases e;exact MU q) λc a b e=>by cases c<;>first|exact(dO e).elim|(cases a<;>first|exact .inl ⟨_,_,rfl,rfl⟩|exact .inr ⟨_,_,rfl,rfl⟩|exact(dO e).elim)
theorem aS.val {K:W.Frag}(k:Key):∀{a:List (Key×V)} {j:aX},aS K H B a j->match z0e j (kD k)with|some d=>∃v,cQ a k=some v/\Rep K H B v d|none=>cQ a k=none
 |a,[],r=>by have e:=r;subst e;exact rfl
 |a,(kd,d)::j,r=>by
  obtain⟨b,v,t,e,f,ok,h,q⟩:=r;subst e f;have g:=aS.val k q;by_cases z:b=k
  ·subst z
   have c:z0e ((kD b,d)::j) (kD b)=some d:=by
    have:eqK (kD b) (kD b)=true:=by cases b<;>simp[kD,eqK]
    unfold z0e;rw[mw (by exact this)];rfl
   rw[c];exact⟨v,yc rfl,h⟩
  ·have i:eqK (kD b) (kD k)=false:=by
    rw[pw];intro w;apply z;cases b<;>cases k<;>simp[kD,eqK]at w<;>rw[w]
   have c:z0e ((kD b,d)::j) (kD k)=z0e j (kD k):=by unfold z0e;rw[mx (i▸dr)]
   rw[c,yd z];exact g
theorem vK {K:W.Frag}(h:jH d=true)(r:Rep K H B v d):∃k,d=kD k/\v=kV k/\keyOk k:=by
 cases d<;>try (cases h;done)
 case int i=>exact⟨.inl i,rfl,r,True.intro⟩
 case str x=>exact⟨.inr x,rfl,r.1,r.2⟩
theorem zj1 (hu:X.A.units+64<cLine)(j:Bool)(I:Inv X pins σ H s)(l:RelV x v)(n:RelV y u)
  (t:Rep X.K H R x dx) (B:Rep X.K H T y E) (e:inD dx E=.ok b) (q:Q (.bl (if j then !b else b)) H):
  wpAny (model X.prog X.w) X.A (cw (if j then .NotIn else .In) v u) (EP X pins σ Q) X.xe s:=by
 cases E<;>try (cases e;done)
 case list xs=>
  change(if(bA 40 dx&&fO 40 xs)=true then Res.ok (xs.any λy=>dZ y dx)else .no)=_ at e;split at e
  ·rename_i hs;cases e;rw[bv]at hs;obtain⟨⟨G,o⟩,p,p1⟩:=Rep.reads I dx 40 hs.1 t l;obtain⟨⟨bs,r⟩,C,p2⟩:=Rep.reads I (.list xs) 41 hs.2 B n;have f:PyData.canLayAll0 xs=true:=by simpa only[PyData.canLay0]using C
   cases j
   ·exact SeqAt.in_list_reads r o f p (by omega) ⟨.bl _,H,I,rfl,q⟩
   ·exact SeqAt.notIn_list_reads r o f p (by omega) ⟨.bl _,H,I,rfl,q⟩
  ·cases e
 case tuple xs=>
  change(if(bA 40 dx&&fO 40 xs)=true then Res.ok (xs.any λy=>dZ y dx)else .no)=_ at e;split at e
  ·rename_i hs;cases e;rw[bv]at hs;obtain⟨⟨G,o⟩,p,p1⟩:=Rep.reads I dx 40 hs.1 t l;obtain⟨⟨bs,r⟩,C,p2⟩:=Rep.reads I (.tuple xs) 41 hs.2 B n;have f:PyData.canLayAll0 xs=true:=by simpa only[PyData.canLay0]using C
   cases j
   ·exact SeqAt.in_tuple_reads r o f p (by omega) ⟨.bl _,H,I,rfl,q⟩
   ·exact SeqAt.notIn_tuple_reads r o f p (by omega) ⟨.bl _,H,I,rfl,q⟩
  ·cases e
 case dict es=>
  change(if jH dx=true then Res.ok (z0e es dx).isSome else .no)=_ at e;split at e
  ·rename_i hk;cases e;obtain⟨k,rfl,rfl,_⟩:=vK hk t;obtain⟨a,h,rfl,J,_,L⟩:=B;cases n;have m:=L.val k;have g:DGet H a (kV k) (cQ h k):=DGet.k J
   have F:(cQ h k).isSome=(z0e es (kD k)).isSome:=by
    cases e:z0e es (kD k)with
    |none=>rw[e]at m;rw[show cQ h k=none from m];rfl
    |some d=>rw[e]at m;obtain⟨v,m,_⟩:=m;rw[m];rfl
   cases j
   ·exact d_in (by omega) I g l λS D=>⟨.bl _,H,D,rfl,by rw[F];exact q⟩
   ·exact zkn (by omega) I g l λS D=>⟨.bl _,H,D,rfl,by rw[F];exact q⟩
  ·cases e
 case str z=>
  cases dx<;>try (cases e;done)
  rename_i w;have M:=t.1;have N:=B.1;subst M N;change(match w.cps.toList with| [c]=>Res.ok (decide (c∈z.cps.toList))|_=>.no)=_ at e;split at e
  ·rename_i c O;cases e
   have P:w=⟨#[c]⟩:=by
    obtain⟨i⟩:=w;have:i=#[c]:=by rw[<-kh (xs:=i)];rw[show i.toList=[c]from O]
    rw[this]
   subst P;cases j
   ·exact AU pins s σ H _ _ v u Q I l n (MV q)
   ·exact MI pins s σ H _ _ v u Q I l n (MW q)
  ·cases e
theorem Bt (hu:X.A.units+64<cLine):oW X (cw .In) (mB (cmpD .In)):=by intro m s n H x y v u Q I a c h;obtain⟨j,k,o,l,d,f,g,e,q⟩:=h;obtain⟨b,i,ed⟩:=vJ e;subst ed;have e:=i;exact zj1 hu false I a c f g e (q _ H (Same.refl H) rfl)
theorem Nm (hu:X.A.units+64<cLine):oW X (cw .NotIn) (mB (cmpD .NotIn)):=by intro p s r H x y v u Q I a c h;obtain⟨l,m,t,n,d,f,g,e,q⟩:=h;obtain⟨b,i,ed⟩:=vJ e;subst ed;have e:=i;obtain⟨o,j,k⟩:=Res.aA e;cases k;exact zj1 hu true I a c f g j (q _ H (Same.refl H) rfl)
theorem tW (hu:X.A.units+64<cLine)(a:CmpOp)(h:z42 a=true):oW X (cw a) (mB (cmpD a)):=by
 cases a<;>try (cases h;done)
 ·exact Bn hu
 ·exact Bo hu
 ·exact Bp
 ·exact Bq
 ·exact Br
 ·exact Bt hu
 ·exact Nm hu
section
variable {X:Cx}{a b c e:Expr}{fa fb:Rho->Res GD}{pos:Pos}
theorem yx (h:PE X e (tC v))(r:∀H B,Rep X.K H B v d):PE X e (tD X.K λ_=>.ok (.fr,d)):=PE.imp h λb H Q ⟨c,F,x,a,e,q⟩=>by cases e;exact q v H (Same.refl H) (r H _)
theorem Nn {i:Nat}(hN:X.N[i]?=some x)(b:Vis X.env.scope x)(hd:Vx x)(a:(x==("__classdict__":Str))=false):PE X (.Name x pos) (tD X.K λg=>vh g[i]?):=PE.imp (uI hN b hd a) λh H Q ⟨g,F,x,c,e,q⟩=>by obtain⟨v,d,f⟩:=c.rd e;exact⟨v,d,q v H (Same.refl H) f⟩
theorem FW {K:W.Frag}(r:Rep K H' B v d)(h:∀a,B a->BG F H g a)(n:∀b,d=.list b->imms b=true->Rep K H' (nw H) v d):Rep K H' (BG F H (gN d g)) v d:=by
 cases d with
 |list b=>
  show Rep K H' (BG F H (if imms b=true then .fr else g)) v _;split
  ·rename_i c;exact n b rfl c
  ·exact r.weak h
 |_=>exact qJ r h
theorem Np (j:Bd g=true)(k:PE X a (tD X.K fa))(l:PE X b (tD X.K fb)):PE X (.BinOp a g b pos) (tD X.K λE=>fa E>>=λx=>fb E>>=λy=>dE g x.2 y.2>>=λd=>.ok (gN d (cK [x,y]),d)):=
 PE.imp (Lj (Nk g j) k l) λI H Q m=>by
  obtain⟨E,F,z,c,e,q⟩:=m;obtain⟨x,n,e⟩:=Res.aA e;obtain⟨y,o,e⟩:=Res.aA e;obtain⟨d,p,e⟩:=Res.aA e;cases e;refine⟨E,F,x,c,n,λv J s1 r=>⟨E,F,y,c.same s1,o,λu D f s=>⟨_,_,x.2,y.2,d,r.same f λ_ z=>z,s,p,λw t A i B=>q w t ((s1.trans f).trans A) (FW i (λa h=>?_) λC z G=>(B C z G).weak λ_ z=>nw.back (s1.trans f) z)⟩⟩⟩;rcases h with h|h|h
  ·exact Bk c.aN (s1.trans f) h
  ·exact vH c.aN (by simp) h
  ·exact vH c.aN (by simp) (h.back s1)
theorem Nq (b:PE X a (tD X.K fa)):PE X (.UnaryOp .USub a pos) (tD X.K λj=>fa j>>=λx=>match x.2 with|.int i=>.ok (.fr,.int (-i))|_=>.no):=
 PE.imp (Lk Lq b) λl H Q ⟨j,F,z,c,e,q⟩=>by
  obtain⟨x,f,e⟩:=Res.aA e;refine⟨j,F,x,c,f,λv k s1 h=>?_⟩;obtain⟨g,d⟩:=x;cases d<;>try (cases e;done)
  rename_i i;cases e;exact⟨i,h,q _ k s1 rfl⟩
theorem FY (h:tD X.K (λp=>fa p>>=λx=>fb p>>=λy=>cmpD r x.2 y.2>>=λb=>.ok (.fr,.bool b)) s H Q):jE (jM X.K (mB (cmpD r))) (tD X.K fa) (tD X.K fb) s H Q:=by obtain⟨p,F,z,c,e,q⟩:=h;obtain⟨x,g,e⟩:=Res.aA e;obtain⟨y,i,e⟩:=Res.aA e;obtain⟨d,j,e⟩:=Res.aA e;cases e;exact⟨p,F,x,c,g,λv t s1 k=>⟨p,F,y,c.same s1,i,λu o f l=>⟨_,_,x.2,y.2,.bool d,k.same f λ_ z=>z,l,by show(cmpD r x.2 y.2>>=λb=>Res.ok (PyData.bool b))=_;rw[j];rfl,λw m n a=>q w m ((s1.trans f).trans n) a⟩⟩⟩
theorem zud (hu:X.A.units+64<cLine)(c:z42 f=true)(hm:dw f b=false)(d:PE X a (tD X.K fa))(e:PE X b (tD X.K fb)):
  PE X (.Compare a [f] [b] pos) (tD X.K λg=>fa g>>=λx=>fb g>>=λy=>cmpD f x.2 y.2>>=λb=>.ok (.fr,.bool b)):=
 PE.imp (EY (tW hu f c) d e hm) λi H Q h=>FY h
theorem Bu (d:∀j H Q,tD X.K f j H Q->t j H Q)(g:∀l x,f l=.ok x->∃c,x.2=.bool c)(j:L2.St)(H:Hp)(Q:Bool->Hp->Prop)(h:dN X.K (λl=>f l>>=λx=>jI x.2) j H Q):pY t j H Q:=by obtain⟨l,F,c,i,e,q⟩:=h;obtain⟨x,a,e⟩:=Res.aA e;obtain⟨k,b⟩:=g l x a;rw[b]at e;cases e;refine d j H _ ⟨l,F,x,i,a,λv m s r=>?_⟩;rw[b]at r;exact⟨k,r,q m s⟩
theorem Nr (e:(fa h>>=λx=>fb h>>=λy=>cmpD i x.2 y.2>>=λb=>Res.ok ((.fr,.bool b):GD))=.ok x):∃c,x.2=.bool c:=by obtain⟨x,a,e⟩:=Res.aA e;obtain⟨y,f,e⟩:=Res.aA e;obtain⟨d,g,e⟩:=Res.aA e;cases e;exact⟨d,rfl⟩
theorem zsw (hu:X.A.units+64<cLine)(c:z42 g=true)(hm:dw g b=false)(d:PE X a (tD X.K fa))(f:PE X b (tD X.K fb)):
  PT X (.Compare a [g] [b] pos) (dN X.K λi=>(fa i>>=λx=>fb i>>=λy=>cmpD g x.2 y.2>>=λb=>Res.ok ((.fr,.bool b):GD))>>=λx=>jI x.2):=
 PT.imp (EZ (tW hu g c) d f hm) (Bu (λj H Q h=>FY h) λi x e=>Nr e)
theorem FZ {K:W.Frag}(r:Rep K H B v d):decide (v=.aK)=(match d with|.none=>true|_=>false):=by
 cases d with
 |none=>have e:v=.aK:=r;subst e;rfl
 |bool b=>have e:v=.bl b:=r;subst e;rfl
 |int b=>have e:v=.int b:=r;subst e;rfl
 |str b=>have e:v=.str b:=r.1;subst e;rfl
 |tuple c=>obtain⟨a,f,e,_⟩:=r;subst e;rfl
 |list c=>obtain⟨a,f,e,_⟩:=r;subst e;rfl
 |dict c=>obtain⟨a,f,e,_⟩:=r;subst e;rfl
def oX (ng:Bool)(fa:Rho->Res GD):Rho->Res GD:=λρ=>fa ρ>>=λx=>.ok (.fr,.bool (match x.2 with|.none=>!ng|_=>ng))
theorem yy (h:tD X.K (oX i fa) k H Q):(if i then zZ (tD X.K fa)else rE (tD X.K fa)) k H Q:=by
 obtain⟨j,F,z,b,e,q⟩:=h;obtain⟨x,c,e⟩:=Res.aA e;cases e;cases i with
 |false=>
  refine⟨j,F,x,b,c,λv f s1 a=>?_⟩
  dsimp only
  rw[FZ a];refine q _ f s1 ?_;obtain⟨g,d⟩:=x;cases d<;>rfl
 |true=>
  refine⟨j,F,x,b,c,λv f s1 a=>?_⟩
  dsimp only
  rw[FZ a];refine q _ f s1 ?_;obtain⟨g,d⟩:=x;cases d<;>rfl
theorem F5 (e:oX ng fa ρ=.ok x):∃c,x.2=.bool c:=by obtain⟨x,a,e⟩:=Res.aA e;cases e;exact⟨_,rfl⟩
theorem Nt {j p2}(c:o=if d then .IsNot else .Is)(b:PE X a (tD X.K fa)):PE X (.Compare a [o] [.Constant .none j p2] pos) (tD X.K (oX d fa)):=by
 subst c;cases d with
 |false=>exact PE.imp (EG (z0 b)) λe H Q h=>yy h
 |true=>exact PE.imp (EG (z1 b)) λe H Q h=>yy h
theorem Nu {j p2}(c:o=if f then .IsNot else .Is)(b:PE X a (tD X.K fa)):PT X (.Compare a [o] [.Constant .none j p2] pos) (dN X.K λd=>oX f fa d>>=λx=>jI x.2):=by
 subst c;cases f with
 |false=>exact PT.imp (x4 (z0 b)) (Bu (λg H Q h=>yy h) λd x e=>F5 e)
 |true=>exact PT.imp (x4 (z1 b)) (Bu (λg H Q h=>yy h) λd x e=>F5 e)
def Bv (fa fb:Rho->Res GD):Rho->Res GD:=λρ=>fa ρ>>=λx=>match x.2 with|.bool c=>if c then fb ρ else .ok (.fr,.bool false)|_=>.no
def Nv (fa fb:Rho->Res GD):Rho->Res GD:=λρ=>fa ρ>>=λx=>match x.2 with|.bool c=>if c then .ok (.fr,.bool true)else fb ρ|_=>.no
theorem yz (s1:Same H g)(a:StOk X.K F H h d)(e:f d=.ok x)(q:∀v c,Same H c->Rep X.K c (BG F H x.1) v x.2->Q v c):tD X.K f h g Q:=⟨d,F,x,a.same s1,e,λv c s r=>q v c (s1.trans s) (r.weak λ_ b=>b.back s1)⟩
theorem F6 {rest:List Expr}(h:PE X a (tD X.K fa))(i:PE X (.BoolOp .And (b::rest) pos) (tD X.K fb)):PE X (.BoolOp .And (a::b::rest) pos) (tD X.K (Bv fa fb)):=
 PE.imp (z7 h i) λn H Q ⟨l,F,z,f,e,q⟩=>by
  obtain⟨x,j,e⟩:=Res.aA e;refine⟨l,F,x,f,j,λv m s1 k=>?_⟩;obtain⟨g,d⟩:=x;cases d<;>try (cases e;done)
  rename_i c;refine⟨c,k,?_⟩;cases c with
  |true=>exact j' (yz s1 f e q)
  |false=>cases e;exact jZ (q _ m s1 rfl)
theorem vL {rest:List Expr}(h:PE X a (tD X.K fa))(i:PE X (.BoolOp .Or (b::rest) pos) (tD X.K fb)):PE X (.BoolOp .Or (a::b::rest) pos) (tD X.K (Nv fa fb)):=
 PE.imp (K4 h i) λn H Q ⟨l,F,z,f,e,q⟩=>by
  obtain⟨x,j,e⟩:=Res.aA e;refine⟨l,F,x,f,j,λv m s1 k=>?_⟩;obtain⟨g,d⟩:=x;cases d<;>try (cases e;done)
  rename_i c;refine⟨c,k,?_⟩;cases c with
  |false=>exact jZ (yz s1 f e q)
  |true=>cases e;exact j' (q _ m s1 rfl)
theorem Ga {K:W.Frag}(r:Rep K H B v d)(e:jI d=.ok k):jV K v H k:=by
 cases d with
 |none=>cases e;have c:v=.aK:=r;subst c;exact rfl
 |bool b=>cases e;have c:v=.bl b:=r;subst c;exact rfl
 |int b=>cases e;have c:v=.int b:=r;subst c;show(!decide (b=0))=(b != 0);rw[bne,j4]
 |str b=>
  have c:=r.1;subst c;simp only[jI]at e;split at e
  ·rename_i j;cases e;refine⟨mE j,?_⟩;rw[bne,j4]
   congr 1
   rw[decide_eq_decide];omega
  ·cases e
 |tuple f=>cases e;obtain⟨a,n,c,h,q⟩:=r;subst c;refine .inr (.inl ⟨n,h,?_⟩);show(!f.isEmpty)=!n.isEmpty;have:=q.length;cases n<;>cases f<;>simp at this ⊢
 |list f=>cases e;obtain⟨a,n,c,h,q⟩:=lG r;subst c;refine .inl ⟨n,h,?_⟩;show(!f.isEmpty)=!n.isEmpty;have:=q.length;cases n<;>cases f<;>simp at this ⊢
 |dict o=>
  cases e;obtain⟨a,g,c,h,_,q⟩:=r;subst c;refine .inr (.inr ⟨g,h,?_⟩);cases o with
  |nil=>have i:g=[]:=q;subst i;rfl
  |cons l m=>obtain⟨k,v,t,i,_⟩:=q;subst i;rfl
theorem Nw (g:PE X a (tD X.K fa)):PE X (.UnaryOp .Not a pos) (tD X.K λB=>fa B>>=λx=>jI x.2>>=λc=>.ok (.fr,.bool (!c))):=by
 rintro w s C H Q I ⟨B,F,z,h,e,q⟩
 obtain⟨x,i,e⟩:=Res.aA e;obtain⟨k,j,e⟩:=Res.aA e;cases e;refine UnaryOp_ (aI (g w s C H (λv A=>Same H A/\Rep X.K A (BG F H x.1) v x.2) I ⟨B,F,x,h,i,λv A s1 f=>⟨s1,f⟩⟩) λv s1 l=>?_);obtain⟨y,A,m,n,o,f⟩:=l;exact not_of (aI (E2 w s1 C A y v (λb d=>b=k/\d=A) m n ⟨k,Ga f j,rfl,rfl⟩) λb p ⟨d,r,t,u⟩=>by subst t u;exact⟨.bl _,d,r,rfl,q _ d o rfl⟩)
theorem Ny (b:PE X e (tD X.K fa))(c:∀a,qc e X.env a=(do let v <-a;standAt e.pos;holding [v] (truthy v))):PT X e (dN X.K λh=>fa h>>=λx=>jI x.2):=PT.imp (za6 b c) λj H Q ⟨h,F,k,d,e,q⟩=>by obtain⟨x,f,e⟩:=Res.aA e;exact⟨h,F,x,d,f,λv i s1 g=>⟨k,Ga g e,q i s1⟩⟩
section
variable {ta tb:Rho->Res Bool}{rest:List Expr}
theorem Gb (s1:Same H H1)(a:StOk X.K F H σ ρ)(e:f ρ=.ok x)(q:∀b,Same H b->Q x b):dN X.K f σ H1 Q:=⟨ρ,F,x,a.same s1,e,λb s=>q b (s1.trans s)⟩
theorem w_and (f:PT X a (dN X.K ta))(g:PW X (.BoolOp .And (b::rest) pos) (dN X.K tb)):PW X (.BoolOp .And (a::b::rest) pos) (dN X.K λi=>ta i>>=λc=>if c then tb i else .ok false):=
 PW.imp (z3 f g) λj H Q ⟨i,F,k,d,e,q⟩=>by
  obtain⟨x,h,e⟩:=Res.aA e;refine⟨i,F,x,d,h,λl s1=>?_⟩;cases x with
  |true=>exact j' (Gb s1 d e q)
  |false=>cases e;simp_all
theorem w_or (f:PT X a (dN X.K ta))(g:PW X (.BoolOp .Or (b::rest) pos) (dN X.K tb)):PW X (.BoolOp .Or (a::b::rest) pos) (dN X.K λi=>ta i>>=λc=>if c then .ok true else tb i):=
 PW.imp (z4 f g) λj H Q ⟨i,F,k,d,e,q⟩=>by
  obtain⟨x,h,e⟩:=Res.aA e;refine⟨i,F,x,d,h,λl s1=>?_⟩;cases x with
  |false=>exact jZ (Gb s1 d e q)
  |true=>cases e;simp_all
theorem vM (b:PT X a (dN X.K ta)):PT X (.UnaryOp .Not a pos) (dN X.K λρ=>ta ρ>>=λc=>.ok (!c)):=PT.imp (EK b) λh H Q ⟨ρ,F,k,d,e,q⟩=>by obtain⟨x,f,e⟩:=Res.aA e;cases e;exact⟨ρ,F,x,d,f,λg s1=>q g s1⟩
theorem Nz (g:PT X c (dN X.K ta))(h:PE X a (tD X.K fa))(i:PE X b (tD X.K fb)):PE X (.IfExp c a b pos) (tD X.K λd=>ta d>>=λk=>if k then fa d else fb d):=
 PE.imp (K6 g h i) λl H Q ⟨d,F,z,so,e,q⟩=>by
  obtain⟨x,j,e⟩:=Res.aA e;refine⟨d,F,x,so,j,λH1 f=>?_⟩;cases x with
  |true=>exact j' (yz f so e q)
  |false=>exact jZ (yz f so e q)
end
theorem Ge:PA X [] (tDA X.K λ_=>.ok []):=PA.imp jF λb H Q ⟨c,F,z,a,e,q⟩=>by cases e;exact q [] H (Same.refl H) rfl
theorem Gf (hs:isStar e=false)(d:PE X e (tD X.K fa))(f:PA X m (tDA X.K fs)):PA X (e::m) (tDA X.K λl=>fa l>>=λx=>fs l>>=λa=>.ok (x::a)):=PA.imp (dQ d f hs) λo H Q g=>by obtain⟨l,F,z,b,e,q⟩:=g;obtain⟨x,h,e⟩:=Res.aA e;obtain⟨a,i,e⟩:=Res.aA e;cases e;refine⟨l,F,x,b,h,λv p s1 j=>⟨l,F,a,b.same s1,i,λn k c rs=>q _ k (s1.trans c) ?_⟩⟩;exact⟨v,n,rfl,j.same c λ_ z=>z,rs.back s1⟩
theorem NA {i}(h:PA X n (tDA X.K fs))(j:∀m c,fs m=.ok c->c.length<=au):PE X (.Tuple n i pos) (tD X.K λm=>fs m>>=λb=>.ok (gJ (.tuple (b.map (·.2))) (cK b),.tuple (b.map (·.2)))):=PE.imp (E6 h) λo H Q k=>by obtain⟨m,F,z,d,e,q⟩:=k;obtain⟨b,f,e⟩:=Res.aA e;cases e;refine⟨m,F,b,d,f,λs t s1 rs=>?_⟩;have r:=rs.mD λx l a h=>vH d.aN l h;refine⟨by rw[r.length,am];exact j m b f,λp g=>q _ _ (s1.trans (Same.upd g)) (qJ (yu g r λ_ z=>z) λ_ z=>z)⟩
theorem NB (h:PA X m (tDA X.K fs))(i:∀l f,fs l=.ok f->f.length<=au):PE X (.List m pos) (tD X.K λl=>fs l>>=λb=>.ok (cK b,.list (b.map (·.2)))):=PE.imp (E7 h) λn H Q j=>by obtain⟨l,F,z,c,e,q⟩:=j;obtain⟨b,g,e⟩:=Res.aA e;cases e;refine⟨l,F,b,c,g,λo s s1 rs=>?_⟩;have r:=rs.mD λx k a h=>vH c.aN k h;refine⟨by rw[r.length,am];exact i l b g,λp d=>q _ _ (s1.trans (Same.upd d)) (qL d r (λ_ z=>z) (Bk c.aN s1 d))⟩
theorem NC:PE X (.Dict [] [] pos) (tD X.K λ_=>.ok (.fr,.dict [])):=PE.imp Fo λc H Q ⟨d,F,z,b,e,q⟩=>by cases e;intro p a;exact q _ _ (Same.upd a) ⟨p,[],rfl,bI,a,rfl⟩
end
theorem ND {b:Type}(a:List b)(i:Int):L2.cF a i=Mi.cF a i:=rfl
theorem Bw (n d:Nat)(o:Option Int):HT.aZ n d o=Mi.aZ n d o:=by cases o<;>rfl
theorem Reps.cut {K:W.Frag}(b c:Option Int)(r:Reps K H B d a):Reps K H B (Mi.cut d b c) (Mi.cut a b c):=by unfold Mi.cut;rw[r.length];exact(r.drop _).take _
theorem Reps.cF {K:W.Frag}(r:Reps K H B g b)(e:Mi.cF b i=some d):∃v,L2.cF g i=some v/\Rep K H B v d:=by
 unfold Mi.cF at e;cases a:Mi.iL b.length i with
 |none=>rw[a]at e;cases e
 |some j=>rw[a]at e;obtain⟨v,c,f⟩:=r.get e;refine⟨v,?_,f⟩;rw[ND];unfold Mi.cF;rw[r.length,a];exact c
theorem NF (hu:X.A.units+64<cLine):kY X (λx y H Q=>∃a v,x=.ref a/\DGet H a y (some v)/\Q v H):=by intro b c k s l H x y v u Q I e f h hs;obtain⟨a,z,rfl,g,q⟩:=h;cases e;exact tail_any (LP I g) PySem.F.slot_dict_getitem.lookup (zcu (by omega) I g f λj m i d=>⟨z,H,i,d,q⟩) hs
def iS (K:W.Frag):R2:=λx y H Q=>∃B B' dx dy d,Rep K H B x dx/\Rep K H B' y dy/\gW dx dy=.ok d/\∀w,Rep K H B w d->Q w H
theorem Gg (hu:X.A.units+64<cLine):kY X (iS X.K):=by
 intro f g R s T H x y v u Q I G J h hs;refine(MJ.or (NF hu)) f g R s T H x y v u Q I G J ?_ hs;obtain⟨B,V,U,t,d,l,r,e,q⟩:=h;cases U<;>try (cases e;done)
 case list xs=>
  cases t<;>try (cases e;done)
  rename_i i;have m:=r;subst m;obtain⟨a,S,rfl,n,C⟩:=lG l;change Res.eJ (Mi.cF xs i)=_ at e;cases b:Mi.cF xs i with
  |none=>rw[b]at e;cases e
  |some D=>rw[b]at e;cases e;obtain⟨w,o,p⟩:=C.cF b;exact .inl (.inl ⟨a,S,i,w,rfl,rfl,n,o,q w p⟩)
 case tuple xs=>
  cases t<;>try (cases e;done)
  rename_i i;have m:=r;subst m;obtain⟨a,S,rfl,n,C⟩:=l;change Res.eJ (Mi.cF xs i)=_ at e;cases b:Mi.cF xs i with
  |none=>rw[b]at e;cases e
  |some D=>rw[b]at e;cases e;obtain⟨w,o,p⟩:=C.cF b;exact .inl (.inr (.inl ⟨a,S,i,w,rfl,rfl,n,o,q w p⟩))
 case str z=>
  cases t<;>try (cases e;done)
  rename_i i;have m:=r;have L:=l.1;subst L m;change(if z.length<=aR then Res.eJ ((Mi.cF z.cps.toList i).map λc=>PyData.str ⟨#[c]⟩)else .no)=_ at e;split at e
  ·rename_i M;cases b:Mi.cF z.cps.toList i with
   |none=>rw[b]at e;cases e
   |some c=>
    rw[b]at e;cases e
    have N:c∈z.cps.toList:=by
     unfold Mi.cF at b;cases E:Mi.iL z.cps.toList.length i with
     |none=>rw[E]at b;cases b
     |some j=>rw[E]at b;exact aw b
    exact .inl (.inr (.inr ⟨z,i,c,rfl,rfl,mE M,b,q _ ⟨rfl,FU l.2 N⟩⟩))
  ·cases e
 case dict es=>
  change(if jH _=true then Res.eJ (z0e es _)else Res.no)=_ at e;split at e
  ·rename_i hk;obtain⟨k,rfl,rfl,_⟩:=vK hk r;obtain⟨a,O,rfl,n,_,P⟩:=l;have F:=P.val k;cases b:z0e es (kD k)with
   |none=>rw[b]at e;cases e
   |some D=>rw[b]at e F;cases e;obtain⟨w,o,p⟩:=F;exact .inr ⟨a,w,rfl,by rw[<-o];exact DGet.k n,q w p⟩
  ·cases e
theorem Bz (h:z4c i=true):Fw i:=λo v=>by cases i<;>first|rfl|cases h
theorem d_ix (hu:X.A.units+64<cLine)(hs:z4c i=true)(g:PE X a (tD X.K r))(h:PE X i (tD X.K s)):
  PE X (.Subscript a i t) (tD X.K λp=>r p>>=λx=>s p>>=λy=>gW x.2 y.2>>=λd=>.ok (gJ d x.1,d)):=
 PE.imp (Aq (Gg hu) g h (Bz hs)) λB H Q ⟨p,F,z,c,e,q⟩=>by obtain⟨x,j,e⟩:=Res.aA e;obtain⟨y,k,e⟩:=Res.aA e;obtain⟨d,l,e⟩:=Res.aA e;cases e;exact⟨p,F,x,c,j,λv C s1 m=>⟨p,F,y,c.same s1,k,λu n f o=>⟨_,_,x.2,y.2,d,m.same f λ_ z=>z,o,l,λw b=>q w n (s1.trans f) (qJ b λ_ z=>z)⟩⟩⟩
theorem NG (h:PyData.strOk z=true)(b d:Option Int):PyData.strOk (lE z b d)=true:=
 qK.mpr λc a=>qK.mp h c (by
  have:c∈Mi.cut z.cps.toList b d:=by simpa[lE]using a
  exact List.mem_of_mem_drop (List.mem_of_mem_take this))
theorem Gh (b c:Option Int)(n:Nat):gc b c 1 n=sliceRange ((Mi.aZ n 0 b:Nat):Int) ((Mi.aZ n n c:Nat):Int) 1:=by
 delta gc
 have a:=Int.one_pos;simp
 congr 1
 ·cases b with
  |none=>rfl
  |some v=>
   simp only[Mi.aZ];by_cases h:v<0
   ·simp only[qt h];omega
   ·simp only[qu h];omega
 ·cases c with
  |none=>rfl
  |some v=>
   simp only[Mi.aZ];by_cases h:v<0
   ·simp only[qt h];omega
   ·simp only[qu h];omega
theorem NH (n d:Nat)(hd:d<=n)(o:Option Int):Mi.aZ n d o<=n:=by rw[<-Bw];exact HT.rR n d hd o
theorem NI (z:Str)(g h:Option Int):Txt.slice z g h=lE z g h:=by
 have hn:z.cps.toList.length=z.length:=by simp[Str.length]
 have e:(gc g h 1 z.length).filterMap (z.cps[·]?)=Mi.cut z.cps.toList g h:=by rw[Gh,n6,pick_run];unfold Mi.cut;rw[hn]
 have d:(gc g h 1 z.length).length=Mi.aZ z.length z.length h-Mi.aZ z.length 0 g:=by rw[Gh,n6,am,d4]
 unfold Txt.slice;split
 ·rename_i a;simp at a;have f:=NH z.length z.length (ae _) h
  have b:Mi.cut z.cps.toList g h=z.cps.toList:=by
   unfold Mi.cut;rw[hn];by_cases h0:Mi.aZ z.length 0 g=0
   ·rw[h0,List.drop_zero,my (by grind)]
   ·have c:z.length=0:=by omega
    have:z.cps.toList=[]:=fg.mp (hn▸c);rw[this];simp
  unfold lE;rw[b]
 ·unfold lE;rw[<-e]
def BA (K:W.Frag):V->Option Int->Option Int->Hp->VK->Prop:=λx lo hi H Q=>∃B dx d,Rep K H B x dx/\oP dx lo hi=.ok d/\∀w H',Same H H'->Rep K H' (λa=>nw H a\/B a) w d->(∀ds,d=.list ds->imms ds=true->Rep K H' (nw H) w d)->Q w H'
theorem NJ:nQ X (BA X.K):=by
 intro y s C H x v j k u w sl Q I l hs pl m h;refine(MK.or L0) y s C H x v j k u w sl Q I l hs pl m ?_;obtain⟨B,D,d,r,e,q⟩:=h;cases D<;>try (cases e;done)
 case list xs=>cases e;obtain⟨a,A,rfl,f,c⟩:=lG r;refine .inl (.inl ⟨a,A,rfl,f,λp b=>?_⟩);exact q _ _ (Same.upd b) (qL b (c.cut u w) (λ_ z=>.inr z) (.inl b)) λi z g=>by cases z;exact qL b (Reps.bE _ g (c.cut u w)) (λ_ z=>z) b
 case tuple xs=>
  change(if aZ xs.length 0 u=0/\aZ xs.length xs.length w=xs.length then Res.no else Res.ok (PyData.tuple (cut xs u w)))=_ at e;split at e
  ·cases e
  ·rename_i n;cases e;obtain⟨a,A,rfl,f,c⟩:=r;refine .inr ⟨a,A,rfl,f,by rw[Bw,Bw,c.length];exact n,λp b=>?_⟩;exact q _ _ (Same.upd b) (yu b (c.cut u w) λ_ z=>.inr z) λi z=>by cases z
 case str z=>
  change(if z.length<=aR then Res.ok (PyData.str (lE z u w))else .no)=_ at e;split at e
  ·rename_i o;cases e;have t:=r.1;subst t;refine .inl (.inr ⟨z,rfl,mE o,?_⟩);rw[NI];exact q _ H (Same.refl H) ⟨rfl,NG r.2 u w⟩ λi z=>by cases z
  ·cases e
theorem nU:PO X none (tDO X.K λ_=>.ok none):=PO.imp LW λb H Q ⟨c,F,z,a,e,q⟩=>by cases e;exact q H (Same.refl H)
theorem NK (b:PE X a (tD X.K j)):PO X (some a) (tDO X.K λi=>j i>>=λx=>sf x.2):=
 PO.imp (LX b) λl H Q ⟨i,F,z,c,e,q⟩=>by
  obtain⟨x,f,e⟩:=Res.aA e;refine⟨i,F,x,c,f,λv k s1 h=>?_⟩;obtain⟨g,d⟩:=x;cases d<;>try (cases e;done)
  cases e;exact⟨_,h,q k s1⟩
theorem d_sl {G:Option Expr}(i:PE X a (tD X.K I))(j:PO X G (tDO X.K fl))(hh:PO X E (tDO X.K k)):
  PE X (.Subscript a (.Slice G E none p2) J) (tD X.K λD=>I D>>=λx=>fl D>>=λl=>k D>>=λh=>oP x.2 l h>>=λd=>.ok (gN d (cK [x]),d)):=
 PE.imp (LZ NJ i j hh) λL H Q m=>by
  obtain⟨D,F,z,b,e,q⟩:=m;obtain⟨x,n,e⟩:=Res.aA e;obtain⟨l,o,e⟩:=Res.aA e;obtain⟨h,p,e⟩:=Res.aA e;obtain⟨d,r,e⟩:=Res.aA e;cases e;refine⟨D,F,x,b,n,λv M s1 s=>⟨D,F,l,b.same s1,o,λB c=>⟨D,F,h,b.same (s1.trans c),p,λC f=>⟨_,x.2,d,s.same (c.trans f) λ_ z=>z,r,λw t u g y=>q w t ((s1.trans (c.trans f)).trans u) (FW g (λa h=>?_) λA z E=>(y A z E).weak λ_ z=>nw.back (s1.trans (c.trans f)) z)⟩⟩⟩⟩;rcases h with h|h
  ·exact Bk b.aN (s1.trans (c.trans f)) h
  ·exact vH b.aN (by simp) h
theorem d_cB {id:String}(j:CallR X (.builtin id) (z59 X.K m))(hm:X.mg x=none)(k:c7 x=some (.builtin id))(l:PA X (e::y) (tDA X.K fs))(b:((e::y).all fun e=>!isStar e)=true)(n:Gl X x)(hn:x≠"__name__")(c:Vx x):
  PE X (.Call (.Name x p) (e::y) [] A) (tD X.K λv=>fs v>>=λf=>m (f.map (·.2))>>=λd=>.ok (gJ d .al,d)):=
 PE.imp (yj j hm k l b n hn c) λB H Q o=>by obtain⟨v,F,z,g,e,q⟩:=o;obtain⟨f,r,e⟩:=Res.aA e;obtain⟨d,s,e⟩:=Res.aA e;cases e;exact⟨v,F,f,g,r,λC D s1 rs=>⟨_,_,d,rs.jL g.aN,s,λw t u i=>q w t (s1.trans u) (qJ i λa h=>h.elim (λz=>(nw.back s1 z).aN g.aN) λz=>z)⟩⟩
theorem aS.length {K:W.Frag}:∀{a:List (Key×V)} {b:aX},aS K H B a b->a.length=b.length
 |a,[],r=>by have e:a=[]:=r;subst e;rfl
 |a,(kd,d)::b,r=>by obtain⟨k,v,t,e,_,_,_,q⟩:=r;subst e;rw[bh,bh,q.length]
theorem sF {K:W.Frag}(r:Reps K H B a [d]):∃v,a=[v]/\Rep K H B v d:=by obtain⟨v,t,e,h,q⟩:=r;have b:=q;subst e b;exact⟨v,rfl,h⟩
theorem yA {K:W.Frag}(r:Reps K H B xs [d,d']):∃v a,xs=[v,a]/\Rep K H B v d/\Rep K H B a d':=by obtain⟨v,t,e,h,q⟩:=r;obtain⟨a,b,c⟩:=sF q;subst e b;exact⟨v,a,rfl,h,c⟩
theorem Gi:CallR X (.builtin "len") (z59 X.K (hX "len")):=by
 refine CallR.imp (ML.or Mr) λk H Q h=>?_;obtain⟨B,f,d,r,e,q⟩:=h;simp only[hX,if_true]at e;split at e
 ·rename_i x;obtain⟨v,rfl,g⟩:=sF r;clear r;have r:=g;cases x<;>try (cases e;done)
  case str z=>
   change(if z.length<=aR then Res.ok (PyData.int z.length)else .no)=_ at e;split at e
   ·rename_i i;cases e;have j:=r.1;subst j;exact .inl (.inl ⟨z,rfl,mE i,q _ H (Same.refl H) rfl⟩)
   ·cases e
  case tuple f=>cases e;obtain⟨a,l,rfl,b,c⟩:=r;exact .inl (.inr ⟨a,l,rfl,.inr b,q _ H (Same.refl H) (c.length▸rfl)⟩)
  case list f=>cases e;obtain⟨a,l,rfl,b,c⟩:=lG r;exact .inl (.inr ⟨a,l,rfl,.inl b,q _ H (Same.refl H) (c.length▸rfl)⟩)
  case dict f=>cases e;obtain⟨a,l,rfl,b,_,c⟩:=r;exact .inr ⟨a,l,rfl,b,q _ H (Same.refl H) (c.length▸rfl)⟩
 ·cases e
theorem zft {a b:Int}(hh:A.handled=none)(n:s.heap.IsTuple p #[.int a t,.int b u])
  (q:∀z f l,(∀c o,s.heap.get? c=some o->f.get? c=some o)->Q (.int (if b<a then b else a) z) {s with heap:=f,toks:=l}):wpAny (model prog w) A (call (.builtin "min") [.ref p]) Q E s:=by
 have g:qo #[(a,t),(b,u)]=#[.int a t,.int b u]:=by simp[qo]
 have h:s.heap.IsTuple p (qo #[(a,t),(b,u)]):=by rw[g];exact n
 have lt:p<s.heap.objs.size:=by obtain⟨o,x,_⟩:=n;exact bg x
 refine call_min_walk ?_;refine k9 h ?_;refine⟨_,[s.heap.objs.size,p],[s.heap.objs.size],_,_,_,_,rfl,Walks.tuple (A:=A.in1) hh _ p (cb lt) _,⟨⟨_,bt _ rfl,rfl,rfl⟩,h.push _⟩,λc r=>?_,(by rw[g];exact Nat.succ_pos 1),CmpOf.ints_lt (numAt #[(a,t),(b,u)]) (λ_ _=>intItems_at),λv f l k y=>?_⟩
 ·rw[k8];simp only[ax,g9,or_false]at r;rcases r with rfl|rfl
  ·exact i9 _
  ·exact Nat.lt_succ_of_lt lt
 ·have keep:∀c o,s.heap.get? c=some o->f.get? c=some o:=λc o e=>y c o (λz=>cu _ (bu.mp z▸bg e)) (ak _ e);have es:(qo #[(a,t),(b,u)]).size-1=1:=by rw[g];rfl
  rw[es]at k;by_cases d:b<a
  ·have m:argBest (fun i j=>decide (numAt #[(a,t),(b,u)] i<numAt #[(a,t),(b,u)] j)) 1=1:=by
    show(if decide (b<a)=true then 1 else 0)=1;rw[qy d];rfl
   rw[m,g]at k;cases(qv k);have:=q u f l keep
   rwa [qt d]at this
  ·have m:argBest (fun i j=>decide (numAt #[(a,t),(b,u)] i<numAt #[(a,t),(b,u)] j)) 1=0:=by
    show(if decide (b<a)=true then 1 else 0)=0;rw[decide_eq_false d];rfl
   rw[m,g]at k;cases(qv k);have:=q t f l keep
   rwa [qu d]at this
theorem NL (e:X.calm=true):CallR X (.builtin "min") (λc H Q=>∃p i j,c=[.ref p]/\cA X.K H p [.int i,.int j]/\Q (.int (if j<i then j else i)) H):=by
 rintro d s m H c n Q I r ⟨p,i,j,rfl,f,q⟩
 obtain⟨u,rfl,rfl⟩:=vals1 r;obtain⟨g,h,l,_⟩:=I.tuple f;obtain⟨a,b,rfl,⟨t,rfl⟩,o,rfl⟩:=vals2 h;exact zft (I.ok.hd e) l λz v w k=>⟨.int (if j<i then j else i),H,I.kept k,⟨z,rfl⟩,q⟩
theorem NM (n:X.calm=true):CallR X (.builtin "min") (z59 X.K (hX "min")):=by
 refine CallR.imp ((LC n).or (NL n)) λw H Q h=>?_;obtain⟨B,f,d,r,e,q⟩:=h;replace e:minD f=Res.ok d:=e;have o:∀i j:Int,(if j<i then j else i)=min i j:=λi j=>by split<;>omega
 have s:∀{x y:D},min2 x y=.ok d->∃i j,x=.int i/\y=.int j/\d=.int (min i j):=λ{x y} h=>by
  cases x<;>try (exact(dO h).elim)
  cases y<;>try (exact(dO h).elim)
  cases h;exact⟨_,_,rfl,rfl,rfl⟩
 rcases f with _|⟨a,_|⟨b,_|⟨c,f⟩⟩⟩
 ·exact(dO e).elim
 ·cases a<;>try (exact(dO e).elim)
  rename_i t;rcases t with _|⟨a,_|⟨b,_|⟨c,t⟩⟩⟩
  ·exact(dO e).elim
  ·exact(dO e).elim
  ·obtain⟨i,j,rfl,rfl,rfl⟩:=s e;obtain⟨v,rfl,p,z,rfl,u,rs⟩:=sF r;obtain⟨A,C,rfl,g,k⟩:=yA rs;have l:=g;have m:=k;subst l m;exact .inr ⟨p,i,j,rfl,u,q _ H (Same.refl H) (show V.int _=V.int _ by rw[o])⟩
  ·unfold minD vT at e;exact(dO e).elim
 ·obtain⟨i,j,rfl,rfl,rfl⟩:=s e;obtain⟨v,E,rfl,g,k⟩:=yA r;have l:=g;have m:=k;subst l m;exact .inl ⟨i,j,rfl,q _ H (Same.refl H) (show V.int _=V.int _ by rw[o])⟩
 ·exact(dO e).elim
theorem zhf (I:Inv X p t H s)(f:RelV x u)(r:Rep X.K H B x d)(k:T∈tysB)
  (h:∀l,Q (.bool (lY (iO d) T)) {s with toks:=l}):wpAny (model X.prog X.w) A (call (.builtin "isinstance") [u,.type T]) Q E s:=by
 have m:iO d∈oN:=by cases d<;>simp[iO,oN]
 have e:=MM X.K _ m T k;cases d with
 |none=>have c:x=.aK:=r;subst c;exact z2d I f .aK e h
 |bool b=>have c:x=.bl b:=r;subst c;exact z2d I f (.bl b) e h
 |int b=>have c:x=.int b:=r;subst c;exact z2d I f (.int b) e h
 |str b=>have c:x=.str b:=r.1;subst c;exact z2d I f (.str b) e h
 |tuple n=>obtain⟨a,q,c,g,_⟩:=r;subst c;cases f;obtain⟨_,_,⟨o,i,j,_⟩,_⟩:=I.tuple g;exact W.kia_one W.kitx_tuple I.cH ⟨o,i,j⟩ e (λz=>nomatch z) h
 |list n=>obtain⟨a,q,c,g,_⟩:=lG r;subst c;cases f;obtain⟨_,_,⟨o,_,i,j,_⟩,_⟩:=I.list g;exact W.kia_one W.kitx_list I.cH ⟨o,i,j⟩ e (λz=>nomatch z) h
 |dict v=>obtain⟨a,q,c,g,_⟩:=r;subst c;exact z2d I f (.dK g) e h
def BB (K:W.Frag):List V->Hp->VK->Prop:=λxs H Q=>∃B x d T,xs=[x,.ty T]/\Rep K H B x d/\T∈tysB/\Q (.bl (lY (iO d) T)) H
theorem NN:CallR X (.builtin "isinstance") (BB X.K):=by
 rintro i s j H g k Q I r ⟨B,x,d,T,rfl,a,b,q⟩
 obtain⟨u,c,rfl,e,f⟩:=vals2 r;obtain rfl:c=Value.type T:=f;exact zhf I e a b λh=>⟨.bl _,H,I.tok _,rfl,q⟩
theorem ztv (hm:X.mg "isinstance"=none)(h:Gl X "isinstance")(b:X.mg a=none)(c:c7 a=some (.type T))(d:Gl X a)(f:a≠"__name__")(g:Vx a)(i:T∈tysB)(hs:isStar y=false)(j:PE X y (tD X.K r)):
  PE X (.Call (.Name "isinstance" p) [y,.Name a p2] [] s) (tD X.K λo=>r o>>=λx=>.ok (.fr,.bool ([T].any λT=>lY (iO x.2) T))):=
 PE.imp (yj NN hm (by decide+kernel) (dQ j (dQ (K3 (v:=.ty T) d b c rfl f g) jF) hs) (by simp[hs];rfl) h dc dc) λu H Q k=>by obtain⟨o,F,z,l,e,q⟩:=k;obtain⟨x,m,e⟩:=Res.aA e;cases e;refine⟨o,F,x,l,m,λv t s1 n=>?_⟩;refine⟨_,v,x.2,T,rfl,n,i,q _ t s1 ?_⟩;show V.bl _=V.bl _;simp
def BD (K:W.Frag)(n:Nat)(t:rH):TG:=λv σ H Q=>∃a xs,v=.ref a/\SqL K H a xs/\xs.length=n/\t xs σ H Q
theorem NO (i:X.calm=true)(h:PGs X A t)(hn:(d8 A X.env).length=n)(c:(d8 A X.env).findIdx? (·.1)=none):PG X (.Tuple A k pos) (BD X.K n t):=by
 intro z s B H v u Q I r d;obtain⟨a,j,l,m,p,d⟩:=d;subst l;cases r;obtain⟨f,g,pl,y⟩:=I.list m;apply aa;refine gf ?_
 delta unpack
 rw[c,show(d8 A X.env).length=f.toArray.size by rw[hn,<-p,g.length,bz]];apply aa;refine ej (W.kun_itemsOf (I.ok.hd i) pl.isList λq w=>?_);have x:Inv X z B H {s with heap:=q}:=I.kept λb o e=>w b o (cb (bg e)) e;exact h z _ B H j _ Q x (by simpa using g) d
def Kp (B:Ad->Prop)(H1 H2:Hp):Prop:=∀a o,H1 a=some o->(B (some a)\/Fix o)->H2 a=some o
theorem Kp.of (s:Same c b):Kp B c b:=λa o e _=>s a o e
structure Walk (K:W.Frag)(J:It)(B:Ad->Prop)(H1:Hp)(xs:List D):Prop where
 len:xs.length<=au
 go:∀H2,Kp B H1 H2->∀i,i<xs.length->J.go i H2
 stop:∀H2,Kp B H1 H2->J.stop xs.length H2
 gO:∀H2,Kp B H1 H2->∀i x H3,i<xs.length->J.gO i H2 x H3->Same H2 H3/\∃d,xs[i]?=some d/\Rep K H3 B x d
def tDW (K:W.Frag)(f:Rho->Res (G×List D)):TI:=λσ H R=>∃ρ F w,StOk K F H σ ρ/\f ρ=.ok w/\∀J B H',Same H H'->(∀a,B a->BG F H w.1 a/\¬nw H' a)->Walk K J B H' w.2->R J H'
theorem _root_.L2.PI.imp (h:PI X a e t)(i:∀c H Q,b c H Q->t c H Q):PI X a e b:=λd s c H Q I q=>h d s c H Q I (i c H Q q)
section
variable {K:W.Frag}{H:Hp}{B:Ad->Prop}
theorem NP (h:(H a=some (.lst q)/\B (some a))\/(FL K H a q/\B none))(r:Reps K H B q f)(g:f.length<=au):Walk K (Ag K a) B H f:=by
 have sq:∀c,Kp B H c->SqL K c a q:=λc k=>by
  rcases h with⟨h,b⟩|⟨⟨o,h⟩|h,_⟩
  ·exact .inl (.inl (k a _ h (.inl b)))
  ·exact .inl (.inr ⟨o,k a _ h (.inr True.intro)⟩)
  ·exact .inr h
 refine⟨g,λc k i s=>?_,λc k=>⟨q,sq c k,by rw[r.length];exact ae _⟩,λc k i x p s y=>?_⟩
 ·have j:i<q.length:=r.length▸s;exact⟨q,q[i],sq c k,by simp[j]⟩
 ·obtain⟨e,y⟩:=y;subst e;have l:=y q (sq _ k);obtain⟨d,m,n⟩:=r.kJ l;exact⟨Same.refl _,d,m,Rep.keep k (λ_ z=>z) d n⟩
theorem NQ (h:cA K H a o)(r:Reps K H B o c)(f:c.length<=au):Walk K (EV K a) B H c:=by
 have sq:∀b,Kp B H b->cA K b a o:=λb k=>h.keep k;refine⟨f,λb k i p=>?_,λb k=>⟨o,sq b k,by rw[r.length];exact ae _⟩,λb k i x n p y=>?_⟩
 ·have g:i<o.length:=r.length▸p;exact⟨o,o[i],sq b k,by simp[g]⟩
 ·obtain⟨e,y⟩:=y;subst e;have j:=y o (sq _ k);obtain⟨d,l,m⟩:=r.kJ j;exact⟨Same.refl _,d,l,Rep.keep k (λ_ z=>z) d m⟩
theorem NR (ok:PyData.strOk z=true)(e:z.length<=au):Walk K (AL z) B H (z.cps.toList.map λc=>.str ⟨#[c]⟩):=by
 have b:(z.cps.toList.map λc=>(PyData.str ⟨#[c]⟩:D)).length=z.cps.size:=by simp
 refine⟨by rw[b];exact e,λd k i h=>?_,λd k=>?_,λd k i x g h y=>?_⟩
 ·rw[b]at h;exact h
 ·show z.cps.size<=_;rw[b];simp_all
 ·obtain⟨rfl,c,f,rfl⟩:=y;have a:z.cps.toList[i]?=some c:=by simpa using f
  refine⟨Same.refl _,.str ⟨#[c]⟩,by rw[av,a];rfl,rfl,FU ok (aw a)⟩
theorem Gj {f:Int}(c:n<=au):Walk K (uR f n) B H ((cg n).map λ(i:Nat)=>.int (f+i)):=by
 have a:((cg n).map λ(i:Nat)=>(PyData.int (f+i):D)).length=n:=by simp
 refine⟨by rw[a];exact c,λb k i e=>?_,λb k=>?_,λb k i x d e y=>?_⟩
 ·rw[a]at e;exact e
 ·show n<=_;rw[a];simp_all
 ·obtain⟨rfl,rfl⟩:=y;rw[a]at e;exact⟨Same.refl _,.int (f+i),by rw[av,jc e];rfl,rfl⟩
end
section
variable {X:Cx}{a b e:Expr}{fc:Rho->Res GD}
theorem z2u (f:Inv X pins σ H1 s1)(m:RelV y v)(k:Rep X.K H1 B y d)(e:z8f d=.ok x)
  (q:∀J,Walk X.K J B H1 x->R J H1):wpAny (model X.prog X.w) X.A (qd v) (tR X pins σ tg R) X.xe s1:=by
 cases d<;>try (cases e;done)
 case list ds=>
  cases e;obtain⟨a,vs,rfl,h,rs⟩:=k
  have l:SqL X.K H1 a vs:=by
   rcases h with⟨h,_⟩|⟨h|h,_⟩
   ·exact .inl (.inl h)
   ·exact .inl (.inr h)
   ·exact .inr h
  cases m;obtain⟨n,r,p,s⟩:=f.list l;refine lm p.isList ?_;refine⟨s1.heap.objs.size,[s1.heap.objs.size],_,_,H1,rfl,f.kept λb o e=>ak _ e,EW a _,⟨_,bt _ rfl,rfl,rfl⟩,λb g=>?_,q _ (NP h rs (rs.length▸s))⟩;have e:b=s1.heap.objs.size:=by simpa using g
  subst e;exact f.gA (ae _) (f.hok.fresh (ae _))
 case tuple ds=>
  cases e;obtain⟨a,vs,rfl,l,rs⟩:=k;cases m;obtain⟨n,r,p,s⟩:=f.tuple l;refine k9 p ?_;refine⟨s1.heap.objs.size,[s1.heap.objs.size],_,_,H1,rfl,f.kept λb o e=>ak _ e,La a _,⟨_,bt _ rfl,rfl,rfl⟩,λb g=>?_,q _ (NQ l rs (rs.length▸s))⟩;have e:b=s1.heap.objs.size:=by simpa using g
  subst e;exact f.gA (ae _) (f.hok.fresh (ae _))
 case str z=>
  change(if z.length<=aR then Res.ok (z.cps.toList.map λc=>PyData.str ⟨#[c]⟩)else .no)=_ at e;split at e
  case isFalse=>cases e
  rename_i hs;cases e;have C:=k.1;subst C;obtain⟨t,rfl⟩:=m;have D:=q _ (NR k.2 (mE hs))
  have i:∀(ty:String) (j:ty="str_ascii_iterator"\/ty="str_iterator"),tR X pins σ tg R (.ref s1.heap.objs.size) {s1 with heap:=s1.heap.push {cls:=.type ty,data:=.fields #[.str z t,.int 0 0]}}:=λty j=>by
   refine⟨s1.heap.objs.size,[s1.heap.objs.size],_,_,H1,rfl,f.kept λb o e=>ak _ e,MD j _ z t,⟨_,bt _ rfl,rfl,rfl⟩,λb g=>?_,D⟩;have e:b=s1.heap.objs.size:=by simpa using g
   subst e;exact f.gA (ae _) (f.hok.fresh (ae _))
  cases u:z.cps.all (· <128)
  ·exact wpAny_pyIter_wide u (i _ (.inr rfl))
  ·exact wpAny_pyIter_ascii u (i _ (.inl rfl))
theorem iT (ha:PE X a (tD X.K fa)):PI X tg a (tDW X.K λρ=>fa ρ>>=λx=>z8f x.2>>=λxs=>.ok (x.1,xs)):=by
 rintro pins s σ H R I ⟨ρ,F,w,so,e,q⟩
 obtain⟨x,e1,e⟩:=Res.aA e;obtain⟨xs,e2,e⟩:=Res.aA e;cases e;refine aI (ha pins s σ H (λv H1=>Same H H1/\Rep X.K H1 (BG F H x.1) v x.2) I ⟨ρ,F,x,so,e1,λv H1 s1 rv=>⟨s1,rv⟩⟩) λv s1 zz=>?_;obtain⟨y,H1,I1,r1,Gk,rv⟩:=zz;exact z2u I1 r1 (Rep.there _ rv) e2 λJ wk=>q J _ H1 Gk (λ_ z=>z) wk
theorem BE {n:Int}(a:n<=aR)(b:-aR<=n):-(2 ^ 62)<=n/\n<2 ^ 62:=by unfold aR at *;omega
theorem eK.one {K:W.Frag}(r:eK K F H H' vs [x]):∃v,vs=[v]/\Rep K H' (BG F H x.1) v x.2:=by obtain⟨v,t,e,h,q⟩:=r;have a:=q;subst e a;exact⟨v,rfl,h⟩
theorem eK.two {K:W.Frag}(r:eK K F H c d [x,y]):∃v w,d=[v,w]/\Rep K c (BG F H x.1) v x.2/\Rep K c (BG F H y.1) w y.2:=by obtain⟨v,t,e,h,q⟩:=r;obtain⟨w,a,b⟩:=q.one;subst e a;exact⟨v,w,rfl,h,b⟩
theorem NS (hm:X.mg "range"=none)(k:Gl X "range")(hs:isStar a=false)(l:PA X [a] (tDA X.K fs))(m:∀A b,fs A=.ok b->b.length=1):PI X y (.Call (.Name "range" p) [a] [] B) (tDW X.K λA=>fs A>>=λb=>iP (b.map (·.2))>>=λh=>.ok (.fr,h)):=
 PI.imp (Lg k hm l (eS hs)) λE H R o=>by
  obtain⟨A,F,w,r,e,q⟩:=o;obtain⟨b,j,e⟩:=Res.aA e;obtain⟨h,c,e⟩:=Res.aA e;cases e;refine⟨A,F,b,r,j,λG C s1 rs=>?_⟩;have s:=m A b j
  match b,s with
  | [(g,d)],t=>
   obtain⟨v,rfl,u⟩:=rs.one;cases d<;>try (cases c;done)
   rename_i n;have ev:=u;subst ev;change(if n<=aR/\-aR<=n then Res.ok ((cg n.toNat).map λ(i:Nat)=>PyData.int i)else .no)=_ at c;split at c
   case isFalse=>cases c
   rename_i hn;cases c;have f:=BE hn.1 hn.2;refine⟨n,rfl,f.1,f.2,q _ (λ_=>False) C s1 (λ_ z=>z.elim) ?_⟩;have x:((cg n.toNat).map λ(i:Nat)=>(PyData.int i:D))=(cg n.toNat).map λ(i:Nat)=>.int (0+i):=by apply kt;intro i _;rw[Int.zero_add]
   rw[x];exact Gj (mE (by unfold aR at *;omega))
theorem NT (hm:X.mg "range"=none)(s:Gl X "range")(hs:isStar a=false)(i:isStar b=false)(t:PA X [a,b] (tDA X.K fs))(u:∀f c,fs f=.ok c->c.length=2):PI X tg (.Call (.Name "range" p) [a,b] [] pos) (tDW X.K λf=>fs f>>=λc=>iP (c.map (·.2))>>=λk=>.ok (.fr,k)):=
 PI.imp (zew s hm t (by rw[eS hs,eS i];rfl) (eS i)) λC H R ⟨f,F,w,so,e,q⟩=>by
  obtain⟨c,l,e⟩:=Res.aA e;obtain⟨k,h,e⟩:=Res.aA e;cases e;refine⟨f,F,c,so,l,λD H1 x rs=>?_⟩;have A:=u f c l;rcases c with _|⟨⟨g,d⟩,_|⟨⟨E,y⟩,_|⟨_,_⟩⟩⟩<;>try (simp at A;done)
  obtain⟨v,G,rfl,B,j⟩:=rs.two;cases d<;>try (cases h;done)
  cases y<;>try (cases h;done)
  rename_i n m;subst B j;change(if -aR<=n/\m<=aR/\n<=aR/\-aR<=m then Res.ok ((cg (m-n).toNat).map λ(i:Nat)=>PyData.int (n+i))else .no)=_ at h;split at h
  case isFalse=>cases h
  rename_i hn;cases h;have o:=BE hn.2.2.1 hn.1;have r:=BE hn.2.1 hn.2.2.2;refine⟨n,m,rfl,⟨o.1,o.2,r.1,r.2⟩,q _ (λ_=>False) H1 x (λ_ z=>z.elim) ?_⟩;refine Gj ?_;rw[c8];unfold aR at *;omega
def Fm.drop (F:Fm)(i:Nat):Fm:={F with O:=λa=>if F.O a=some i then none else F.O a}
theorem Fm.bO {F:Fm}{a:Addr}(h:F.O a=none):(F.drop i).O a=none:=by show(if F.O a=some i then none else F.O a)=none;rw[h];rfl
theorem Bin.drop {a:Ad}(h:Bin F a):Bin (F.drop i) a:=by
 cases a with
 |none=>exact h
 |some a=>exact⟨Fm.bO h.1,h.2⟩
theorem Slot.drop {K:W.Frag}(a:j≠i)(h:Slot K F H j g v d):Slot K (F.drop i) H j g v d:=by
 cases g with
 |fr=>
  obtain⟨p,e,o,h⟩:=h;refine⟨p,e,?_,?_⟩
  ·show(if F.O p=some i then none else F.O p)=some j;rw[o,qu (λz=>a (qv z))]
  ·rcases h with⟨l,c,f,k,r⟩|⟨l,c,f,k,r⟩
   ·exact .inl ⟨l,c,f,k,r.weak λ_ b=>b.drop⟩
   ·exact .inr ⟨l,c,f,k,aS.same (λ_ _ e=>e) (λ_ b=>b.drop) r⟩
 |od=>exact h
 |al=>exact h
 |nu=>exact Rep.weak (λ_ b=>b.drop) h
def BI (F:Fm):G->Ad->Prop
 |.od=>dU F
 |.fr=>bY F
 |.al=>bY F
 |.nu=>bY F
theorem BI.of {a:Ad}(b:∀a,H a=none->F.V a)(h:BG F H g a):BI F g a:=by
 cases g with
 |fr=>exact nw.aN b h
 |od=>exact h
 |al=>exact h
 |nu=>exact h.elim (nw.aN b) Bin.aN
theorem StOk.mF {K:W.Frag}(b:StOk K F H o p)(r:Rep K H (BI F x.1) v x.2):StOk K (F.drop i) H (o.set i (some v)) (p.set i (some (z1d x))) where
 ext:=b.ext
 aN:=b.aN
 own:=λa j e=>by
  have h:F.O a=some j:=by
   have:(if F.O a=some i then none else F.O a)=some j:=e;split at this
   ·cases this
   ·exact this
  exact b.own a j h
 len:=by rw[cq,cq];exact b.len
 sl:=λj g d e=>by
  by_cases f:i=j
  ·subst f;rw[dg]at e;simp only[if_true]at e;split at e
   ·rename_i k;have c:z1d x=(g,d):=by simpa using e
    refine⟨v,?_,?_⟩
    ·rw[dg];simp[b.len,k]
    ·obtain⟨l,q⟩:=x;cases l with
     |fr=>cases c;exact r
     |od=>cases c;exact r
     |al=>cases c;exact r
     |nu=>cases c;exact r
   ·cases e
  ·rw[b9 f]at e ⊢;obtain⟨u,m,n⟩:=b.sl j g d e;exact⟨u,m,n.drop λz=>f z.symm⟩
structure Keeps (F F':Fm)(is:List Nat)(σ bR:L2.St):Prop where
 h0:F'.H0=F.H0
 v:F'.V=F.V
 z:F'.z=F.z
 o:∀a,F.O a=none->F'.O a=none
 len:bR.length=σ.length
 rest:∀j,j∉is->bR[j]?=σ[j]?
theorem Keeps.refl:Keeps F F is σ σ:=⟨rfl,rfl,rfl,λ_ h=>h,rfl,λ_ _=>rfl⟩
theorem Keeps.set {v:Option V}(h:i∈is):Keeps F (F.drop i) is σ (σ.set i v):=⟨rfl,rfl,rfl,λ_ h=>Fm.bO h,cq,λj a=>b9 λz=>a (by rw[<-z];exact h)⟩
theorem Keeps.trans (a:Keeps F f is σ d)(b:Keeps f g is d c):Keeps F g is σ c:=⟨b.h0.trans a.h0,b.v.trans a.v,b.z.trans a.z,λx h=>b.o x (a.o x h),b.len.trans a.len,λj e=>(b.rest j e).trans (a.rest j e)⟩
def tDG (K:W.Frag)(t:Tg):TG:=λv σ H Q=>∃ρ F x jK,StOk K F H σ ρ/\Rep K H (BI F x.1) v x.2/\fB t x ρ=.ok jK/\∀bR F',StOk K F' H bR jK->Keeps F F' (tgIx t) σ bR->Q bR H
theorem _root_.L2.PG.imp (h:PG X e t)(i:∀v a H Q,c v a H Q->t v a H Q):PG X e c:=λb s a H v u Q I r q=>h b s a H v u Q I r (i v a H Q q)
theorem _root_.L2.PGs.imp {e:List Expr}(h:PGs X e t)(i:∀v a H Q,c v a H Q->t v a H Q):PGs X e c:=λb s a H v u Q I r q=>h b s a H v u Q I r (i v a H Q q)
theorem NU (hN:X.N.Nodup)(f:X.N[i]?=some x)(a:Loc X.env.scope x)(hf:X.fn x=true\/X.env.scope.names.lookup x=some .local):PG X (.Name x g) (tDG X.K (.nm i)):=PG.imp (ET hN f a hf) λv h H Q b=>by obtain⟨j,F,x,c,d,r,e,q⟩:=b;cases e;exact q _ _ (d.mF r) (Keeps.set (by simp[tgIx]))
def mG (K:W.Frag)(all is:List Nat):rH:=λvs σ H Q=>∃ρ F g ds jK,(∀i∈is,i∈all)/\StOk K F H σ ρ/\Reps K H (BI F g) vs ds/\qE ρ is ds g=some jK/\∀bR F',StOk K F' H bR jK->Keeps F F' all σ bR->Q bR H
theorem NV:PGs X [] (mG X.K all []):=
 PGs.imp K9 λj i H Q b=>by
  obtain⟨k,F,g,a,c,_,f,r,e,q⟩:=b;cases a with
  |nil=>cases e;have h:=r;exact⟨h,q i F f Keeps.refl⟩
  |cons d a=>cases e
theorem NW (hN:X.N.Nodup)(B:X.N[i]?=some x)(s:Loc X.env.scope x)(hf:X.fn x=true\/X.env.scope.names.lookup x=some .local)(h:PGs X es (mG X.K all is)):PGs X (.Name x p::es) (mG X.K all (i::is)):=
 PGs.imp (zhv (ET hN B s hf) h (by rfl)) λD E H Q u=>by
  obtain⟨C,F,g,f,l,c,w,r,e,q⟩:=u;cases f with
  |nil=>cases e
  |cons d f=>
   obtain⟨v,t,rfl,o,y⟩:=r;refine⟨v,t,rfl,C.set i (some (z1d (gJ d g,d))),F.drop i,g,f,l,λj z=>c j (ay _ z),?_,?_,e,λm A n k=>q m A n ((Keeps.set (c i bj)).trans k)⟩
   ·refine w.mF ?_;unfold gJ;by_cases B:imm d=true
    ·rw[qt B];exact Rep.bE d B o
    ·rw[qu B];exact o
   ·exact y.weak λa b=>by cases g<;>exact b
theorem NY (w:X.calm=true)(h:PGs X M (mG X.K is is))(hn:(d8 M X.env).length=n)(o:(d8 M X.env).findIdx? (·.1)=none)(y:is.length=n):PG X (.Tuple M k O) (tDG X.K (.tp is)):=
 λJ s N H v u Q I z B=>by
  obtain⟨G,F,x,c,A,r,e,q⟩:=B;obtain⟨g,d⟩:=x
  have l:∀(is:List Nat) (b:List D) (G f:Rho),qE G is b g=some f->is.length=b.length:=by
   intro is
   induction is with
   |nil=>intro b G f h;cases b with
    |nil=>rfl
    |cons _ _=>cases h
   |cons i is C=>intro b G f h;cases b with
    |nil=>cases h
    |cons d b=>rw[bh,bh,C b _ _ h]
  have p:∀b:List D,Res.eJ (qE G is b g)=.ok c->qE G is b g=some c:=λb e=>by
   cases m:qE G is b g with
   |none=>rw[m]at e;cases e
   |some f=>rw[m]at e;rw[Res.ok.inj e]
  cases d<;>try (cases e;done)
  case tuple b=>have m:=p b e;obtain⟨a,L,rfl,j,t⟩:=r;exact zpi w h hn o J s N H _ u Q I z ⟨a,L,rfl,j,by rw[t.length,<-l _ _ _ _ m];exact y,G,F,g,b,c,λ_ h=>h,A,t,m,q⟩
  case list b=>
   have m:=p b e;obtain⟨a,L,rfl,j,t⟩:=r
   have E:SqL X.K H a L:=by
    rcases j with⟨j,_⟩|⟨j|j,_⟩
    ·exact .inl (.inl j)
    ·exact .inl (.inr j)
    ·exact .inr j
   exact NO w h hn o J s N H _ u Q I z ⟨a,L,rfl,E,by rw[t.length,<-l _ _ _ _ m];exact y,G,F,g,b,c,λ_ h=>h,A,t,m,q⟩
theorem StOk.blk {K:W.Frag}(f:StOk K F H A y)(m:Nat)(js:List Nat)(l:Addr)(t:List V)(c:H l=none):
  StOk K {F with V:=λa=>F.V a/\a≠l,O:=λ_=>none} (upd H l (.lst t)) (eR m js A) (ao m none++js.map λj=>iN (y.getD j none)) where
 ext:=λa o e=>by have:=f.ext a o e;rw[aE (bQ this c)];exact this
 aN:=λa e=>by
  by_cases h:a=l
  ·subst h;rw[bI]at e;cases e
  ·rw[aE h]at e;exact⟨f.aN a e,h⟩
 own:=λa i e=>by cases e
 len:=by unfold eR;simp
 sl:=λi g d e=>by
  have n:∀(a:Ad),bY F a/\¬nw H a->bY {F with V:=λa=>F.V a/\a≠l,O:=λ_=>none} a:=λa h=>by
   cases a with
   |none=>exact h.1
   |some a=>exact⟨h.1,λz=>h.2 (z▸c)⟩
  have p:∀(a:Ad),dU F a/\¬nw H a->dU {F with V:=λa=>F.V a/\a≠l,O:=λ_=>none} a:=λa h=>by
   cases a with
   |none=>exact h.1
   |some a=>exact⟨h.1.1,h.1.2,λz=>h.2 (z▸c)⟩
  rw[ki]at e;split at e
  ·rw[cc]at e;split at e<;>cases e
  ·rename_i B;rw[bw]at B e;rw[av]at e;cases q:js[i-m]? with
   |none=>rw[q]at e;cases e
   |some j=>
    rw[q]at e;have b:iN (y.getD j none)=some (g,d):=qv e;cases r:y[j]? with
    |none=>rw[ac,r]at b;cases b
    |some o=>
     rw[ac,r]at b;cases o with
     |none=>cases b
     |some u=>
      obtain⟨s,w⟩:=u;obtain⟨v,x,k⟩:=f.sl j s w r;refine⟨v,?_,?_⟩
      ·unfold eR;rw[dj (by grind),bw,av,q];show some (A.getD j none)=_;rw[ac,x];rfl
      ·cases s with
       |fr=>cases b;exact Rep.same (Same.upd c) n (Rep.there _ (k.rep f.iR))
       |od=>cases b;exact Rep.same (Same.upd c) p (Rep.there _ k)
       |al=>cases b;exact Rep.same (Same.upd c) n (Rep.there _ k)
       |nu=>cases b;exact Rep.same (Same.upd c) n (Rep.there _ (k.rep f.iR))
theorem BF:∀(l m:List D) (r:List GD),kI f (l++m)=.ok r->∃a b,kI f l=.ok a/\kI f m=.ok b/\r=a++b
 | [],m,r,h=>⟨[],r,rfl,h,rfl⟩
 |x::l,m,r,h=>by
  obtain⟨o,c,h⟩:=Res.aA h;obtain⟨d,e,h⟩:=Res.aA h;obtain⟨a,b,g,i,j⟩:=BF l m d e;subst j;cases h;refine⟨oc o a,b,?_,i,?_⟩
  ·show(f x>>=λo=>kI f l>>=λr=>Res.ok (oc o r))=_;rw[c,Res.aB,g,Res.aB]
  ·cases o<;>rfl
theorem eK.snoc {K:W.Frag}:∀{d:List V} {a:List GD} {v:V} {x:GD},eK K F H f d a->Rep K f (BG F H x.1) v x.2->eK K F H f (d++[v]) (a++[x])
 |d,[],v,x,r,h=>by have e:d=[]:=r;subst e;exact⟨v,[],rfl,h,rfl⟩
 |d,y::c,v,x,r,h=>by obtain⟨u,t,e,b,q⟩:=r;subst e;exact⟨u,t++[v],rfl,b,q.snoc h⟩
theorem eK.keep {K:W.Frag}(hk:∀a o (g:G),i a=some o->(BG F H g (some a)\/Fix o)->c a=some o):∀{h:List V} {xs:List GD},eK K F H i h xs->eK K F H c h xs
 |h,[],r=>r
 |h,y::f,r=>by obtain⟨u,t,e,d,q⟩:=r;exact⟨u,t,e,Rep.keep (λa o e b=>hk a o y.1 e b) (λ_ z=>z) _ d,q.keep hk⟩
theorem eK.len {K:W.Frag}:∀{vs:List V} {xs:List GD},eK K F H H' vs xs->vs.length=xs.length
 |vs,[],r=>by have e:vs=[]:=r;subst e;rfl
 |vs,y::ys,r=>by obtain⟨u,t,e,h1,q⟩:=r;subst e;rw[bh,bh,q.len]
theorem Gn:∀(l:List D) (r:List GD),kI f l=.ok r->r.length<=l.length
 | [],r,h=>by cases h;simp_all
 |x::l,r,h=>by
  obtain⟨o,c,h⟩:=Res.aA h;obtain⟨a,b,h⟩:=Res.aA h;have:=Gn l a b;cases h;cases o with
  |none=>exact bq this (by simp)
  |some y=>simp only[oc,bh];omega
def zh4 (nt:Nat)(js:List Nat)(t:Tg)(fw:Rho->Res (G×List D))(fc:Rho->Res Bool)(fe:Rho->Res GD):Rho->Res GD:=λρ=>fw ρ>>=λw=>kI (λx=>fB t (gJ x w.1,x) (ao nt none++js.map λj=>iN (ρ.getD j none))>>=λsj=>fc sj>>=λk=>if k then fe sj>>=λy=>.ok (some y)else .ok none) w.2>>=λys=>.ok (qC ys,.list (ys.map (·.2)))
def NZ (g:TG)(tc:TT)(te:TE)(em:L2.St->L2.St)(σ:L2.St)(Q:VK):It->Hp->Prop:=λJ H1=>∀l,H1 l=none->∃P:Nat->Nat->List V->Hp->Prop,(∃m,P 0 m [] (upd H1 l (.lst [])))/\∀i m acc H2,P i m acc H2->(J.stop i H2/\Q (.ref l) H2)\/(J.go i H2/\acc.length<au/\∃N:List V->Hp->Prop,(∀lW H',N lW H'->∃m',m'<m/\P (i+1) m' lW H')/\∀x H3,J.gO i H2 x H3->g x (em σ) H3 λkA H4=>fH (em σ) kA/\tc kA H4 λb H5=>if b=true then te kA H5 λy H6=>H6 l=some (.lst acc)/\N (acc++[y]) (upd H6 l (.lst (acc++[y])))else N acc H5)
abbrev CI (K:W.Frag)(F:Fm)(f:D->Res (Option GD))(ds:List D)(H1:Hp)(l:Nat)(i:Nat)(acc:List V)(H2:Hp):Prop:=H2 l=some (.lst acc)/\(∀a o,H1 a=some o->H2 a=some o)/\∃ys,kI f (ds.take i)=.ok ys/\eK K F (upd H1 l (.lst [])) H2 acc ys
theorem zb5 {fc:Rho->Res Bool}(ht0:∀i∈tgIx t,i<R)(so:StOk X.K F H σ ρ)(e:zh4 R js t fw fc fe ρ=.ok z)(q:∀v H',Same H H'->Rep X.K H' (BG F H z.1) v z.2->Q v H'):
  ∃w,fw ρ=.ok w/\∀J B H',Same H H'->(∀a,B a->BG F H w.1 a/\¬nw H' a)->Walk X.K J B H' w.2->NZ (tDG X.K t) (dN X.K fc) (tD X.K fe) (eR R js) σ Q J H':=by
 obtain⟨w,U,e⟩:=Res.aA e;obtain⟨W,Y,e⟩:=Res.aA e;cases e;refine⟨w,U,λJ B H1 s1 hB wk l E=>?_⟩;generalize hr:(ao R none++js.map λj=>iN (ρ.getD j none))=Z at Y;generalize hf:(λx=>fB t (gJ x w.1,x) Z>>=λn=>fc n>>=λk=>if k then fe n>>=λy=>Res.ok (some y)else .ok none)=f at Y;have yB:=so.same s1;have BH:∀i,∃S,kI f (w.2.take i)=.ok S:=λi=>by rw[<-j5 i w.2]at Y;obtain⟨r1,r2,T,_,_⟩:=BF _ _ _ Y;exact⟨r1,T⟩
 let I:Fm:={F with V:=λa=>F.V a/\a≠l,O:=λ_=>none}
 refine zu6 (CI X.K I f w.2 H1 l) wk.len ?_ ?_ ?_ ?_ ?_
 ·exact⟨bI,λa o e=>by rw[aE (bQ e E)];exact e,[],rfl,rfl⟩
 ·rintro i p L ⟨_,_,S,M,rs⟩
  rw[rs.len];have:=Gn _ _ M;rw[c9]at this;omega
 ·rintro p L ⟨T,C,S,M,rs⟩
  rw[gh]at M;rw[Y]at M;cases M;have kp:Kp B H1 L:=λa o e _=>C a o e;refine⟨wk.stop L kp,q _ _ (λa o e=>C a o (s1 a o e)) ?_⟩;have Gp:=s1.none E;refine⟨l,p,rfl,.inl ⟨T,?_⟩,rs.mD λx hx a hb=>?_⟩
  ·show BG F H (qC W) (some l);unfold qC;split
   ·exact Gp
   ·exact so.aN l Gp
  ·unfold qC;by_cases ea:(W.all λx=>x.1==.fr)=true
   ·rw[qt ea];have Gq:x.1=.fr:=by simpa using b6.mp ea x hx
    rw[Gq]at hb;cases a with
    |none=>exact hb
    |some a=>
     have Gr:upd H1 l (.lst []) a=none:=hb
     have:H1 a=none:=by
      by_cases c:a=l
      ·subst c;exact E
      ·rw[aE c]at Gr;exact Gr
     exact s1.none this
   ·rw[qu ea];have:bY I a:=BG.aN (λa e=>((yB.blk R js l [] E).aN a e)) hb;cases a with
    |none=>exact this
    |some a=>exact this.1
 ·rintro i p L hi ⟨_,C,_⟩
  exact wk.go L (λa o e _=>C a o e) i hi
 ·rintro i p L x H3 hi ⟨T,C,S,M,rs⟩ y
  obtain⟨s3,d,hd,rx⟩:=wk.gO L (λa o e _=>C a o e) i x H3 hi y;obtain⟨U8,u⟩:=BH (i+1);have N:w.2.take (i+1)=w.2.take i++[d]:=by rw[List.take_add_one,hd];rfl
  rw[N]at u;obtain⟨r1,r2,g1,g2,g3⟩:=BF _ _ _ u;rw[M]at g1;cases g1;obtain⟨o,A,g2⟩:=Res.aA g2;obtain⟨r3,g5,g2⟩:=Res.aA g2;cases g5;rw[<-hf]at A;obtain⟨n,k1,A⟩:=Res.aA A;obtain⟨k,k2,A⟩:=Res.aA A
  have sb:StOk X.K I H3 (eR R js σ) Z:=by
   rw[<-hr];refine(yB.blk R js l p E).same λa o e=>s3 a o ?_;by_cases c:a=l
   ·subst c;rw[bI]at e;rw[T];exact e
   ·rw[aE c]at e;exact C a o e
  have BJ:Rep X.K H3 (BI I (gJ d w.1)) x d:=by
   unfold gJ;by_cases hi:imm d=true
   ·rw[qt hi];exact Rep.bE d hi rx
   ·rw[qu hi];refine rx.weak λa b=>?_;obtain⟨r,b2⟩:=hB a b;have D:=BI.of so.aN r;cases a with
    |none=>cases hw:w.1<;>rw[hw]at D<;>exact D
    |some a=>
     have c:a≠l:=λz=>b2 (by rw[z];exact E);cases hw:w.1<;>rw[hw]at D
     ·exact⟨D,c⟩
     ·exact⟨D.1,D.2,c⟩
     ·exact⟨D,c⟩
     ·exact⟨D,c⟩
  refine⟨_,I,(gJ d w.1,d),n,sb,BJ,k1,λkA P yC h=>⟨⟨h.len.symm,λj v hj=>?_⟩,n,P,k,yC,k2,λH5 s5=>?_⟩⟩
  ·by_cases Gs:j∈tgIx t
   ·have :=ht0 j Gs;unfold eR at hj;rw[dn (bw▸this),cc,qt this]at hj;cases hj
   ·rw[h.rest j Gs];exact hj
  ·have h5:∀a o,H1 a=some o->H5 a=some o:=λa o e=>s5 a o (s3 a o (C a o e));have s:=s5 _ _ (s3 _ _ T);have Gu:=rs.keep λa o g e _=>s5 a o (s3 a o e);cases k with
   |false=>cases A;cases g2;refine jZ ⟨s,h5,S,?_,Gu⟩;rw[N,u,g3];simp[oc]
   |true=>
    obtain⟨yv,k3,A⟩:=Res.aA A;cases A;cases g2;refine j' ⟨n,P,yv,yC.same s5,k3,λv H6 s6 rv=>⟨s6 _ _ s,bI,λa o e=>?_,S++[yv],?_,?_⟩⟩
    ·rw[aE (bQ e E)];exact s6 a o (h5 a o e)
    ·rw[N,u,g3];rfl
    ·have N0:=s6 _ _ s
     have hk:∀a o (g:G),H6 a=some o->(BG I (upd H1 l (.lst [])) g (some a)\/Fix o)->upd H6 l (.lst (p++[v])) a=some o:=λa o g e b=>by
      have c:a≠l:=by
       intro z;subst z;rcases b with b|b
       ·cases g with
        |fr=>have m:upd H1 a (.lst []) a=none:=b;rw[bI]at m;cases m
        |od=>exact b.2.2 rfl
        |al=>exact b.2 rfl
        |nu=>
         rcases b with b|b
         ·have m:upd H1 a (.lst []) a=none:=b;rw[bI]at m;cases m
         ·exact b.2.2.2 rfl
       ·rw[N0]at e;cases e;exact b
      rw[aE c];exact e
     have N2:=Gu.keep λa o g e _=>s6 a o e
     have N3:Rep X.K H6 (BG I (upd H1 l (.lst [])) yv.1) v yv.2:=by
      refine rv.weak λa b=>?_;cases hg:yv.1 with
      |fr=>
       rw[hg]at b;cases a with
       |none=>exact b
       |some a=>
        have m:H5 a=none:=b;show upd H1 l (.lst []) a=none;have c:a≠l:=λz=>by rw[z,s]at m;cases m
        rw[aE c];cases U:H1 a with
        |none=>rfl
        |some o=>rw[h5 a o U]at m;cases m
      |nu=>
       rw[hg]at b;cases a with
       |none=>exact b
       |some a=>
        rcases b with b|b
        ·have m:H5 a=none:=b;refine .inl ?_;show upd H1 l (.lst []) a=none;have c:a≠l:=λz=>by rw[z,s]at m;cases m
         rw[aE c];cases U:H1 a with
         |none=>rfl
         |some o=>rw[h5 a o U]at m;cases m
        ·refine .inr ⟨rfl,?_,?_⟩
         ·have:=b.2.1;rw[h.h0]at this;exact this
         ·have:=b.2.2;rw[h.v]at this;exact this
      |od=>
       rw[hg]at b;cases a with
       |none=>have r:P.z:=b;rw[h.z]at r;exact r
       |some a=>have r:P.H0 a≠none/\P.V a:=b;rw[h.h0,h.v]at r;exact r
      |al=>
       rw[hg]at b;cases a with
       |none=>have r:P.z:=b;rw[h.z]at r;exact r
       |some a=>have r:P.V a:=b;rw[h.v]at r;exact r
     exact(N2.snoc N3).keep hk
theorem N4 {fc:Rho->Res Bool}(a:∀i∈tgIx t,i<f):∀d H Q,tD X.K (zh4 f js t fw fc fe) d H Q->vb (tDW X.K fw) (tDG X.K t) (dN X.K fc) (tD X.K fe) (eR f js) d H Q:=by intro d H Q h;obtain⟨g,F,z,b,e,q⟩:=h;obtain⟨w,c,h⟩:=zb5 a b e q;exact⟨g,F,w,b,c,h⟩
theorem zj4 {fc:Rho->Res Bool}(j:X.calm=true)(k:BlkScope X scope d c js)(e:∀i∈tgIx t,i<c)(q:PI X h o (tDW X.K fw))
  (l:∀C b s H,PG (blk X scope d C b s H) h (tDG X.K t)) (m:∀C b s H,oJ (blk X scope d C b s H) f (dN X.K fc)) (n:∀C b s H,PE (blk X scope d C b s H) g (tD X.K fe)) (hs:∀x,e6 o X.env x=pure x):
  PE X (.ListComp g [⟨h,o,f,0⟩] scope pos) (tD X.K (zh4 c js t fw fc fe))/\∀p H Q,tD X.K (zh4 c js t fw fc fe) p H Q->vb (tDW X.K fw) (tDG X.K t) (dN X.K fc) (tD X.K fe) (eR c js) p H Q:=by
 have a:=N4 (X:=X) (js:=js) (fw:=fw) (fc:=fc) (fe:=fe) e;exact⟨PE.imp (z9u j k q l m n hs) a,a⟩
end
def BC (H:Hp)(A:Ad->Prop):G->Ad->Prop
 |.fr=>nw H
 |.od=>λa=>nw H a\/A a
 |.al=>λa=>nw H a\/A a
 |.nu=>nw H
def spD (K:W.Frag)(n:Nat)(m:Fn):Sp:=λvs H Q _=>∃A ds x,vs.length=n/\Reps K H A vs ds/\m ds=.ok x/\∀v H',Same H H'->Rep K H' (BC H A x.1) v x.2->Q v H'
section
variable {X:Cx}{a e:Expr}
theorem zoo (j:Cal X.prog X.w X.K X.mg X.base k x ps (spD X.K n m))(l:Room o X.A)(hk:k<=o)(s:PA X (e::es) (tDA X.K fs))(d:((e::es).all fun e=> !isStar e)=true)(c:Gl X x)(f:Vx x)
  (t:∀E b,fs E=.ok b->b.length=n):PE X (.Call (.Name x p) (e::es) [] I) (tD X.K λE=>fs E>>=λb=>m (b.map (·.2))>>=λr=>.ok (gJ r.2 (jJ r.1),r.2)):=
 PE.imp (zgn j l s d hk c f) λL H Q u=>by
  obtain⟨E,F,z,g,e,q⟩:=u;obtain⟨b,i,e⟩:=Res.aA e;obtain⟨r,y,e⟩:=Res.aA e;cases e;refine⟨E,F,b,g,i,λJ G s1 rs=>?_⟩;show spD X.K n m (J++[]) G Q E0;rw[dz];refine⟨_,_,r,by rw[rs.len];exact t E b i,rs.jL g.aN,y,λv B C D=>q v B (s1.trans C) (qJ D λa h=>?_)⟩;have al:(nw G a\/bY F a)->bY F a:=λh=>h.elim (λh=>(nw.back s1 h).aN g.aN) λh=>h;cases c:r.1 with
  |fr=>rw[c]at h;exact nw.back s1 h
  |od=>rw[c]at h;exact al h
  |al=>rw[c]at h;exact al h
  |nu=>rw[c]at h;exact nw.back s1 h
def rMt (K:W.Frag)(m:String):V->List V->Hp->VK->Prop:=λx xs H Q=>∃B B' dx ds d,Rep K H B x dx/\Reps K H B' xs ds/\mtD m dx ds=.ok d/\∀w H',Same H H'->Rep K H' (λa=>nw H a\/B a\/B' a) w d->Q w H'
theorem nR (h:z0n o=true):jg o n env w=w:=by
 cases o with
 |Call f a k p=>
  cases f with
  |Name x q=>
   cases a with
   |nil=>
    cases k with
    |nil=>cases h
    |cons _ _=>rfl
   |cons _ _=>rfl
  |_=>rfl
 |_=>rfl
theorem BK:∀{a:List Expr},(a.all λe=> !isStar e)=true->(iz b (cx a env)).all (λx=> !x.1)=true
 | [],_=>rfl
 |e::a,h=>by have h:=ar.mp (ci▸h);rw[eS (by simpa using h.1)];show(true&&(iz b (cx a env)).all (λx=>!x.1))=true;rw[BK h.2];rfl
theorem zai (h:(c.all fun e=> !isStar e)=true)(a:c.length<20):((iz b (cx c env)).all (fun x=> !x.1)&&(l4 b (jr [] env)).all (fun x=>x.1.isSome)
  &&decide (c.length+([]:List kx).length+(if([]:List kx).isEmpty then 0 else 1)<30))=true:=by
 rw[BK h];show(true&&true&&decide (c.length+0+0<30))=true;rw[qy (by omega)];rfl
theorem d_mt {id:String}(t:qm T)(slot:PySem.Slot T n id)(i:qe (.builtin id)=pure (.type "method_descriptor"))(hm:MtR X id (rMt X.K m))(u:∀H B x S y d,Rep X.K H B x S->mtD m S y=.ok d->tyV X.K T x H)
  (A:PE X o (tD X.K U)) (C:PA X (e::R) (tDA X.K fs)) (j:z0n o=true) (f:((e::R).all λe=>!isStar e)=true) (D:(e::R).length<20) (c:(N.endLine==O.line)=true):
  PE X (.Call (.Attribute o n N) (e::R) [] O) (tD X.K λP=>U P>>=λx=>fs P>>=λk=>mtD m x.2 (k.map (·.2))>>=λd=>.ok (gJ d .al,d)):=by
 have b:=f;rw[ci,bv]at b;refine PE.imp (zmn t slot i hm A C (nR j) (zai f D) c (eS (by simpa using b.1)) (kZ b.2)) λW H Q E=>?_;obtain⟨P,F,z,g,e,q⟩:=E;obtain⟨x,G,e⟩:=Res.aA e;obtain⟨k,I,e⟩:=Res.aA e;obtain⟨d,r,e⟩:=Res.aA e;cases e;refine⟨P,F,x,g,G,λv V s1 s=>⟨u V _ v x.2 _ d s r,P,F,k,g.same s1,I,λY M l rs=>?_⟩⟩;refine⟨_,_,x.2,_,d,s.same l λ_ z=>z,rs.jL (g.same s1).aN,r,λw J L p=>q w J ((s1.trans l).trans L) (qJ p λa h=>?_)⟩;rcases h with h|h|h
 ·exact(nw.back (s1.trans l) h).aN g.aN
 ·exact h.aN g.aN
 ·exact h
theorem N5 (hu:X.A.units+64<cLine):MtR X "dict.get" (rMt X.K "get"):=by
 rintro f s D H x E v F Q I h rs ⟨B,G,dx,J,d,i,j,e,q⟩
 simp only[mtD,if_true]at e;split at e
 ·rename_i es k d0;split at e
  case isFalse=>cases e
  rename_i l;cases e;obtain⟨L,M,rfl,m,n⟩:=yA j;obtain⟨kk,rfl,rfl,_⟩:=vK l m;obtain⟨a,kvs,rfl,o,_,p⟩:=i;cases h;obtain⟨N,O,rfl,r,t⟩:=vals2 rs;have b:=p.val kk;refine zpo (by omega) I (DGet.k o) r t λP R u c=>⟨_,H,u,c,q _ H (Same.refl H) ?_⟩;cases g:z0e es (kD kk)with
  |none=>rw[g]at b;rw[show cQ kvs kk=none from b];exact n.weak λ_ z=>.inr (.inr z)
  |some S=>rw[g]at b;obtain⟨w,y,C⟩:=b;rw[y];exact C.weak λ_ z=>.inr (.inl z)
 ·cases e
theorem N6 (r:Rep X.K H B x dx)(e:mtD "get" dx ds=.ok d):tyV X.K "dict" x H:=by
 simp only[mtD,if_true]at e;split at e
 ·obtain⟨a,kvs,rfl,b,_,_⟩:=r;exact .inr (.inr (.inl ⟨rfl,.inl ⟨kvs,b⟩⟩))
 ·cases e
theorem Gv {K:W.Frag}:∀{a:List D} {b:List Str} {o:List V} {p:List Value},gX a=some b->Reps K H B o a->Vals o p->StrsAre p b/\∀s∈b,PyData.strOk s=true
 | [],b,o,p,e,r,q=>by cases e;have c:=r;subst c;cases q;exact⟨.nil,λ_ h=>nomatch h⟩
 |d::a,b,o,p,e,r,q=>by
  cases d<;>try (cases e;done)
  rename_i z;change(gX a).map (z:: ·)=_ at e;cases c:gX a with
  |none=>rw[c]at e;cases e
  |some g=>
   rw[c]at e;cases e;obtain⟨v,t,rfl,f,i⟩:=r;have ev:=f.1;subst ev;cases q with
   |cons j k=>
    obtain⟨l,rfl⟩:=j;obtain⟨m,n⟩:=Gv c i k;refine⟨.cons z l m,λs hs=>?_⟩;rcases(ax.mp hs)with rfl|hs
    ·exact f.2
    ·exact n s hs
theorem N7 (z:Str)(b:List Str):Txt.join z b=qF z b:=by
 have go:∀(r:List Str) (a:Array Nat),(r.foldl (λa p=>a++z.cps++p.cps) a).toList=a.toList++(r.map λp=>z.cps.toList++p.cps.toList).flatten:=by
  intro r
  induction r with
  |nil=>intro a;simp
  |cons p r c=>intro a;rw[nk,c];simp
 cases b with
 |nil=>rfl
 |cons x r=>
  have:=go r x.cps;show(⟨r.foldl (λa p=>a++z.cps++p.cps) x.cps⟩:Str)=⟨(x.cps.toList++(r.map λp=>z.cps.toList++p.cps.toList).flatten).toArray⟩
  congr 1
  rw[<-this,kh]
theorem N8 (d:PyData.strOk z=true)(h:∀s∈b,PyData.strOk s=true):PyData.strOk (qF z b)=true:=
 qK.mpr λc e=>by
  have a:c∈yn z.cps.toList b:=by simpa[qF]using e
  cases b with
  |nil=>simp[yn]at a
  |cons x r=>
   simp only[yn,cz,l8,bp]at a;rcases a with a|⟨l,⟨p,f,rfl⟩,a⟩
   ·exact qK.mp (h x bj) c a
   ·rcases cz.mp a with a|a
    ·exact qK.mp d c a
    ·exact qK.mp (h p (ay _ f)) c a
theorem N9:MtR X "str.join" (rMt X.K "join"):=by
 intro E s F H x r v G Q I f rs h;obtain⟨B,J,L,w,d,c,g,e,q⟩:=h;simp only[mtD,show("join":String)≠"get" by decide,if_true,if_false]at e;split at e
 ·rename_i z y;split at e
  case h_2=>cases e
  rename_i A b;split at e
  case isFalse=>cases e
  rename_i i;cases e;obtain⟨C,rfl,j⟩:=sF g;obtain⟨a,M,rfl,l,m⟩:=lG j;obtain⟨u,rfl,n⟩:=vals1 rs;cases n;have ex:=c.1;subst ex;obtain⟨t,rfl⟩:=f;obtain⟨o,p,pl,_⟩:=I.list l;obtain⟨sa,ok⟩:=Gv b m p;refine join_list pl.isList (by simpa using sa) (bq i (by unfold aR;decide)) λD k=>?_;rw[N7];exact⟨.str _,H,I.tok _,⟨_,rfl⟩,q _ H (Same.refl H) ⟨rfl,N8 c.2 ok⟩⟩
 ·cases e
theorem Oa (r:Rep X.K H B x dx)(e:mtD "join" dx ds=.ok d):tyV X.K "str" x H:=by
 simp only[mtD,show("join":String)≠"get" by decide,if_true,if_false]at e;split at e
 ·have ex:x=.str _:=r.1;subst ex;exact rfl
 ·cases e
end
theorem Ob:CallR X (.type "int") (λa H Q=>∃x,a=[.str x]/\sg x.cps.toList=true/\x.length<=600/\Q (.int (vi x.cps.toList:Int)) H):=by
 intro e s f H a g Q I r h;obtain⟨x,rfl,hf,d,q⟩:=h;obtain⟨u,rfl,t,rfl⟩:=vals1 r;unfold sg at hf;rw[ar]at hf;have hd:=λc b=>by have:=b6.mp hf.2 c b;rw[ar,decide_eq_true_iff,decide_eq_true_iff]at this;exact this
 have hn:=intText_digits hd (λz=>by rw[z]at hf;cases hf.1) (by omega);exact W.KIN.call_text hn (by omega) ⟨.int _,H,I.tok _,⟨_,rfl⟩,q⟩
def cX (F:Fm)(H:Hp)(F':Fm)(H':Hp):Prop:=∀a o,H a=some o->F.O a=none->H' a=some o/\F'.O a=none
theorem cX.refl:cX F H F H:=λ_ _ e o=>⟨e,o⟩
theorem cX.trans (a:cX F H f i)(b:cX f i c d):cX F H c d:=λx o e n=>by obtain⟨g,h⟩:=a x o e n;exact b x o g h
theorem cX.same (s:Same H b):cX F H F b:=λa o e n=>⟨s a o e,n⟩
def Run (F F':Fm):Prop:=Same F.H0 F'.H0/\F'.V=F.V/\F'.z=F.z
theorem Run.refl:Run F F:=⟨λ_ _ e=>e,rfl,rfl⟩
theorem Run.trans (a:Run F d)(b:Run d c):Run F c:=⟨λx o e=>b.1 x o (a.1 x o e),b.2.1.trans a.2.1,b.2.2.trans a.2.2⟩
theorem Run.of (h:a.H0=F.H0)(v:a.V=F.V)(z:a.z=F.z):Run F a:=⟨λ_ _ e=>by rw[h];exact e,v,z⟩
def BR (F:Fm):G->Ad->Prop
 |.fr=>λa=>match a with|some a=>F.H0 a=none|none=>False
 |.od=>bY F
 |.al=>bY F
 |.nu=>λa=>match a with|some a=>F.H0 a=none|none=>False
def vN (K:W.Frag)(F:Fm)(H:Hp)(D:Ends):Out->Prop
 |.nx jK=>∀bR H' F',StOk K F' H' bR jK->Run F F'->cX F H F' H'->D.nx bR H'
 |.rt g d=>∀v H',(∀a o,F.H0 a=some o->H' a=some o)->Rep K H' (BR F g) v d->D.rt v H'
def tDS (K:W.Frag)(f:Rho->Res Out):TS:=λD σ H=>∃ρ F out,StOk K F H σ ρ/\f ρ=.ok out/\vN K F H D out
theorem none_of (s:Same H b)(h:b a=none):H a=none:=by
 cases e:H a with
 |none=>rfl
 |some o=>rw[s a o e]at h;cases h
theorem BR.run (r:Run F c)(h:BR c g a):BR F g a:=by obtain⟨d,e,f⟩:=r;cases g<;>cases a<;>first|exact h|(exact none_of d h)|(have b:c.V _:=h;rw[e]at b;exact b)|(have b:c.z:=h;rw[f]at b;exact b)
theorem vN.back {K:W.Frag}{D:Ends}(r:Run F m)(f:cX F H m n)(h:vN K F H D i):vN K m n D i:=by
 cases i with
 |nx p=>exact λj c l so q s=>h j c l so (r.trans q) (f.trans s)
 |rt g d=>exact λv c k t=>h v c (λa o e=>k a o (r.1 a o e)) (t.weak λ_ b=>b.run r)
section
variable {X:Cx}{e:Expr}{st:Stmt}{rest:List Stmt}{fs gs:Rho->Res Out}
theorem Oc:PSs X [] (tDS X.K λc=>.ok (.nx c)):=PSs.imp EO λD d H ⟨c,F,a,b,e,q⟩=>by cases e;exact q d H F b Run.refl cX.refl
theorem Od (j:PS X st (tDS X.K fs))(k:PSs X rest (tDS X.K gs)):PSs X (st::rest) (tDS X.K λa=>oQ (fs a) gs):=
 PSs.imp (ER j k) λD n H ⟨a,F,b,so,e,q⟩=>by
  have e:oQ (fs a) gs=.ok b:=e;cases c:fs a with
  |no=>rw[c]at e;cases e
  |exc x=>rw[c]at e;cases e
  |ok o1=>
   rw[c]at e;cases o1 with
   |nx h=>exact⟨a,F,.nx h,so,c,λl o m i r f=>⟨h,m,b,i,e,q.back r f⟩⟩
   |rt g d=>cases e;exact⟨a,F,.rt g d,so,c,q⟩
theorem BL (d:PT X c (dN X.K f))(g:PSs X A (tDS X.K fs))(h:PSs X i (tDS X.K gs)):PS X (.If c A i n) (tDS X.K λm=>f m>>=λk=>if k then fs m else gs m):=
 PS.imp (ES d g h) λD o H j=>by
  obtain⟨m,F,a,b,e,q⟩:=j;obtain⟨k,l,e⟩:=Res.aA e;refine⟨m,F,k,b,l,λp s1=>?_⟩;cases k with
  |true=>exact j' ⟨m,F,a,b.same s1,e,q.back Run.refl (cX.same s1)⟩
  |false=>exact jZ ⟨m,F,a,b.same s1,e,q.back Run.refl (cX.same s1)⟩
theorem Oe {K:W.Frag}(c:∀a o,F.H0 a=some o->H a=some o)(e:∀a,H a=none->F.V a)(r:Rep K f (BG F H g) v d):Rep K f (BR F (jJ g)) v d:=by
 refine r.weak λa b=>?_;cases g with
 |fr=>
  cases a with
  |none=>exact b
  |some a=>exact Same.none c b
 |od=>exact dU.aN b
 |al=>exact b
 |nu=>
  cases a with
  |none=>exact b.elim id id
  |some a=>exact b.elim (λb=>Same.none c b) λb=>b.2.1
theorem Of (c:PE X e (tD X.K i)):PS X (.Return (some e) j) (tDS X.K λh=>i h>>=λx=>.ok (.rt (jJ x.1) x.2)):=PS.imp (z9 c) λD l H ⟨h,F,d,b,e,q⟩=>by obtain⟨x,f,e⟩:=Res.aA e;cases e;exact⟨h,F,x,b,f,λv k s1 g=>q v k (λa o e=>s1 a o (b.ext a o e)) (Oe b.ext b.aN g)⟩
theorem Slot.ret {K:W.Frag}(c:∀a i,F.O a=some i->F.H0 a=none/\F.V a)(h:Slot K F H i g v d):Rep K H (BR F (if imm d then .fr else jJ g)) v d:=by
 by_cases l:imm d=true
 ·rw[qt l];exact Rep.bE d l (h.rep λa i e=>(c a i e).2)
 ·rw[qu l];cases g with
  |fr=>
   obtain⟨p,e,o,h⟩:=h
   have j:∀a,Bin F a->BR F .fr a:=λa b=>by
    cases a with
    |none=>exact b
    |some a=>exact b.2.1
   rcases h with⟨m,k,rfl,f,r⟩|⟨m,k,rfl,f,r⟩
   ·exact⟨p,m,e,.inl ⟨f,(c _ _ o).1⟩,r.weak j⟩
   ·exact⟨p,m,e,f,(c _ _ o).1,aS.same (λ_ _ e=>e) j r⟩
  |od=>exact Rep.weak (λ_ b=>b.aN) h
  |al=>exact h
  |nu=>
   refine Rep.weak (λa b=>?_) h;cases a with
   |none=>exact b
   |some a=>exact b.2.1
theorem zfb {i:Nat}(hN:X.N[i]?=some x)(j:Vis X.env.scope x)(hd:Vx x)(c:(x==("__classdict__":Str))=false):
  PS X (.Return (some (.Name x p)) r) (tDS X.K λρ=>match ρ[i]? with|some (some (g,d))=>.ok (.rt (if imm d then .fr else jJ g) d)|_=>.no):=
 PS.imp (z9 (uI hN j hd c)) λD s H k=>by
  obtain⟨ρ,F,f,b,e,q⟩:=k;have e:(match ρ[i]? with|some (some (g,d))=>Res.ok (Out.rt (if imm d then .fr else jJ g) d)|_=>.no)=.ok f:=e;cases h:ρ[i]? with
  |none=>rw[h]at e;cases e
  |some o=>
   rw[h]at e;cases o with
   |none=>cases e
   |some l=>obtain⟨g,d⟩:=l;cases e;obtain⟨v,m,n⟩:=b.sl i g d h;exact⟨v,m,q v H b.ext (n.ret λa i e=>⟨(b.own a i e).1,(b.own a i e).2.1⟩)⟩
theorem Og (hs:lB e=false)(c:PE X e (tD X.K fa)):PS X (.Expr e pos) (tDS X.K λa=>fa a>>=λ_=>.ok (.nx a)):=PS.imp (oK c hs) λD d H ⟨a,F,f,so,e,q⟩=>by obtain⟨x,g,e⟩:=Res.aA e;cases e;exact⟨a,F,x,so,g,λv H1 b h=>q d H1 F (so.same b) Run.refl (cX.same b)⟩
theorem aS.bE {K:W.Frag}:∀{a:List (Key×V)} (c:aX),cU c=true->aS K H B a c->aS K H B' a c
 |a,[],_,r=>r
 |a,(kd,d)::c,i,r=>by unfold cU at i;rw[ci,bv]at i;obtain⟨k,v,t,e,b,ok,h,q⟩:=r;exact⟨k,v,t,e,b,ok,Rep.bE d i.1 h,aS.bE c i.2 q⟩
theorem StOk.fP {K:W.Frag}(b:StOk K F H σ ρ){a:Ad}(h:nw H a):Bin F a:=by
 cases a with
 |none=>exact h
 |some a=>
  refine⟨?_,Same.none b.ext h,b.aN a h⟩;cases c:F.O a with
  |none=>rfl
  |some j=>obtain⟨_,_,z⟩:=b.own a j c;rcases z with⟨d,z⟩|⟨d,z⟩<;>rw[h]at z<;>cases z
theorem StOk.BM {K:W.Frag}(a:StOk K F H k l)(r:Rep K H (Bin F) v d):StOk K (F.drop i) H (k.set i (some v)) (l.set i (some (.nu,d))):=by
 have z:=a.mF (i:=i) (x:=(.al,d)) (Rep.weak (λ_ b=>Bin.aN b) r);refine⟨z.ext,z.aN,z.own,by rw[cq,cq];exact a.len,λj g f e=>?_⟩;by_cases c:i=j
 ·subst c;rw[dg]at e;simp only[if_true]at e;split at e
  ·rename_i h;cases e;exact⟨v,by rw[dg];simp[a.len,h],Rep.weak (λ_ b=>b.drop) r⟩
  ·cases e
 ·refine z.sl j g f ?_;rw[b9 c]at e ⊢;exact e
def Fm.take (F:Fm)(i:Nat)(p:Addr):Fm:={F with O:=λa=>if a=p then some i else if F.O a=some i then none else F.O a}
theorem cX.drop (s:Same H b):cX F H (F.drop i) b:=λa o e n=>⟨s a o e,Fm.bO n⟩
theorem StOk.setA {K:W.Frag}(k:StOk K F H σ ρ)(s1:Same H H1)(r:Rep K H1 (BG F H x.1) v x.2):
  ∃f,StOk K f H1 (σ.set i (some v)) (ρ.set i (some (z1v x)))/\Run F f/\cX F H f H1:=by
 have s:=k.same s1;obtain⟨g,d⟩:=x
 have l:z1v (g,d)=z1d (if imm d then .al else FP g,d)->∃f,StOk K f H1 (σ.set i (some v)) (ρ.set i (some (z1v (g,d))))/\Run F f/\cX F H f H1:=λe=>by
  rw[e];refine⟨F.drop i,s.mF ?_,Run.of rfl rfl rfl,cX.drop s1⟩;by_cases hi:imm d=true
  ·rw[qt hi];exact Rep.bE d hi r
  ·rw[qu hi];cases g with
   |fr=>exact r.weak λ_ b=>nw.aN k.aN b
   |od=>exact r
   |al=>exact r
   |nu=>exact r.weak λ_ b=>b.elim (nw.aN k.aN) Bin.aN
 have w:z1v (g,d)=(.nu,d)->(∀a,BG F H g a->Bin F a)->∃f,StOk K f H1 (σ.set i (some v)) (ρ.set i (some (z1v (g,d))))/\Run F f/\cX F H f H1:=λe D=>by rw[e];exact⟨F.drop i,s.BM (Rep.weak D r),Run.of rfl rfl rfl,cX.drop s1⟩
 have own:∀(p:Addr),F.O p=none->H p=none->F.H0 p=none->F.V p->v=.ref p->z1v (g,d)=(.fr,d)->(∀f:Fm,(∀a,Bin F a\/nw H a->a≠some p->Bin f a)->f.O p=some i->Slot K f H1 i .fr v d)->(((∃E,H1 p=some (.lst E))\/∃y,H1 p=some (.dK y)))->
   ∃f,StOk K f H1 (σ.set i (some v)) (ρ.set i (some (z1v (g,d))))/\Run F f/\cX F H f H1:=λp R c S T ev es U G=>by
  have A:∀a,a≠p->(F.take i p).O a=(F.drop i).O a:=λa ha=>by show(if a=p then some i else _)=_;rw[qu ha];rfl
  have X:∀a,H a=none->F.O a=none:=λa e=>by
   cases B:F.O a with
   |none=>rfl
   |some j=>obtain⟨_,_,h⟩:=k.own a j B;rcases h with⟨E,h⟩|⟨E,h⟩<;>rw[e]at h<;>cases h
  have I:∀a,H a=none->F.H0 a=none:=λa e=>Same.none k.ext e
  have t:∀a,Bin F a\/nw H a->a≠some p->Bin (F.take i p) a:=λa b Y=>by
   cases a with
   |none=>exact b.elim id id
   |some a=>have q:a≠p:=λz=>Y (by rw[z]);have D:=b.elim id λb=>⟨X a b,I a b,k.aN a b⟩;exact⟨by rw[A a q];exact Fm.bO D.1,D.2⟩
  have J:(F.take i p).O p=some i:=by show(if p=p then some i else _)=_;rw[qt rfl]
  refine⟨F.take i p,⟨s.ext,s.aN,λa j e=>?_,by rw[cq,cq];exact k.len,λj Z d' e=>?_⟩,Run.of rfl rfl rfl,λa o e n=>⟨s1 a o e,?_⟩⟩
  ·by_cases q:a=p
   ·subst q;exact⟨S,T,G⟩
   ·rw[A a q]at e
    have e':F.O a=some j:=by
     have:(if F.O a=some i then none else F.O a)=some j:=e;split at this
     ·cases this
     ·exact this
    exact s.own a j e'
  ·by_cases hj:i=j
   ·subst hj;rw[dg]at e;simp only[if_true]at e;split at e
    ·rename_i hl;have B:z1v (g,d)=(Z,d'):=by simpa using e
     rw[es]at B;cases B;exact⟨v,by rw[dg];simp[k.len,hl],U _ t J⟩
    ·cases e
   ·rw[b9 hj]at e ⊢;obtain⟨u,h1,Q⟩:=k.sl j Z d' e;refine⟨u,h1,?_⟩;cases Z with
    |fr=>
     obtain⟨L,B,o1,h3⟩:=Q;have Oh:L≠p:=λz=>by rw[z,R]at o1;cases o1
     refine⟨L,B,?_,?_⟩
     ·rw[A L Oh];show(if F.O L=some i then none else F.O L)=some j;rw[o1,qu (λz=>hj (qv z).symm)]
     ·have M:∀(a:Ad),Bin F a/\¬nw H a->Bin (F.take i p) a:=λa b=>t a (.inl b.1) λz=>b.2 (z▸c);rcases h3 with⟨vs,C,e3,e2,r3⟩|⟨vs,C,e3,e2,r3⟩
      ·exact .inl ⟨vs,C,e3,s1 _ _ e2,Reps.same s1 M (Reps.there _ r3)⟩
      ·exact .inr ⟨vs,C,e3,s1 _ _ e2,aS.same s1 M (aS.there _ r3)⟩
    |od=>exact Rep.same s1 (λ_ b=>b) Q
    |al=>exact Rep.same s1 (λ_ b=>b) Q
    |nu=>exact Rep.same s1 (λa b=>t a (.inl b.1) λz=>b.2 (z▸c)) (Rep.there _ Q)
  ·have q:a≠p:=λz=>by rw[z,c]at e;cases e
   rw[A a q];exact Fm.bO n
 have N:∀p,H p=none->F.O p=none:=λp c=>by
  cases B:F.O p with
  |none=>rfl
  |some j=>obtain⟨_,_,P⟩:=k.own p j B;rcases P with⟨E,P⟩|⟨E,P⟩<;>rw[c]at P<;>cases P
 by_cases hi:imm d=true
 ·exact l (by show(if imm d then _ else _)=_;rw[qt hi];rw[qt hi];rfl)
 ·cases g with
  |od=>exact l (by delta z1v;simp only[qu hi];rfl)
  |al=>exact l (by delta z1v;simp only[qu hi];cases d<;>rfl)
  |nu=>exact w (by delta z1v;simp only[qu hi]) λa b=>b.elim k.fP id
  |fr=>
   cases d with
   |none=>exact absurd rfl hi
   |bool b=>exact absurd rfl hi
   |int b=>exact absurd rfl hi
   |str b=>exact absurd rfl hi
   |tuple C=>exact w (by delta z1v;simp only[qu hi]) λa b=>k.fP b
   |list C=>
    by_cases m:imms C=true
    ·obtain⟨p,vs,ev,h,rs⟩:=r;rcases h with⟨h,b⟩|⟨_,b⟩
     ·have c:H p=none:=b;exact own p (N p c) c (Same.none k.ext c) (k.aN p c) ev (by delta z1v;simp only[qu hi,qt m]) (λf D ho=>⟨p,ev,ho,.inl ⟨vs,C,rfl,h,Reps.bE C m rs⟩⟩) (.inl ⟨vs,h⟩)
     ·exact b.elim
    ·exact w (by delta z1v;simp only[qu hi,qu m]) λa b=>k.fP b
   |dict es=>
    by_cases m:cU es=true
    ·obtain⟨p,y,ev,h,b,rs⟩:=r;have c:=b;exact own p (N p c) c (Same.none k.ext c) (k.aN p c) ev (by delta z1v;simp only[qu hi,qt m]) (λf D ho=>⟨p,ev,ho,.inr ⟨y,es,rfl,h,aS.bE es m rs⟩⟩) (.inr ⟨y,h⟩)
    ·exact w (by delta z1v;simp only[qu hi,qu m]) λa b=>k.fP b
theorem Gx {K:W.Frag}{n:TE}(h:∀k H Q,tD K o k H Q->n k H Q)(D:Ends)(k:L2.St)(H:Hp)(q:tDS K (λl=>o l>>=λx=>.ok (.nx (l.set i (some (z1v x))))) D k H):n k H λv m=>D.nx (k.set i (some v)) m:=by obtain⟨l,F,c,b,e,q⟩:=q;obtain⟨x,d,e⟩:=Res.aA e;cases e;refine h k H _ ⟨l,F,x,b,d,λv m s1 g=>?_⟩;obtain⟨j,a,r,f⟩:=b.setA s1 g;exact q _ m j a r f
theorem zpu (hN:X.N.Nodup)(d:X.N[i]?=some x)(a:Loc X.env.scope x)(hf:X.fn x=true\/X.env.scope.names.lookup x=some .local)(hs:i7 e (some (.Name x px)) pos.line X.env=pure false)(b:PE X e (tD X.K f)):
  PS X (.Assign [.Name x px] e pos) (tDS X.K λc=>f c>>=λx=>.ok (.nx (c.set i (some (z1v x))))):=
 PS.imp (zjo hN d a b hs hf) λD g H q=>Gx (λ_ _ _ h=>h) D g H q
theorem zox (i:PG X w (tDG X.K (.tp is)))(j:PE X e (tD X.K B))(hs:ow [w] e A.line X.env=pure false)(k:ox [w] e X.env=pure none)(l:(d8 [w] X.env).map (·.2)=[pb w X.env]):
  PS X (.Assign [w] e A) (tDS X.K λy=>B y>>=λx=>fB (.tp is) x y>>=λd=>.ok (.nx d)):=
 PS.imp (zqr j i hs k l) λD E H m=>by obtain⟨y,F,p,f,e,q⟩:=m;obtain⟨x,r,e⟩:=Res.aA e;obtain⟨d,s,e⟩:=Res.aA e;cases e;refine⟨y,F,x,f,r,λv C s1 t=>⟨y,F,x,d,f.same s1,t.weak λ_ b=>BI.of f.aN b,s,λg u h c=>?_⟩⟩;exact q g C u h (Run.of c.h0 c.v c.z) λa o e n=>⟨s1 a o e,c.o a n⟩
theorem Oi {K:W.Frag}(c:StOk K F H j k)(h:okIn y=true)(r:Rep K f (BG F H y.1) u y.2):Rep K f (Bin F) u y.2:=by
 obtain⟨g,d⟩:=y;rcases d2.mp h with i|e
 ·exact Rep.bE d i r
 rcases d2.mp e with h|h
 ·cases eq_of_beq h;exact Rep.weak (λa b=>c.fP b) r
 ·cases eq_of_beq h;exact Rep.weak (λa b=>b.elim c.fP id) r
theorem StOk.mutate {K:W.Frag}(m:StOk K F H σ ρ)(B:F.O p=some i)(u:σ[i]?=some (some (.ref p)))(C:(∃q,t=.lst q)\/∃D,t=.dK D)
  (hs:Slot K F (upd H p t) i .fr (.ref p) P):StOk K F (upd H p t) σ ((ρ.set i (some (.fr,P))).map qD)/\cX F H F (upd H p t):=by
 obtain⟨h0,X,w⟩:=m.own p i B;have s:∀a,F.O a=none->a≠p:=λa e z=>by rw[z,B]at e;cases e
 have k:∀a o,H a=some o->Fix o->a≠p:=λa o e f z=>by subst z;rcases w with⟨q,h⟩|⟨q,h⟩<;>rw[e]at h<;>cases h<;>exact f
 have E:cX F H F (upd H p t):=λa o e n=>⟨by rw[aE (s a n)];exact e,n⟩;refine⟨⟨λa o e=>?_,λa e=>?_,λa j e=>?_,by rw[am,cq];exact m.len,λj g d e=>?_⟩,E⟩
 ·have c:a≠p:=λz=>by rw[z,h0]at e;cases e
  rw[aE c];exact m.ext a o e
 ·by_cases c:a=p
  ·subst c;exact X
  ·rw[aE c]at e;exact m.aN a e
 ·obtain⟨Y,Z,x3⟩:=m.own a j e;refine⟨Y,Z,?_⟩;by_cases c:a=p
  ·subst c;rw[bI];rcases C with⟨q,rfl⟩|⟨q,rfl⟩
   ·exact .inl ⟨q,rfl⟩
   ·exact .inr ⟨q,rfl⟩
  ·rw[aE c];exact x3
 ·rw[av]at e;by_cases Q:i=j
  ·subst Q;have hl:i<ρ.length:=by rw[<-m.len];exact(ba.mp u).1
   rw[dg]at e;simp only[if_true,hl]at e;have e1:qD (some (.fr,P))=some (g,d):=by simpa using e
   cases e1;exact⟨_,u,hs⟩
  ·rw[b9 Q]at e;cases I:ρ[j]? with
   |none=>rw[I]at e;cases e
   |some sl=>
    rw[I]at e;have l:qD sl=some (g,d):=by simpa using e
    cases sl with
    |none=>cases l
    |some gd=>
     obtain⟨R,J⟩:=gd;obtain⟨v,h1,A⟩:=m.sl j R J I;refine⟨v,h1,?_⟩;cases R with
     |fr=>
      cases l;obtain⟨S,e4,T,h3⟩:=A;have x:S≠p:=λz=>by rw[z,B]at T;simp_all
      have hk:∀a o,H a=some o->(Bin F (some a)\/Fix o)->upd H p t a=some o:=λa o e b=>by have:a≠p:=b.elim (λb=>s a b.1) λf=>k a o e f;rw[aE this];exact e
      refine⟨S,e4,T,?_⟩;rcases h3 with⟨vs,y,L,M,r⟩|⟨vs,y,L,M,r⟩
      ·exact .inl ⟨vs,y,L,by rw[aE x];exact M,Reps.keep hk (λ_ z=>z) y r⟩
      ·exact .inr ⟨vs,y,L,by rw[aE x];exact M,aS.keep hk (λ_ z=>z) y r⟩
     |od=>cases l;exact Rep.keep (λa o e b=>by have:a≠p:=b.elim (λb z=>by have U:F.H0 a≠none/\F.V a:=b;rw[z]at U;exact U.1 h0) λf=>k a o e f;rw[aE this];exact e) (λ_ z=>z) _ A
     |nu=>cases l;exact Rep.keep (λa o e b=>by have:a≠p:=b.elim (λb=>s a b.1) λf=>k a o e f;rw[aE this];exact e) (λ_ z=>z) _ A
     |al=>
      change(if imm J then some (G.al,J)else none)=_ at l;split at l
      ·rename_i N;cases l;exact Rep.iQ (λa o e f=>by rw[aE (k a o e f)];exact e) _ N A
      ·cases l
theorem Oj {K:W.Frag}(c:StOk K F H k l)(e:l[i]?=some (some (.fr,d))):∃p,k[i]?=some (some (.ref p))/\F.O p=some i/\((∃g b,d=.list b/\H p=some (.lst g)/\Reps K H (Bin F) g b)\/(∃a j,d=.dict j/\H p=some (.dK a)/\aS K H (Bin F) a j)):=by obtain⟨v,f,p,rfl,o,h⟩:=c.sl i .fr d e;exact⟨p,f,o,h⟩
def BN (m:String)(i:Nat)(fs:Rho->Res (List GD)):Rho->Res Out:=λρ=>fs ρ>>=λys=>match ρ[i]? with
 |some (some (.fr,.list xs))=>lZ m xs ys>>=λA9=>.ok (.nx ((ρ.set i (some (.fr,.list A9))).map qD))
 |_=>.no
theorem zgr {fs:Rho->Res (List GD)}(hN:X.N[i]?=some x)(I:Vis X.env.scope x)(hd:Vx x)(l:(x==("__classdict__":Str))=false)(J:PA X (e::es) (tDA X.K fs))(g:((e::es).all fun e=>!isStar e)=true)(L:(e::es).length<20)(d:(M.endLine==P.line)=true):
  PS X (.Expr (.Call (.Attribute (.Name x p) "append" M) (e::es) [] P) pos) (tDS X.K (BN "append" i fs)):=by
 have c:=g;rw[ci,bv]at c;refine PS.imp (oK (zmn PySem.F.plainAttrs_list PySem.F.slot_list_append PySem.F.type_list_append Aw (uI hN I hd l) J rfl (zai g L) d (eS (by simpa using c.1)) (kZ c.2)) rfl) λD σ H Q=>?_;obtain⟨ρ,F,R,j,e,q⟩:=Q;obtain⟨S,T,e⟩:=Res.aA e;split at e
 ·rename_i w U;obtain⟨V,f,e⟩:=Res.aA e;cases e;obtain⟨k,A,m,h⟩:=Oj j U;rcases h with⟨vs,ds,n,B,r⟩|⟨_,_,n,_⟩
  ·cases n;refine⟨_,A,.inl ⟨rfl,vs,SqL.of B⟩,ρ,F,S,j,T,λus H1 s1 rs=>?_⟩;simp only[lZ,if_true]at f;split at f
   ·rename_i y;split at f
    case isFalse=>cases f
    rename_i C;cases f;rw[ar,decide_eq_true_iff]at C;obtain⟨u,rfl,W⟩:=rs.one;have s:=j.same s1;have E:=s1 _ _ B;refine⟨k,vs,u,rfl,rfl,E,mE (by rw[r.length];omega),?_⟩
    have Y:Reps X.K (upd H1 k (.lst (vs++[u]))) (Bin F) (vs++[u]) (w++[y.2]):=by
     have Z:Reps X.K H1 (Bin F) (vs++[u]) (w++[y.2]):=Reps.append (r.same s1 λ_ z=>z) ⟨u,[],rfl,Oi j C.1 W,rfl⟩;refine Reps.keep (λa o e b=>?_) (λ_ z=>z) _ Z
     have t:a≠k:=by
      intro z;subst z;rcases b with b|b
      ·have G:F.O a=none:=b.1;rw[m]at G;cases G
      ·rw[E]at e;cases e;exact b
     rw[aE t];exact e
    obtain⟨v,f2⟩:=s.mutate m A (.inl ⟨_,rfl⟩) ⟨k,rfl,m,.inl ⟨_,_,rfl,bI,Y⟩⟩;exact q σ _ F v Run.refl ((cX.same s1).trans f2)
   ·cases f
  ·cases n
 ·cases e
end
theorem StOk.eZ {K:W.Frag}{F:Fm}{H:Hp}{s:L2.St}{f:Rho}(so:StOk K F H s f)(j:Nat):StOk K (F.drop j) H s (f.set j (vt (f.getD j none))):=by
 refine⟨so.ext,so.aN,λa i e=>?_,by rw[cq];exact so.len,λi g d e=>?_⟩
 ·have x:F.O a=some i:=by
   have e:(if F.O a=some j then none else F.O a)=some i:=e;split at e
   ·cases e
   ·exact e
  exact so.own a i x
 ·by_cases l:j=i
  ·subst l;rw[dg]at e;simp only[if_true]at e;split at e
   ·rename_i y;cases t:f[j]? with
    |none=>exact absurd y (by grind)
    |some sl=>
     have k:vt sl=some (g,d):=by
      have:f.getD j none=sl:=by rw[ac,t];rfl
      rw[this]at e;exact qv e
     cases sl with
     |none=>cases k
     |some gd=>
      obtain⟨u,d0⟩:=gd;obtain⟨v,m,c⟩:=so.sl j u d0 t;refine⟨v,m,?_⟩;cases u with
      |fr=>
       cases k;obtain⟨p,rfl,o,h⟩:=c;obtain⟨o1,A,_⟩:=so.own p j o;have w:Bin (F.drop j) (some p):=⟨by show(if F.O p=some j then none else F.O p)=none;rw[qt o],o1,A⟩;rcases h with⟨n,B,rfl,q,r⟩|⟨n,B,rfl,q,r⟩
       ·exact⟨p,n,rfl,.inl ⟨q,w⟩,r.weak λ_ b=>b.drop⟩
       ·exact⟨p,n,rfl,q,w,aS.same (λ_ _ e=>e) (λ_ b=>b.drop) r⟩
      |od=>cases k;exact c
      |al=>cases k;exact c
      |nu=>cases k;exact Rep.weak (λ_ b=>b.drop) c
   ·cases e
  ·rw[b9 l]at e;obtain⟨v,m,c⟩:=so.sl i g d e;exact⟨v,m,c.drop λz=>l z.symm⟩
theorem BO (k c:Key):eqK (kD c) (kD k)=decide (c=k):=by
 cases c<;>cases k
 ·rename_i a b;show(a==b)=_;rw[j4,decide_eq_decide];exact⟨λh=>by rw[h],λh=>Sum.inl.inj h⟩
 ·rfl
 ·rfl
 ·rename_i a b;show decide (a=b)=_;rw[decide_eq_decide];exact⟨λh=>by rw[h],λh=>Sum.inr.inj h⟩
theorem aS.any {K:W.Frag}(k:Key):∀{kvs:List (Key×V)} {es:aX},aS K H B kvs es->(es.any λe=>eqK e.1 (kD k))=kvs.any λa=>decide (a.1=k)
 |kvs,[],r=>by have e:kvs=[]:=r;subst e;rfl
 |kvs,(kd,d)::es,r=>by obtain⟨c,v,t,e,b,_,_,q⟩:=r;subst e b;rw[gz,gz,q.any k,BO]
theorem aS.mH {K:W.Frag}(k:Key)(h:Rep K H B v d):∀{kvs:List (Key×V)} {es:aX},aS K H B kvs es->aS K H B (kvs.map λa=>if a.1=k then(a.1,v)else a) (es.map λe=>if eqK e.1 (kD k)then(e.1,d)else e)
 |kvs,[],r=>by have e:kvs=[]:=r;subst e;exact rfl
 |kvs,(kd,d0)::es,r=>by
  obtain⟨b,f,t,e,g,ok,h0,q⟩:=r;subst e g;rw[bn,bn];have c:=q.mH k h;by_cases z:b=k
  ·subst z;rw[qt rfl,qt (by rw[BO];simp)];exact⟨b,v,_,rfl,rfl,ok,h,c⟩
  ·rw[qu z,qu (by rw[BO];simpa using z)];exact⟨b,f,_,rfl,rfl,ok,h0,c⟩
theorem aS.app {K:W.Frag}(ok:keyOk k)(h:Rep K H B v d):∀{kvs:List (Key×V)} {es:aX},aS K H B kvs es->aS K H B (kvs++[(k,v)]) (es++[(kD k,d)])
 |kvs,[],r=>by have e:kvs=[]:=r;subst e;exact⟨k,v,[],rfl,rfl,ok,h,rfl⟩
 |kvs,(kd,d0)::es,r=>by obtain⟨b,c,t,e,f,a,h0,q⟩:=r;subst e f;exact⟨b,c,_,rfl,rfl,a,h0,q.app ok h⟩
theorem aS.put {K:W.Frag}(ok:keyOk k)(h:Rep K H B v d){es:aX}(r:aS K H B kvs es):aS K H B (putK kvs k v) (dput es (kD k) d):=by
 unfold putK dput;rw[r.any k];split
 ·exact r.mH k h
 ·exact r.app ok h
def vO (td ty tv:TE):TS:=λD σ H=>tv σ H λv H1=>td σ H1 λx H2=>ty σ H2 λy H3=>(∃a H4,x=.ref a/\DPut H3 a y v H4/\D.nx σ H4)\/Fy x y v H3 λH4=>D.nx σ H4
theorem Ol (hu:X.A.units+1<cLine)(m:PE X o n)(O:PE X i ty)(p:PE X value tv)(hs:i7 value (some (.Subscript o i b)) N.line X.env=pure false):PS X (.Assign [.Subscript o i b] value N) (vO n ty tv):=by
 intro L s M H D I h;refine wpAny_Assign_Subscript (aI (p L s M H _ I h) λr s1 ⟨v,P,q,f,t⟩=>aI (m L s1 M P _ q t) λu w ⟨x,z,B,j,C⟩=>aI (O L w M z _ B C) ?_) hs
 rintro E F ⟨y,G,k,l,c⟩
 rcases c with⟨a,d,ex,g,c⟩|c
 ·subst ex;obtain rfl:u=Value.ref a:=j;exact zfj hu k g l f λJ e=>⟨M,d,e,c⟩
 ·exact aI (set_list L F M G x y v u E r _ k j l f c) λ_ J ⟨d,e,K⟩=>⟨M,d,e,K⟩
def tDF (K:W.Frag)(f:Rho->Res (G×List D×Rho)):TI:=λσ H R=>∃ρ F w,StOk K F H σ ρ/\f ρ=.ok w/\∀J B H' F',Same H H'->Run F F'->cX F H F' H'->StOk K F' H' σ w.2.2->(∀a,B (some a)->F'.O a=none)->(∀a,B a->BI F' w.1 a)->Walk K J B H' w.2.1->R J H'
theorem BP {K:W.Frag}(f:StOk K F H k l){a:Addr}(i:g≠.al)(h:BG F H g (some a)):F.O a=none:=by
 cases d:F.O a with
 |none=>rfl
 |some j=>
  obtain⟨h0,_,b⟩:=f.own a j d;cases g with
  |fr=>have c:=h;rcases b with⟨e,b⟩|⟨e,b⟩<;>rw[c]at b<;>cases b
  |od=>exact absurd h0 h.1
  |al=>exact absurd rfl i
  |nu=>
   rcases h with h|h
   ·have c:H a=none:=h;rcases b with⟨e,b⟩|⟨e,b⟩<;>rw[c]at b<;>cases b
   ·have c:F.O a=none:=h.1;rw[c]at d;cases d
theorem Gy (i:PI X j e (tDW X.K k)):PI X j e (tDF X.K λo=>k o>>=λw=>if w.1==.al then .no else .ok (w.1,w.2,o)):=
 PI.imp i λr H R l=>by
  obtain⟨o,F,w,d,e,q⟩:=l;obtain⟨g,m,e⟩:=Res.aA e;refine⟨o,F,g,d,m,λJ B p s1 h n=>?_⟩;split at e
  ·cases e
  ·rename_i f;cases e;have c:g.1≠.al:=λz=>f (by rw[z];rfl);exact q J B p F s1 Run.refl (cX.same s1) (d.same s1) (λa b=>BP d c (h _ b).1) (λa b=>BI.of d.aN (h a b).1) n
theorem StOk.giveUp {K:W.Frag}(a:StOk K F H h k)(e:k[i]?=some (some (.fr,d))):StOk K (F.drop i) H h (k.set i (some (.al,d))):=by
 obtain⟨v,b,f⟩:=a.sl i .fr d e;have:=a.mF (i:=i) (x:=(.al,d)) (f.rep a.iR)
 have l:h.set i (some v)=h:=by
  apply er;intro j;by_cases c:i=j
  ·subst c;rw[dg];have g:=(ba.mp b).1;simp only[if_true,g];exact b.symm
  ·rw[b9 c]
 rw[l]at this;exact this
theorem Om (hN:X.N[i]?=some x)(t:Vis X.env.scope x)(hd:Vx x)(f:(x==("__classdict__":Str))=false):PI X T (.Name x pos) (tDF X.K (A7 i)):=by
 intro W s σ H R I h;obtain⟨ρ,F,w,g,e,q⟩:=h;unfold A7 at e;split at e
 ·rename_i d l;obtain⟨U,z,e⟩:=Res.aA e;cases e;obtain⟨v,A,C⟩:=g.sl i .fr d l;refine aI (uI hN t hd f W s σ H (λu Y=>u=v/\Y=H) I ⟨v,A,rfl,rfl⟩) λu s1 D=>?_;obtain⟨y,Y,E,G,c,L⟩:=D;subst c L;have j:=g.giveUp l
  let B:Ad->Prop:=λa=>match a with|some a=>(F.drop i).O a=none/\F.V a|none=>False
  have M:Rep X.K Y B y d:=by
   obtain⟨p,c,m,P⟩:=C
   have n:∀a,Bin F a->B a:=λa b=>by
    cases a with
    |none=>exact b
    |some a=>exact⟨Fm.bO b.1,b.2.2⟩
   have o:B (some p):=⟨by show(if F.O p=some i then none else F.O p)=none;rw[qt m],g.iR p i m⟩;rcases P with⟨Z,Q,rfl,k,r⟩|⟨Z,Q,rfl,k,r⟩
   ·exact⟨p,Z,c,.inl ⟨k,o⟩,r.weak n⟩
   ·exact⟨p,Z,c,k,o,aS.same (λ_ _ e=>e) n r⟩
  refine z2u E G M z λJ S=>q J B Y (F.drop i) (Same.refl _) (Run.of rfl rfl rfl) (cX.drop (Same.refl _)) j (λa b=>b.1) (λa b=>?_) S;cases a with
  |none=>exact b.elim
  |some a=>exact b.2
 ·cases e
def Fm.mI (F:Fm)(H:Hp):Fm:={F with O:=λa=>match H a with|some (.dK _)=>F.O a|_=>none}
theorem Fm.gY {F:Fm}{a:Addr}(h:F.O a=none):(F.mI H).O a=none:=by
 unfold Fm.mI
 dsimp only
 split<;>first|exact h|rfl
theorem StOk.mI {K:W.Frag}(f:StOk K F H σ B):StOk K (F.mI H) H σ (B.map A8) where
 ext:=f.ext
 aN:=f.aN
 own:=λa i e=>by
  have c:F.O a=some i:=by
   unfold Fm.mI at e
   dsimp only at e
   split at e
   ·exact e
   ·cases e
  exact f.own a i c
 len:=by rw[am];exact f.len
 sl:=λi g d e=>by
  rw[av]at e;cases j:B[i]? with
  |none=>rw[j]at e;cases e
  |some o=>
   rw[j]at e;have c:A8 o=some (g,d):=by simpa using e
   cases o with
   |none=>cases c
   |some s=>
    obtain⟨n,t⟩:=s;obtain⟨v,u,h⟩:=f.sl i n t j;refine⟨v,u,?_⟩
    have q:∀a,Bin F a->Bin (F.mI H) a:=λa b=>by
     cases a with
     |none=>exact b
     |some a=>exact⟨Fm.gY b.1,b.2.1,b.2.2⟩
    cases n with
    |od=>cases c;exact h
    |al=>cases c;exact h
    |nu=>cases c;exact Rep.weak q h
    |fr=>
     obtain⟨p,ev,w,x⟩:=id h;rcases x with⟨D,y,rfl,k,r⟩|⟨l,C,rfl,k,r⟩
     ·have m:some (G.al,PyData.list y)=some (g,d):=c;cases m;have A:=Slot.rep f.iR h;exact A
     ·have m:some (G.fr,PyData.dict C)=some (g,d):=c;cases m;refine⟨p,ev,?_,.inr ⟨l,C,rfl,k,aS.same (λ_ _ z=>z) q r⟩⟩;unfold Fm.mI
      dsimp only
      rw[k];exact w
theorem BQ (t:PE X e (tD X.K Q)):PI X L e (tDF X.K λP=>Q P>>=λx=>oR x P):=by
 intro N s S H R I h;obtain⟨P,F,w,i,c,q⟩:=h;obtain⟨x,u,c⟩:=Res.aA c;obtain⟨g,d⟩:=x;unfold oR at c
 dsimp only at c
 split at c
 ·rename_i j;split at c
  ·rename_i T;cases c;refine aI (t N s S H (λv M=>Same H M/\Rep X.K M (BG F H g) v (.list j)) I ⟨P,F,_,i,u,λv M s1 k=>⟨s1,k⟩⟩) λv s1 A=>?_;obtain⟨y,M,C,D,f,k⟩:=A;have l:=(i.same f).mI
   let B:Ad->Prop:=λa=>match a with|some a=>(F.mI M).O a=none/\F.V a|none=>F.z
   have m:Rep X.K M B y (.list j):=by
    obtain⟨p,U,E,h,r⟩:=k;refine⟨p,U,E,?_,Reps.bE j T r⟩;rcases h with⟨h,b⟩|⟨h,b⟩
    ·refine .inl ⟨h,?_,(BG.aN i.aN b:bY F (some p))⟩;unfold Fm.mI
     dsimp only
     rw[h]
    ·exact .inr ⟨h,(BG.aN i.aN b:bY F none)⟩
   refine z2u C D m rfl λJ G=>q J B M (F.mI M) f (Run.of rfl rfl rfl) (λa o e n=>⟨f a o e,Fm.gY n⟩) l (λa b=>b.1) (λa b=>?_) G;cases a with
   |none=>exact b
   |some a=>exact b.2
  ·cases c
 ·cases c
theorem PI.Gz {k:Rho->Bool}(hf:PI X a e (tDF X.K f))(c:PI X a e (tDF X.K g)):PI X a e (tDF X.K λi=>if k i then f i else g i):=by
 intro d s j H R I h;obtain⟨i,F,w,b,e,q⟩:=h
 dsimp only at e
 cases hk:k i with
 |true=>exact hf d s j H R I ⟨i,F,w,b,by rw[qt hk]at e;exact e,q⟩
 |false=>exact c d s j H R I ⟨i,F,w,b,by rw[qu (hk▸dr)]at e;exact e,q⟩
theorem zu4 (hp:ez (model X.prog X.w) X.A X.env X.xe)(hc:X.calm=true)(L:PI X tg iter (tDF X.K fw))(hg:PG X tg (tDG X.K t))(hb:PSs X M (tDS X.K fs))(hs:∀x,e6 iter X.env x=pure x):
  PS X (.For tg iter M [] pos) (tDS X.K λU=>fw U>>=λw=>cZ (λx E=>fB t (gJ x w.1,x) E>>=λc=>fs c) w.2.1 w.2.2):=
 PS.imp (zea hp hc L hg hb hs) λD σ H ⟨U,F,Y,so,e,q⟩=>by
  obtain⟨w,e1,e⟩:=Res.aA e;refine⟨U,F,w,so,e1,λJ B H1 k s1 r1 f1 N Oq Ot wk=>?_⟩;have q1:=q.back r1 f1;generalize hf:(λx E=>fB t (gJ x w.1,x) E>>=λc=>fs c)=f at e
  have kp:∀{l:Fm} {r:Hp},cX k H1 l r->Kp B H1 r:=λ{l r} fr a o e b=>by
   have hO:k.O a=none:=by
    rcases b with b|b
    ·exact Oq a b
    ·cases h:k.O a with
     |none=>rfl
     |some j=>obtain⟨_,_,P⟩:=N.own a j h;rcases P with⟨xs,P⟩|⟨xs,P⟩<;>rw[e]at P<;>cases P<;>exact b.elim
   exact(fr a o e hO).1
  let W:Nat->Nat->L2.St->Hp->Prop:=λi m G r=>m=w.2.1.length-i/\i<=w.2.1.length/\∃c l,StOk X.K l r G c/\Run k l/\cX k H1 l r/\cZ f (w.2.1.drop i) c=.ok Y
  refine⟨W,⟨_,rfl,db _,w.2.2,k,N,Run.refl,cX.refl,e⟩,?_⟩
  rintro i m G r ⟨rfl,BS,c,l,Q,I,R,h⟩
  by_cases s:i<w.2.1.length
  ·refine .inr ⟨wk.go r (kp R) i s,W (i+1) (w.2.1.length-(i+1)),λbR H' p=>⟨_,by omega,p⟩,λx H3 y=>?_⟩;obtain⟨s3,d,hd,rx⟩:=wk.gO r (kp R) i x H3 s y
   have BU:w.2.1.drop i=d::w.2.1.drop (i+1):=by
    rw[ja s];have:w.2.1[i]=d:=by rw[ah s]at hd;simp_all
    rw[this]
   rw[BU]at h;simp only[cZ]at h
   have BJ:Rep X.K H3 (BI l (gJ d w.1)) x d:=by
    have Ou:∀g a,BI k g a->BI l g a:=λg a b=>by cases g<;>cases a<;>first|exact b|(have C:k.V _:=b;rw[<-I.2.1]at C;exact C)|(have C:k.z:=b;rw[<-I.2.2]at C;exact C)|(have C:k.H0 _≠none/\k.V _:=b;exact⟨λz=>C.1 (none_of I.1 z),by rw[I.2.1];exact C.2⟩)
    unfold gJ;by_cases L:imm d=true
    ·rw[qt L];exact Rep.bE d L rx
    ·rw[qu L];exact rx.weak λa b=>Ou _ _ (Ot a b)
   cases T:f d c with
   |no=>rw[T]at h;cases h
   |exc z=>rw[T]at h;cases h
   |ok o1=>
    obtain⟨S,e4,e5⟩:=Res.aA (by rw[<-T,<-hf]);rw[T]at h;refine⟨c,l,(gJ d w.1,d),S,Q.same s3,BJ,e4,λkA F4 yC u=>⟨S,F4,o1,yC,e5,?_⟩⟩;have r4:=I.trans (Run.of u.h0 u.v u.z);have f4:=R.trans λa o e n=>⟨s3 a o e,u.o a n⟩;cases o1 with
    |nx Ov=>exact λbR H' F' Ow r' f'=>⟨rfl,s,Ov,F',Ow,r4.trans r',f4.trans f',h⟩
    |rt g d=>cases h;exact(q1.back r4 f4:vN X.K F4 H3 D (.rt g d))
  ·have sG:i=w.2.1.length:=by omega
   subst sG;rw[l9]at h;cases h;exact .inl ⟨wk.stop r (kp R),q1 G r l Q I R⟩
def rAgg (K:W.Frag)(f:String):List V->Hp->VK->Prop:=λxs H Q=>∃B x dx l ys d,xs=[x]/\Rep K H B x dx/\z58 dx=.ok (l,ys)/\aggD f l ys=.ok d/\∀w H',Same H H'->Rep K H' (λa=>nw H a\/(imms ys=false/\B a)) w d->Q w H'
theorem yD {K:W.Frag}(r:Rep K H B x d)(e:z58 d=.ok (l,b)):∃a c,x=.ref a/\(if l then SqL K H a c else cA K H a c)/\Reps K H B c b:=by
 cases d<;>try (cases e;done)
 ·cases e;obtain⟨a,c,rfl,h,q⟩:=lG r;exact⟨a,c,rfl,h,q⟩
 ·cases e;obtain⟨a,c,rfl,h,q⟩:=r;exact⟨a,c,rfl,h,q⟩
theorem Reps.mJ {K:W.Frag}(r:Reps K H B c b):Reps K H (λa=>nw H a\/(imms b=false/\B a)) c b:=by
 cases d:imms b with
 |true=>exact Reps.bE b d r
 |false=>exact r.weak λ_ z=>.inr ⟨rfl,z⟩
section
variable {X:Cx}{e:Expr}{fa:Rho->Res GD}
theorem ziv (c:StOk X.K F H u t)(e:((fa t>>=fun x=>z58 x.2>>=fun p=>Res.ok (x.1,p))>>=fun w=>aggD f w.2.1 w.2.2>>=fun d=>Res.ok ((gJ d (if imms w.2.2 then .fr else agG w.1),d):GD))=.ok z)(q:∀v s,Same H s->Rep X.K s (BG F H z.1) v z.2->Q v s):
  jX (rAgg X.K f) (lT (tD X.K fa) eE) u H Q:=by
 obtain⟨w,b,e⟩:=Res.aA e;obtain⟨x,j,b⟩:=Res.aA b;obtain⟨p,k,b⟩:=Res.aA b;cases b;obtain⟨d,l,e⟩:=Res.aA e;cases e;refine⟨t,F,x,c,j,λv A s1 m=>⟨_,v,x.2,p.1,p.2,d,rfl,m,k,l,λn o r g=>q n o (s1.trans r) (qJ g λa h=>?_)⟩⟩;cases y:imms p.2 with
 |true=>
  rcases h with h|⟨h,_⟩
  ·exact nw.back s1 h
  ·rw[y]at h;cases h
 |false=>
  have al:bY F a:=by
   rcases h with h|⟨_,h⟩
   ·exact(nw.back s1 h).aN c.aN
   ·exact h.aN c.aN
  cases i:x.1 with
  |fr=>
   rcases h with h|⟨_,h⟩
   ·exact nw.back s1 h
   ·rw[i]at h;exact h
  |od=>exact al
  |al=>exact al
  |nu=>
   rcases h with h|⟨_,h⟩
   ·exact .inl (nw.back s1 h)
   ·rw[i]at h;exact h
theorem Ox:CallR X (.type "list") (rAgg X.K "list"):=by
 refine CallR.imp Mh λg H Q h=>?_;obtain⟨B,x,k,l,i,d,rfl,r,e,c,q⟩:=h;obtain⟨a,j,rfl,h,rs⟩:=yD r e;cases c
 have f:SqL X.K H a j\/cA X.K H a j:=by
  cases l with
  |true=>exact .inl h
  |false=>exact .inr h
 refine⟨a,j,rfl,f,λp b=>q _ _ (Same.upd b) (qL b rs.mJ (λ_ z=>z) (.inl b))⟩
theorem Oy:CallR X (.type "tuple") (rAgg X.K "tuple"):=by
 refine CallR.imp Mj λf H Q h=>?_;obtain⟨B,x,j,l,g,d,rfl,r,e,c,q⟩:=h;obtain⟨a,i,rfl,h,rs⟩:=yD r e;cases c;refine⟨a,i,rfl,?_⟩;cases l with
 |true=>exact .inl ⟨h,λp b=>q _ _ (Same.upd b) (yu b rs.mJ λ_ z=>z)⟩
 |false=>exact .inr ⟨h,q _ H (Same.refl H) ⟨a,i,rfl,h,rs.mJ⟩⟩
theorem zj6 (b:CallR X (.type f) (rAgg X.K f))(hm:X.mg x=none)(c:c7 x=some (.type f))(hs:isStar y=false)(g:PE X y (tD X.K fa))(h:Gl X x)(hn:x≠"__name__")(a:Vx x):
  PE X (.Call (.Name x p) [y] [] k) (tD X.K λj=>(fa j>>=λx=>z58 x.2>>=λp=>Res.ok (x.1,p))>>=λw=>aggD f w.2.1 w.2.2>>=λd=>.ok (gJ d (if imms w.2.2 then .fr else agG w.1),d)):=
 PE.imp (vf b hm c (dQ g jF hs) (by simp[hs]) h hn a) λl H Q ⟨j,F,z,i,e,q⟩=>ziv i e q
theorem znl (b:CallR X (.builtin f) (rAgg X.K f))(hm:X.mg x=none)(c:c7 x=some (.builtin f))(hs:isStar y=false)(g:PE X y (tD X.K fa))(h:Gl X x)(hn:x≠"__name__")(a:Vx x):
  PE X (.Call (.Name x p) [y] [] k) (tD X.K λj=>(fa j>>=λx=>z58 x.2>>=λp=>Res.ok (x.1,p))>>=λw=>aggD f w.2.1 w.2.2>>=λd=>.ok (gJ d (if imms w.2.2 then .fr else agG w.1),d)):=
 PE.imp (yj b hm c (dQ g jF hs) (by simp[hs]) h hn a) λl H Q ⟨j,F,z,i,e,q⟩=>ziv i e q
end
structure NoKeys (T id:String):Prop where
 own:PySem.Slot T "__getattribute__" id
 entry:entryFor table id=some Builtin.«object.__getattribute__»
 two:∀a b:Value,argsOk id {pos:=[a,b]}
 rest:typeLookup (.type T) "__getattr__"=pure none
 miss:∀(a:Addr) (xs:Array Value) (k:Nat) (sl:Array (Option Value)) (u:Tok),Meets (Builtin.«object.__getattribute__» {pos:=[.ref a,.str "keys" u]}) λA R s=>s.heap.get? a=some {cls:=.type T,data:=.seq xs k,slots:=sl}/\raisesAttr (.ref a) "keys" A R s
theorem Oz:NoKeys "list" "list.__getattribute__" where
 own:=F.slot_list_getattribute
 entry:=am_entry_list_getattribute
 two:=F.args_list_getattribute_2
 rest:=am_list_getattr_none
 miss:=λa b k sl u=>meets_getattribute_miss_list a b k sl "keys" u (by rw[typeLookup_type,builtinLookup_eq_fast];kernel_rfl) dc (by size_fits)
theorem OA:NoKeys "tuple" "tuple.__getattribute__" where
 own:=F.slot_tuple_getattribute
 entry:=am_entry_tuple_getattribute
 two:=F.args_tuple_getattribute_2
 rest:=am_tuple_getattr_none
 miss:=λa b k sl u=>meets_getattribute_miss_tuple a b k sl "keys" u (by rw[typeLookup_type];kernel_rfl) dc (by size_fits)
theorem NoKeys.ask {T id:String}(N:NoKeys T id){prog:cj}{w:World}{A:fk}{E:Value->az->Prop}{s:az}{a:Addr}{o:Obj}{i:Array Value}{k:Nat}{Q:Option Value->az->Prop}
  (j:s.heap.get? a=some o) (m:o.cls=.type T) (d:o.data=.seq i k) (hd:o.dict=none) (n:A.handled=none)
  (h:∀l p e,o5 s.heap l e "AttributeError"->Q none {s with heap:=l,toks:=p}):
  wpAny (model prog w) A (p5 (.ref a) "keys") Q E s:=by
 cases o;cases m;cases d;cases hd;cases s;rename_i b heap f c toks os;have ty:∀t,(⟨heap,f,c,t,os⟩:az).TypeIs (.ref a) T:=λt=>⟨_,j,rfl⟩;have q:=sub_AttributeError;have n1:=N.own.lookup;have n2:=N.own.bind (.ref a);have n3:=N.rest
 delta p5 getAttrBy? getAttrBy
 repeat' (first|assumption|exact ty _|(apply call_meets N.own (ty _) N.entry (N.two _ _) (N.miss a i k b _))|wp_step)
 refine⟨j,n,λr u ex nx=>?_⟩;obtain⟨v,x,there⟩:=nx.there;have g:=λt=>h _ t _ nx.of
 dsimp only[wants]
 delta getattributeRaised
 repeat' (first|assumption|apply g|wp_step)
theorem OB
 (d:s.heap.get? a=some o) (f:o.cls=.type "list") (b:o.data=.seq j k) (hd:o.dict=none) (g:A.handled=none) (h:∀c i e,o5 s.heap c e "AttributeError"->Q none {s with heap:=c,toks:=i}):
 wpAny (model prog w) A (p5 (.ref a) "keys") Q E s:=Oz.ask d f b hd g h
theorem OC
 (d:s.heap.get? a=some o) (f:o.cls=.type "tuple") (b:o.data=.seq j k) (hd:o.dict=none) (g:A.handled=none) (h:∀c i e,o5 s.heap c e "AttributeError"->Q none {s with heap:=c,toks:=i}):
 wpAny (model prog w) A (p5 (.ref a) "keys") Q E s:=OA.ask d f b hd g h
abbrev tX (X:Cx)(A:fk)(E:Value->az->Prop):Cx:={X with A:=A,xe:=E}
theorem _root_.L2.Inv.tX (I:Inv X a b H s)(hd:A.handled=X.A.handled)(hf:A.frames=X.A.frames):Inv (tX X A E) a b H s:=⟨⟨I.ok.mod,I.ok.kind,I.ok.glob,I.ok.blt,I.ok.above,I.ok.inj,I.ok.has,I.ok.oE,λz=>hd.trans (I.ok.hd z),hf.trans I.ok.frames,I.ok.pW,I.ok.iJ,I.ok.bs,I.ok.iK,I.ok.fV,I.ok.fW,I.ok.bZ,I.ok.lQ,I.ok.tQ⟩,I.os,I.bare,I.base,I.loc,I.cell,I.free,I.aW,I.pin,I.hok,I.len,I.fx⟩
theorem _root_.L2.Inv.BV (ok:X.Ok)(I:Inv (tX X A E) a b H s):Inv X a b H s:=⟨ok,I.os,I.bare,I.base,I.loc,I.cell,I.free,I.aW,I.pin,I.hok,I.len,I.fx⟩
namespace F
theorem entry_dict_loop:entryFor table "dict.update.loop"=some Builtin.«dict.update.loop»:=entryFor_of_tree (by kernel_rfl)
theorem aT:plainId "dict.update.loop"=true:=by decide+kernel
end F
theorem OD (p:IsTup s.heap a b.toArray)(h:Q b s):wpAny (model prog w) A (Builtin.Dict.pairItems (.ref a)) Q E s:=by have c:=p.typeIs;obtain⟨o,d,e,n,hd⟩:=p;apply aa;refine kz c ?_;apply aa;refine n8 d hd ?_;apply bb;simpa using h
theorem zsi (hc:X.calm=true)(hA:X.A=A.in1)(T:Turn X.prog X.w X.K (.Name x0 p0) J fp it tn)(O:Walk X.K J B H1 l)(V:¬B (some d)):
  ∀n i s H kvs (es:aX) t W,l.length-i=n->i<=l.length->Inv X pins σ H s->tn i s.heap->(∀b∈fp,FpOk X pins H b)->H d=some (.dK kvs)->kvs.length<=i->aS X.K H B kvs es->kF es (l.drop i)=some Y->Kp B H1 H->
   (∀P y c,Inv X pins σ y P->y d=some (.dK c)->aS X.K y B c Y->(∀a o,a≠d->H a=some o->y a=some o)->R (.ok (.ret .none)) P)->
   i8 (model X.prog X.w) A (.builtin "dict.update.loop" ⟨[.ref d,.ref it,.int W t,.none],[]⟩) R s:=by
 intro n
 induction n with
 |zero=>
  intro i s H kvs es t W hn hi I st fo hd hl rs j kp Z;have e:i=l.length:=by omega
  subst e;refine nn F.entry_dict_loop ?_;rw[Around.under_plainId F.aT _,<-hA];refine aa (aI (T.done X rfl rfl rfl hc _ pins s σ H _ I fo st (O.stop H kp)) λr Q C=>?_);obtain⟨rfl,I1⟩:=C;rw[l9]at j;cases j;exact aa (bb (bb (Z Q H kvs I1 hd rs λ_ _ _ e=>e)))
 |succ n ih=>
  intro i s H kvs es t W hn hi I st fo hd hl rs j kp Z;have f:i<l.length:=by omega
  refine nn F.entry_dict_loop ?_;rw[Around.under_plainId F.aT _,<-hA];refine aa (aI (T.item X rfl rfl rfl hc i pins s σ H _ I fo st (O.go H kp i f)) λr Q C=>?_);obtain⟨u,rfl,h4⟩:=C;have key:∀(m:Sem PySem.Fin) Q' E',wpAny (model X.prog X.w) X.A (jk (.Name x0 p0) (.ref it) u>>=λ_=>m) Q' E' Q->wpAny (model X.prog X.w) X.A m Q' E' Q:=λm Q' E' h=>h;refine key _ _ _ (aa (aI h4 λ_ s5 C=>?_));obtain⟨x,S,I5,r5,y5,p,AJ⟩:=C;obtain⟨U,di,D,rx⟩:=O.gO H kp i x S f y5;have ed:l.drop i=di::l.drop (i+1):=by rw[ja f];rw[ah f]at D;cases D;rfl
  rw[ed]at j;unfold kF at j;split at j
  case h_2=>cases j
  rename_i kd vd;split at j
  case isFalse=>cases j
  rename_i hk;obtain⟨a,vs,rfl,sq,OE⟩:=rx;obtain⟨vk,E,rfl,rk,rv⟩:=yA OE;cases r5;obtain⟨eI,G,pt,_⟩:=I5.tuple sq;obtain⟨uk,uv,rfl,OF,OG⟩:=vals2 G;have L:=I5.pinned (λb g=>⟨AJ b g,(fo b g).2⟩) (T.obj _ _ p);have v:=U _ _ hd;obtain⟨k,rfl,rfl,ok⟩:=vK hk rk;obtain⟨z,OH,OI,rel,dd⟩:=ye L.hok v;have U9:OI.length<=au:=rel.length▸z;have hz:=O.len;have OJ:(putK kvs k E).length<=i+1:=by have:=An kvs k E;omega
  refine aa (ej (aa (wpAny_tryCatch (OD pt ?_))));refine ej (wpAny_dictSet_pairs (rP OF) dd λh' M hs=>?_);have I6:=z9a (t':=s5.toks+1) L (v▸True.intro) hs (let⟨q,_,_,hq,_⟩:=M;⟨q,hq⟩) (Fh (by omega) OH (rel.put k OG) M)
  have N:Kp B S (upd S d (.dK (putK kvs k E))):=λb o e z=>by
   have:b≠d:=by
    rintro rfl
    rcases z with z|z
    ·exact V z
    ·rw[v]at e;cases e;exact z
   rw[aE this];exact e
  refine bb ⟨o6 F.aT _,?_⟩;refine ih (i+1) _ (upd S d (.dK (putK kvs k E))) (putK kvs k E) (dput es (kD k) vd) _ _ (by omega) f I6.cB ?_ ?_ bI OJ ?_ j ?_ ?_
  ·exact T.keep _ _ _ p λb g o e=>(I6.pin (b,o) (br _ (br _ (tS g e)))).1
  ·intro b g;obtain⟨o,e,_⟩:=T.obj _ _ p b g;exact⟨(I6.pin (b,o) (br _ (br _ (tS g e)))).2.1,(fo b g).2⟩
  ·exact aS.keep N (λ_ z=>z) _ (aS.put ok rv (rs.same U λ_ z=>z))
  ·exact λb o e z=>N b o (U b o (kp b o e z)) z
  ·intro P y c I' BW OK ext;refine Z P y c I' BW OK λb o g e=>ext b o g ?_;rw[aE g];exact U b o e
theorem OL {K:W.Frag}(s:Same H b)(h:SqL K H a c):SqL K b a c:=by
 rcases h with(h|⟨o,h⟩)|h
 ·exact .inl (.inl (s _ _ h))
 ·exact .inl (.inr ⟨o,s _ _ h⟩)
 ·exact .inr h
theorem OM (es:aX)(k v:D)(a:cU es=true)(h:imm v=true):cU (es++[(k,v)])=true:=by
 unfold cU at *
 rw[List.all_append,a];simp[h]
theorem ON (k v:D)(a:imm v=true)(es:aX)(h:cU es=true):cU (es.map λe=>if eqK e.1 k then(e.1,v)else e)=true:=by
 unfold cU at *
 rw[b6]at *
 intro e b;obtain⟨c,d,rfl⟩:=bp.mp b;split
 ·exact a
 ·exact h c d
theorem GA:∀(b:List D) es a,imms b=true->cU es=true->kF es b=some a->cU a=true
 | [],es,a,_,h,e=>by cases e;exact h
 |y::b,es,a,c,d,e=>by
  simp only[imms,bv]at c;unfold kF at e;split at e
  case h_2=>cases e
  rename_i k v;split at e
  case isFalse=>cases e
  have f:imm v=true:=by have:=c.1;change(imm k&&(imm v&&true))=true at this;simp only[bv]at this;exact this.2.1
  refine GA b _ a c.2 ?_ e;unfold dput;split
  ·exact ON k v f es d
  ·exact OM es k v d f
theorem OO (hc:X.calm=true):CallR X (.type "dict") (rAgg X.K "dict"):=by
 rintro pins s σ H xs us Q I r ⟨B,x,dx,l,m,d,rfl,rx,e,E,q⟩
 obtain⟨a,vs,rfl,G,rs⟩:=yD rx e
 have e3:∃c,kF [] m=some c/\d=.dict c:=by
  simp only[aggD,show("dict":String)≠"list" by decide,show("dict":String)≠"tuple" by decide,show("dict":String)≠"sorted" by decide,show("dict":String)≠"sum" by decide,show("dict":String)≠"all" by decide,show("dict":String)≠"any" by decide,if_true,if_false]at E;cases h:kF [] m with
  |none=>rw[h]at E;cases E
  |some es=>rw[h]at E;cases E;simp_all
 obtain⟨c,em,rfl⟩:=e3;have ew:z8f dx=.ok m:=by cases dx<;>first|(cases e;done)|(cases e;rfl)
 obtain⟨u,rfl,rfl⟩:=vals1 r;have p:=I.hok.fresh (ae _);have S:Inv X pins σ (upd H s.heap.objs.size (.dK [])) {s with heap:=s.heap.push {cls:=.type "dict",data:=.dict #[]}}:=I.laid (λ_ _ q=>ak _ q) (ae _) (Fi s.heap I.big);refine callType_codes (Q₁:=λobj i=>obj=.ref s.heap.objs.size/\i={s with heap:=s.heap.push {cls:=.type "dict",data:=.dict #[]}}) PySem.F.kt_called_dict (PySem.F.kt_typeCall_dict_1 _) PySem.F.entry_dict_init (kt_code_dict_new _ ⟨rfl,rfl⟩) ?_
 rintro obj i ⟨rfl,rfl⟩
 have j:(⟨s.heap.push {cls:=.type "dict",data:=.dict #[]},s.gens,s.drawn,s.toks,s.os⟩:az).TypeIs (.ref s.heap.objs.size) "dict":=⟨_,bt _ rfl,rfl⟩;refine⟨j,PySem.F.args_dict_init_2 _ _,?_⟩
 delta Builtin.«dict.__init__»
 refine aa ?_
 delta Builtin.Dict.selfAndRest
 refine aa (wpAny_notOrdered_dict j ?_);refine bb ?_;show wpAny _ _ (ma "dict.__init__" s.heap.objs.size (.ref a) [] .none) _ _ _
 delta ma
 have rest:∀k t,(∀b o,(s.heap.push {cls:=.type "dict",data:=.dict #[]}).get? b=some o->k.get? b=some o)->wpAny (model X.prog X.w) X.A.in1.in1 (qd (.ref a)) (λg L=>i8 (model X.prog X.w) X.A.in1 (.builtin "dict.update.loop" ⟨[.ref s.heap.objs.size,g,km 0,.none],[]⟩) (wants (λr M=>r=.none/\EP X pins σ Q (.ref s.heap.objs.size) M) X.xe) L) (λ_ _=>False) ⟨k,s.gens,s.drawn,t,s.os⟩:=by
  intro k t kp;have I2:Inv (tX X X.A.in1.in1 (λ_ _=>False)) pins σ (upd H s.heap.objs.size (.dK [])) ⟨k,s.gens,s.drawn,t,s.os⟩:=(S.kept kp).tX rfl rfl;refine aI (z2u (tg:=.Name "" default) (R:=λJ v=>Walk X.K J (λa=>B a/\¬nw H a) v m/\v=upd H s.heap.objs.size (.dK [])) I2 (show RelV (.ref a) (.ref a)from rfl) ((Rep.there _ rx).same (Same.upd p) λ_ z=>z) ew λJ U=>⟨U,rfl⟩) λg L zz=>?_;obtain⟨it,fp,tn,J,v,V,I3,T,st,fo,U,eH⟩:=zz;subst V eH;refine zsi (X:=tX X X.A.in1.in1 (λ_ _=>False)) hc rfl T U (λz=>z.2 p) m.length 0 L _ [] [] _ _ (by omega) (by omega) I3 st fo bI (ae _) rfl em (λ_ _ e _=>e) ?_;intro s' v N I' W O ext;refine⟨rfl,.ref s.heap.objs.size,v,I'.BV I.ok,rfl,q _ v (λb o e=>ext b o (bQ e p) (aE (bQ e p)▸e)) ⟨_,N,rfl,W,.inl p,?_⟩⟩;cases hi:imms m with
  |true=>exact aS.bE c (GA m [] c hi rfl em) O
  |false=>exact O.same (Same.refl v) λ_ z=>.inr ⟨rfl,z.1⟩
 have hA:=I.ok.hd hc;cases l with
 |true=>obtain⟨Y,_,⟨o,n,P,f,y,C⟩,_⟩:=S.list (OL (Same.upd p) G);refine aa (kz ⟨o,P,f⟩ ?_);refine aa (OB P f C y hA λk t e Z=>?_);refine aa (mz (aa (fm (rest k t Z.keeps) (λg L D=>?_) λ_ _ z=>z.elim)));exact bb ⟨o6 F.aT _,D⟩
 |false=>obtain⟨Y,_,⟨o,n,P,f,y,C⟩,_⟩:=S.rG (cA.rel (Same.upd p) G);refine aa (kz ⟨o,P,f⟩ ?_);refine aa (OC P f C y hA λk t e Z=>?_);refine aa (mz (aa (fm (rest k t Z.keeps) (λg L D=>?_) λ_ _ z=>z.elim)));exact bb ⟨o6 F.aT _,D⟩
open PySem.W
def runT {α:Type}(lt:Nat->Nat->Bool):KasT α->α
 |.ret a=>a
 |.ask i j k=>runT lt (k (lt i j))
theorem tY {a b:Type}(lt:Nat->Nat->Bool)(f:a->KasT b):∀t,runT lt (t.bind f)=runT lt (f (runT lt t))
 |.ret _=>rfl
 |.ask i j k=>tY lt f (k (lt i j))
section
variable (key:Nat->Nat)
abbrev ltk:Nat->Nat->Bool:=λi j=>decide (key i<key j)
def Kp' (p:Array Nat)(i:Nat):Nat:=key (p.getD i 0)
variable {key}
theorem vP (h:p[i]?=q[j]?):Kp' key p i=Kp' key q j:=by unfold Kp';rw[ei,ei,h]
theorem vQ (b:j<=p.size)(k:Nat):Kp' key (kas_rev p i j) k=if i<=k/\k<j then Kp' key p (i+j-1-k)else Kp' key p k:=by
 have h:=getElem?_mirror_all (i:=i) b k;split
 ·rename_i a;refine vP ?_;unfold kas_rev;rw[h,qt a]
 ·rename_i a;refine vP ?_;unfold kas_rev;rw[h,qu a]
theorem GB (hs:a<p.size)(hd:d<=a)(k:Nat):Kp' key (bubble p a d) k=if k=a-d then Kp' key p a else if a-d<k/\k<=a then Kp' key p (k-1)else Kp' key p k:=by
 have h:=getElem?_bubble hs d hd k;split
 ·rename_i c;exact vP (by rw[h,qt c])
 ·rename_i c;split
  ·rename_i b;exact vP (by rw[h,qu c,qt b])
  ·rename_i b;exact vP (by rw[h,qu c,qu b])
theorem yE (p:Array Nat)(i j:Nat):(kas_rev p i j).size=p.size:=mirror_size _ _ _ _
theorem vR (p:Array Nat)(i j:Nat):(kas_rev p i j).Perm p:=mirror_perm _ _ _ _
theorem z68 (p:Array Nat):∀f n,1<=n->n<=runT (ltk key) (kas_asc p f n)/\runT (ltk key) (kas_asc p f n)<=n+f/\(∀i,n<=i->i<runT (ltk key) (kas_asc p f n)->Kp' key p (i-1)<=Kp' key p i)/\
  (runT (ltk key) (kas_asc p f n)<n+f->Kp' key p (runT (ltk key) (kas_asc p f n))<Kp' key p (runT (ltk key) (kas_asc p f n)-1))
 |0,n,h=>⟨ae _,ae _,λi b a=>absurd (jm b a) (cu _),λa=>absurd a (cu _)⟩
 |f+1,n,h=>by
  have e:runT (ltk key) (kas_asc p (f+1) n)=runT (ltk key) (if decide (Kp' key p n<Kp' key p (n-1))=true then .ret n else kas_asc p f (n+1)):=rfl;rw[e];by_cases c:Kp' key p n<Kp' key p (n-1)
  ·rw[qt (qy c)];exact⟨ae _,Nat.le_add_right _ _,λi b a=>absurd (jm b a) (cu _),λ_=>c⟩
  ·rw[qu (by simpa using c)];obtain⟨k,l,d,g⟩:=z68 p f (n+1) (by omega);refine⟨by omega,by omega,λi b a=>?_,λa=>g (by omega)⟩;by_cases j:i=n
   ·subst j;omega
   ·exact d i (by omega) a
structure DPre (key:Nat->Nat)(p:Array Nat)(n q:Nat):Prop where
 one:1<=n
 qn:q+1<=n
 sz:n<=p.size
 de:∀i,1<=i->i<n->Kp' key p i<=Kp' key p (i-1)
 eq:∀i,n<=i+1+q->i<n->Kp' key p i=Kp' key p (n-1)
theorem DPre.rev (h:DPre key p n q)(k:Nat):Kp' key (kas_rev p (n-(q+1)) n) k=Kp' key p k:=by
 rw[vQ h.sz];split
 ·rename_i a;rw[h.eq k (by omega) a.2,h.eq _ (by omega) (by omega)]
 ·rfl
theorem z2r:∀f p n q,DPre key p n q->n+f<=p.size->
  DPre key (runT (ltk key) (kas_desc f p n q)).1 (runT (ltk key) (kas_desc f p n q)).2.1 (runT (ltk key) (kas_desc f p n q)).2.2/\(runT (ltk key) (kas_desc f p n q)).1.Perm p/\(runT (ltk key) (kas_desc f p n q)).2.1<=n+f
 |0,p,n,q,h,s=>⟨h,Array.Perm.refl _,ae _⟩
 |f+1,p,n,q,h,s=>by
  have e:runT (ltk key) (kas_desc (f+1) p n q)=runT (ltk key) (if decide (Kp' key p n<Kp' key p (n-1))=true then(if q>0 then kas_desc f (kas_rev p (n-(q+1)) n) (n+1) 0 else kas_desc f p (n+1) 0) else .ask (p.getD (n-1) 0) (p.getD n 0) λd=>if d=true then .ret (p,n,q)else kas_desc f p (n+1) (q+1)):=rfl;rw[e];by_cases m:Kp' key p n<Kp' key p (n-1)
  ·rw[qt (qy m)];by_cases o:q>0
   ·rw[qt o]
    have c:DPre key (kas_rev p (n-(q+1)) n) (n+1) 0:=⟨by omega,by omega,by rw[yE];omega,λi a g=>by
     rw[h.rev,h.rev];by_cases b:i=n
     ·subst b;omega
     ·exact h.de i a (by omega),λi a g=>by
     have:i=n:=by omega
     subst this;rfl⟩
    obtain⟨j,k,r⟩:=z2r f _ (n+1) 0 c (by rw[yE];omega);exact⟨j,k.trans (vR _ _ _),by omega⟩
   ·rw[qu o]
    have c:DPre key p (n+1) 0:=⟨by omega,by omega,by omega,λi a g=>by
     by_cases b:i=n
     ·subst b;omega
     ·exact h.de i a (by omega),λi a g=>by
     have:i=n:=by omega
     subst this;rfl⟩
    obtain⟨j,k,r⟩:=z2r f _ (n+1) 0 c (by omega);exact⟨j,k,by omega⟩
  ·rw[qu (by simpa using m)];have t:runT (ltk key) (KasT.ask (p.getD (n-1) 0) (p.getD n 0) λd=>if d=true then .ret (p,n,q)else kas_desc f p (n+1) (q+1))=runT (ltk key) (if decide (Kp' key p (n-1)<Kp' key p n)=true then .ret (p,n,q)else kas_desc f p (n+1) (q+1)):=rfl;rw[t];by_cases l:Kp' key p (n-1)<Kp' key p n
   ·rw[qt (qy l)];exact⟨h,Array.Perm.refl _,by show n<=_;omega⟩
   ·rw[qu (by simpa using l)]
    have c:DPre key p (n+1) (q+1):=⟨by omega,by have :=h.qn;omega,by omega,λi a g=>by
     by_cases b:i=n
     ·subst b;omega
     ·exact h.de i a (by omega),λi a g=>by
     by_cases b:i=n
     ·subst b;rfl
     ·have :=h.eq i (by omega) (by omega);rw[Nat.add_sub_cancel];omega⟩
    obtain⟨j,k,r⟩:=z2r f _ (n+1) (q+1) c (by omega);exact⟨j,k,by omega⟩
def Asc (key:Nat->Nat)(p:Array Nat)(m:Nat):Prop:=∀i,1<=i->i<m->Kp' key p (i-1)<=Kp' key p i
theorem z5p (a:1<=n)(hn:n<=nrem)(c:nrem<=p.size)(de:∀i,1<=i->i<n->Kp' key p i<=Kp' key p (i-1)):
  Asc key (runT (ltk key) (kas_tail3 n nrem p)).2 (runT (ltk key) (kas_tail3 n nrem p)).1/\(runT (ltk key) (kas_tail3 n nrem p)).2.Perm p/\1<=(runT (ltk key) (kas_tail3 n nrem p)).1/\(runT (ltk key) (kas_tail3 n nrem p)).1<=nrem:=by
 unfold kas_tail3;rw[tY];obtain⟨a1,a2,a3,_⟩:=z68 (key:=key) (kas_rev p 0 n) (nrem-n) n a;refine⟨λi d b=>?_,vR _ _ _,by show 1<=runT _ _;omega,by show runT _ _<=_;omega⟩;by_cases f:i<n
 ·show Kp' key (kas_rev p 0 n) (i-1)<=Kp' key (kas_rev p 0 n) i;rw[vQ (by omega),vQ (by omega),qt (by omega),qt (by omega)];have:=de (0+n-1-(i-1)) (by omega) (by omega);have e:0+n-1-(i-1)-1=0+n-1-i:=by omega
  rw[e]at this;exact this
 ·exact a3 i (by omega) b
theorem descPart_spec (q:1<=n)(hn:n<nrem)(k:nrem<=p.size)(eq:∀i,i<n->Kp' key p i=Kp' key p (n-1))(lt:Kp' key p n<Kp' key p (n-1)):
  Asc key (runT (ltk key) (kas_descPart n nrem p)).2 (runT (ltk key) (kas_descPart n nrem p)).1/\(runT (ltk key) (kas_descPart n nrem p)).2.Perm p/\1<=(runT (ltk key) (kas_descPart n nrem p)).1/\(runT (ltk key) (kas_descPart n nrem p)).1<=nrem:=by
 unfold kas_descPart;rw[tY]
 have h:DPre key p (n+1) 0:=⟨by omega,by omega,by omega,λi d e=>by
  by_cases m:i=n
  ·subst m;omega
  ·rw[eq i (by omega),eq (i-1) (by omega)];exact ae _,λi d e=>by
  have:i=n:=by omega
  subst this;rfl⟩
 obtain⟨a,c,o⟩:=z2r (nrem-(n+1)) p (n+1) 0 h (by omega);generalize runT (ltk key) (kas_desc (nrem-(n+1)) p (n+1) 0)=r at a c o ⊢;have b:=c.size_eq;by_cases l:r.2.2>0
 ·rw[qt l];obtain⟨t1,f,g,j⟩:=z5p (p:=kas_rev r.1 (r.2.1-(r.2.2+1)) r.2.1) (nrem:=nrem) a.one (by omega) (by rw[yE,b];exact k) λi d e=>by rw[a.rev,a.rev];exact a.de i d e
  exact⟨t1,f.trans ((vR _ _ _).trans c),g,j⟩
 ·rw[qu l];obtain⟨t1,f,g,j⟩:=z5p (nrem:=nrem) a.one (by omega) (b▸k) a.de;exact⟨t1,f.trans c,g,j⟩
theorem Asc.le (h:Asc key p m):∀(d i:Nat),i+d<m->Kp' key p i<=Kp' key p (i+d)
 |0,i,_=>ae _
 |d+1,i,hm=>by have a:=Asc.le h d i (by omega);have b:=h (i+d+1) (by omega) (by omega);exact bq a b
theorem zbi (r:1<=a)(hz:a<=p.size):
  Asc key (runT (ltk key) (kas_count a p)).2 (runT (ltk key) (kas_count a p)).1/\(runT (ltk key) (kas_count a p)).2.Perm p/\1<=(runT (ltk key) (kas_count a p)).1/\(runT (ltk key) (kas_count a p)).1<=a:=by
 unfold kas_count;rw[tY];obtain⟨a1,a2,a3,a4⟩:=z68 p (a-1) 1 (ae _);generalize runT (ltk key) (kas_asc p (a-1) 1)=n at a1 a2 a3 a4 ⊢;have b:Asc key p n:=a3;by_cases hn:n=a
 ·rw[qt (by simpa using hn)];exact⟨b,Array.Perm.refl _,a1,by show n<=_;omega⟩
 ·rw[qu (by simpa using hn)];have lt:=a4 (by omega);by_cases f:n>1
  ·rw[qt f];have e:runT (ltk key) (KasT.ask (p.getD 0 0) (p.getD (n-1) 0) λc=>if c=true then .ret (n,p)else kas_descPart n a (kas_rev p 0 n))=runT (ltk key) (if decide (Kp' key p 0<Kp' key p (n-1))=true then .ret (n,p)else kas_descPart n a (kas_rev p 0 n)):=rfl;rw[e];by_cases g:Kp' key p 0<Kp' key p (n-1)
   ·rw[qt (qy g)];exact⟨b,Array.Perm.refl _,a1,by show n<=_;omega⟩
   ·rw[qu (by simpa using g)]
    have eq:∀i,i<n->Kp' key p i=Kp' key p (n-1):=λi hi=>by
     have h:=b.le i 0 (by omega);have j:=b.le (n-1-i) i (by omega);have k:0+i=i:=by omega
     have l:i+(n-1-i)=n-1:=by omega
     rw[k]at h;rw[l]at j;omega
    have sH:∀i,i<n->Kp' key (kas_rev p 0 n) i=Kp' key p (n-1):=λi hi=>by rw[vQ (by omega),qt (by omega)];exact eq _ (by omega)
    obtain⟨t1,m,o,q⟩:=descPart_spec (p:=kas_rev p 0 n) (nrem:=a) (by omega) (by omega) (by rw[yE];exact hz) (λi hi=>by rw[sH i hi,sH (n-1) (by omega)]) (by rw[sH (n-1) (by omega),vQ (by omega),qu (by omega)];exact lt);exact⟨t1,m.trans (vR _ _ _),o,q⟩
  ·rw[qu f];have d:n=1:=by omega
   subst d
   exact descPart_spec (Nat.le_refl _) (by omega) hz (fun i hi=>by have :i=0:=by omega
                                                                   subst this;rfl) lt
theorem place_spec (b:Asc key p k):∀f l r,r-l<=f->l<=r->r<=k->(∀i,i<l->Kp' key p i<=Kp' key p k)->(∀i,r<=i->i<k->Kp' key p k<Kp' key p i)->
  runT (ltk key) (kas_place p k f l r)<=k/\(∀i,i<runT (ltk key) (kas_place p k f l r)->Kp' key p i<=Kp' key p k)/\(∀i,runT (ltk key) (kas_place p k f l r)<=i->i<k->Kp' key p k<Kp' key p i)
 |0,l,r,hf,q,hr,d,g=>by
  have:l=r:=by omega
  subst this;exact⟨hr,d,g⟩
 |f+1,l,r,hf,q,hr,d,g=>by
  unfold kas_place;by_cases n:l ≥ r
  ·rw[qt n];have:l=r:=by omega
   subst this;exact⟨hr,d,g⟩
  ·rw[qu n];have e:runT (ltk key) (KasT.ask (p.getD k 0) (p.getD ((l+r)/2) 0) λc=>if c=true then kas_place p k f l ((l+r)/2)else kas_place p k f ((l+r)/2+1) r)=runT (ltk key) (if decide (Kp' key p k<Kp' key p ((l+r)/2))=true then kas_place p k f l ((l+r)/2)else kas_place p k f ((l+r)/2+1) r):=rfl;rw[e];have a:l<=(l+r)/2:=by omega
   have h:(l+r)/2<r:=by omega
   generalize (l+r)/2=m at a h ⊢;by_cases o:Kp' key p k<Kp' key p m
   ·rw[qt (qy o)];refine place_spec b f l m (by omega) a (by omega) d λi s t=>?_;have:=b.le (i-m) m (by omega);have j:m+(i-m)=i:=by omega
    rw[j]at this;omega
   ·rw[qu (by simpa using o)];refine place_spec b f (m+1) r (by omega) (by omega) hr (λi s=>?_) g;have:=b.le (m-i) i (by omega);have j:i+(m-i)=m:=by omega
    rw[j]at this;omega
theorem GC:∀f p k,Asc key p k->k+f<=p.size->Asc key (runT (ltk key) (kas_bin f p k)) (k+f)/\(runT (ltk key) (kas_bin f p k)).Perm p
 |0,p,k,a,j=>⟨a,Array.Perm.refl _⟩
 |f+1,p,k,a,j=>by
  unfold kas_bin;rw[tY];obtain⟨m,c,d⟩:=place_spec a k 0 k (by omega) (db _) (ae _) (λi n=>absurd n (Nat.not_lt_zero _)) λi b g=>absurd (jm b g) (cu _);generalize runT (ltk key) (kas_place p k k 0 k)=l at m c d ⊢
  have o:Asc key (bubble p k (k-l)) (k+1):=λi b g=>by
   have e:k-(k-l)=l:=by omega
   rw[GB (by omega) (by omega),GB (by omega) (by omega),e];by_cases c1:i=l
   ·rw[qu (by omega),qu (by omega),qt c1];exact c _ (by omega)
   ·rw[qu c1];by_cases c2:i-1=l
    ·rw[qt c2,qt (by omega)];rw[c2];exact gv (d l (ae _) (by omega))
    ·rw[qu c2];by_cases r:l<i
     ·rw[qt (by omega),qt (by omega)];exact a (i-1) (by omega) (by omega)
     ·rw[qu (by omega),qu (by omega)];exact a i b (by omega)
  obtain⟨h,q⟩:=GC f (bubble p k (k-l)) (k+1) o (by rw[bubble_size];omega);refine⟨?_,q.trans (bubble_perm _ _ _)⟩;have e:k+1+f=k+(f+1):=by omega
  rw[e]at h;exact h
theorem GF (n:Nat)(c:1<=n):Asc key (runT (ltk key) (kas_sort n)) n/\(runT (ltk key) (kas_sort n)).Perm (iu (cg n)):=by
 unfold kas_sort;rw[tY];have a:(iu (cg n)).size=n:=by simp
 obtain⟨c1,c2,d,f⟩:=zbi c (by rw[a];exact ae _);generalize runT (ltk key) (kas_count n (iu (cg n)))=r at c1 c2 d f ⊢;have hr:r.2.size=n:=by rw[c2.size_eq,a]
 by_cases h:r.1<n
 ·rw[qt h];have e:max r.1 1=r.1:=by omega
  rw[e];obtain⟨b,g⟩:=GC (n-r.1) r.2 r.1 c1 (by omega);refine⟨?_,g.trans c2⟩;have e:r.1+(n-r.1)=n:=by omega
  rw[e]at b;exact b
 ·rw[qu h];have e:r.1=n:=by omega
  rw[e]at c1;exact⟨c1,c2⟩
end
theorem BX {h:Heap}(c:b≠a)(e:h.get? b=some o):(h.update a f).get? b=some o:=by rw[jd _ _ _ _ c];exact e
theorem z6y {a:List Value}(x:s.heap.IsList l a.toArray)(y:a.length<2)
  (h:∀D m n,s.heap.objs.size<=D->(∀b o,s.heap.get? b=some o->m.get? b=some o)->m.get? D=some (jf "list" a.toArray n)->Q (.ref D) {s with heap:=m}):wpAny (model prog w) A (call (.builtin "sorted") [.ref l]) Q E s:=by
 apply Calls.call_function_entry kind_sorted plain_sorted entry_sorted (args_sorted1 _);apply aa;apply bb;apply aa;refine collect_list x ?_ (by rw[c8];omega);apply aa;refine wpAny_newList ?_ (by rw[c8];omega);have u:∀b o,s.heap.get? b=some o->((s.heap.push (jf "list" #[] 0)).update s.heap.objs.size (Obj.mapSeq (· ++a.toArray))).get? b=some o:=λb o e=>BX (cb (bg e)) (ak _ e);have k:s.heap.objs.size<=((s.heap.push (jf "list" #[] 0)).update s.heap.objs.size (Obj.mapSeq (· ++a.toArray))).objs.size:=by rw[Heap.size_update,size_push'];omega
 generalize ((s.heap.push (jf "list" #[] 0)).update s.heap.objs.size (Obj.mapSeq (·++a.toArray)))=i at u k ⊢;have c:(i.push (jf "list" a.toArray 0)).get? i.objs.size=some (jf "list" a.toArray 0):=bt _ rfl;have j:∀b o,s.heap.get? b=some o->b≠i.objs.size/\(i.push (jf "list" a.toArray 0)).get? b=some o:=λb o e=>⟨cb (b8 (bg e) k),ak _ (u b o e)⟩;generalize B:i.objs.size=D at c j k ⊢;generalize i.push (jf "list" a.toArray 0)=f at c j ⊢;apply aa;apply ej;refine j7 slot_list_sort ⟨_,c,rfl⟩ entry_list_sort ?body (args_list_sort _);rw[list_sort_plain];refine aa (listItems_at c rfl ?_);refine aa (listUpdate_at c rfl ?_);obtain⟨p,g⟩:∃p,(f.update D (Obj.mapSeq λ_=>(#[]:Array Value))).get? D=some (jf "list" #[] p):=⟨_,get?_update_seq c λ_=>#[]⟩;have q:∀b o,s.heap.get? b=some o->b≠D/\(f.update D (Obj.mapSeq λ_=>(#[]:Array Value))).get? b=some o:=λb o e=>⟨(j b o e).1,BX (j b o e).1 (j b o e).2⟩;generalize (f.update D (Obj.mapSeq λ_=>(#[]:Array Value)))=r at g q ⊢;refine aa (seqEpoch_at g rfl ?_);refine aa (wpAny_newTuple ?_ (by rw[c8];simp;omega));apply aa;refine wpAny_newList (ej ?_);have d:((r.push (jf "tuple" a.toArray 0)).push (jf "list" #[] 0)).get? D=some (jf "list" #[] p):=ak _ (ak _ g);have t:∀b o,s.heap.get? b=some o->b≠D/\((r.push (jf "tuple" a.toArray 0)).push (jf "list" #[] 0)).get? b=some o:=λb o e=>⟨(q b o e).1,ak _ (ak _ (q b o e).2)⟩;generalize ((r.push (jf "tuple" a.toArray 0)).push (jf "list" #[] 0))=C at d t ⊢;have v:a.toArray.size<2:=by simpa using y
 rw[qt v,qt v];refine aa (bb ?_);refine aa (bb ?_);refine aa (seqEpoch_at d rfl ?_);have z:(arrOf (SortSt.mk' general' (a.toArray.zip a.toArray) #[] 7 none)).map (·.2)=a.toArray:=by show(a.toArray.zip a.toArray).map (·.2)=a.toArray;simp;exact List.map_snd_zip (ae _)
 rw[z];refine aa (listUpdate_at d rfl ?_);simp only[if_false,Bool.false_eq_true,bne_self_eq_false];refine bb ⟨_,rfl,bb ⟨_,rfl,h D _ _ k (λb o e=>BX (t b o e).1 (t b o e).2) (get?_update_seq d λ_=>a.toArray)⟩⟩
def cY {α:Type}(n:Nat)(Q:α->Prop):KasT α->Prop
 |.ret a=>Q a
 |.ask i j k=>i<n/\j<n/\∀b,cY n Q (k b)
theorem cY.bind {c d:Type}{Q:c->Prop}{R:d->Prop}{f:c->KasT d}(hf:∀a,Q a->cY n R (f a)):∀{t:KasT c},cY n Q t->cY n R (t.bind f)
 |.ret a,h=>hf a h
 |.ask i j k,h=>⟨h.1,h.2.1,λb=>cY.bind hf (h.2.2 b)⟩
theorem cY.ite [Decidable c] (d:cY n Q a)(e:cY n Q b):cY n Q (if c then a else b):=by
 split
 ·exact d
 ·exact e
def AllIn (n:Nat)(p:Array Nat):Prop:=0<n/\∀x∈p,x<n
theorem AllIn.get (h:AllIn n p)(i:Nat):p.getD i 0<n:=by
 rw[ei];cases e:p[i]? with
 |none=>exact h.1
 |some x=>exact h.2 x (Array.mem_of_getElem? e)
theorem AllIn.perm (h:AllIn n p)(a:q.Perm p):AllIn n q:=⟨h.1,λx b=>h.2 x (a.mem_iff.mp b)⟩
theorem AllIn.rev (h:AllIn n p)(i j:Nat):AllIn n (kas_rev p i j):=h.perm (vR _ _ _)
theorem BY (h:AllIn n p):∀f m,cY n (λ_=>True) (kas_asc p f m)
 |0,m=>trivial
 |f+1,m=>⟨h.get _,h.get _,λb=>cY.ite trivial (BY h f (m+1))⟩
theorem yF:∀f p m q,AllIn n p->cY n (λr=>AllIn n r.1) (kas_desc f p m q)
 |0,p,m,q,h=>h
 |f+1,p,m,q,h=>⟨h.get _,h.get _,λb=>cY.ite (cY.ite (yF f _ _ _ (h.rev _ _)) (yF f _ _ _ h)) ⟨h.get _,h.get _,λd=>cY.ite h (yF f _ _ _ h)⟩⟩
theorem GG (h:AllIn n p):cY n (λr=>AllIn n r.2) (kas_tail3 m r p):=by refine cY.bind (λa _=>?_) (BY (h.rev _ _) _ _);exact h.rev _ _
theorem GH (h:AllIn n p):cY n (λr=>AllIn n r.2) (kas_descPart m r p):=cY.bind (λa b=>cY.ite (GG (AllIn.rev b _ _)) (GG b)) (yF _ _ _ _ h)
theorem OP (h:AllIn n p):cY n (λr=>AllIn n r.2) (kas_count r p):=by
 refine cY.bind (λm _=>?_) (BY h _ _);split
 ·exact h
 ·split
  ·refine⟨h.get _,h.get _,λc=>?_⟩;show cY n _ (if c=true then _ else _);split
   ·exact h
   ·exact GH (h.rev _ _)
  ·exact GH h
theorem BZ (h:AllIn n p)(k:Nat):∀f l r,cY n (λ_=>True) (kas_place p k f l r)
 |0,l,r=>trivial
 |f+1,l,r=>by exact cY.ite trivial ⟨h.get _,h.get _,λc=>cY.ite (BZ h k f _ _) (BZ h k f _ _)⟩
theorem GI:∀f p k,AllIn n p->cY n (λ_=>True) (kas_bin f p k)
 |0,p,k,h=>trivial
 |f+1,p,k,h=>cY.bind (λl _=>GI f _ _ (h.perm (bubble_perm _ _ _))) (BZ h k _ _ _)
theorem OQ (h:0<n):cY n (λ_=>True) (kas_sort n):=by
 refine cY.bind (λr hr=>?_) (OP ⟨h,λx a=>by simpa using a⟩);split
 ·exact GI _ _ _ hr
 ·exact trivial
theorem GJ {c:Type}{P:az->Prop}(h:∀i j C s,i<n->j<n->P s->(∀b,P b->C (lt i j) b)->cmp i j C s){Q:c->az->Prop}:∀t s,cY n (λ_=>True) t->P s->(∀b,P b->Q (runT lt t) b)->t.kasWp cmp Q s
 |.ret a,s,_,p,q=>q s p
 |.ask i j k,s,a,p,q=>h i j _ s a.1 a.2.1 p λb d=>GJ h (k (lt i j)) b (a.2.2 _) d q
structure OrdOn (p:D->Prop):Prop where
 qM:∀x,p x->cR x x=false
 tr:∀x y z,p x->p y->p z->cR x y=true->cR y z=true->cR x z=true
 tZ:∀x y z,p x->p y->p z->cR x z=true->cR x y=true\/cR y z=true
 t6:∀x y,p x->p y->cR x y=false->cR y x=false->x=y
theorem lH (h:tU x=true):∃i,x=.int i:=by cases x<;>first|(cases h;done)|exact⟨_,rfl⟩
theorem lI (h:yk x=true):∃i,x=.str i:=by cases x<;>first|(cases h;done)|exact⟨_,rfl⟩
theorem vS (a b:Int):cR (.int a) (.int b)=decide (a<b):=rfl
theorem OR (a b:Str):cR (.str a) (.str b)=decide (a.cps.toList<b.cps.toList):=rfl
theorem vU:OrdOn (λx=>tU x=true) where
 qM:=λx h=>by obtain⟨i,rfl⟩:=lH h;rw[vS];simp
 tr:=λx y z a b c d e=>by obtain⟨i,rfl⟩:=lH a;obtain⟨j,rfl⟩:=lH b;obtain⟨k,rfl⟩:=lH c;rw[vS,decide_eq_true_eq]at *;omega
 tZ:=λx y z a b c h=>by
  obtain⟨i,rfl⟩:=lH a;obtain⟨j,rfl⟩:=lH b;obtain⟨k,rfl⟩:=lH c;rw[vS,decide_eq_true_eq]at *
  rw[vS,decide_eq_true_eq];omega
 t6:=λx y a b d e=>by
  obtain⟨i,rfl⟩:=lH a;obtain⟨j,rfl⟩:=lH b;rw[vS,decide_eq_false_iff_not]at *
  rw[show i=j by omega]
theorem OS {b:Str}(h:a.cps.toList=b.cps.toList):a=b:=by obtain⟨⟨l⟩⟩:=a;obtain⟨⟨m⟩⟩:=b;simp only at h;rw[h]
theorem vV:OrdOn (λx=>yk x=true) where
 qM:=λx h=>by obtain⟨i,rfl⟩:=lI h;rw[OR];exact strKind.irrefl _
 tr:=λx y z a b c d e=>by obtain⟨i,rfl⟩:=lI a;obtain⟨j,rfl⟩:=lI b;obtain⟨k,rfl⟩:=lI c;exact strKind.trans _ _ _ d e
 tZ:=λx y z a b c h=>by obtain⟨i,rfl⟩:=lI a;obtain⟨j,rfl⟩:=lI b;obtain⟨k,rfl⟩:=lI c;exact strKind.negTrans _ _ _ h
 t6:=λx y a b d e=>by obtain⟨i,rfl⟩:=lI a;obtain⟨j,rfl⟩:=lI b;rw[OS (strKind.total _ _ d e)]
theorem sI (b:Bool):OrdOn (λx=>ofK b x=true):=by
 cases b with
 |true=>exact vU
 |false=>exact vV
theorem GK (a:ofK b x=true)(c:ofK b y=true):dZ x y=true↔x=y:=by
 cases b with
 |true=>obtain⟨i,rfl⟩:=lH a;obtain⟨j,rfl⟩:=lH c;show(i==j)=true↔_;rw[beq_iff_eq];exact⟨λh=>by rw[h],λh=>by cases h;rfl⟩
 |false=>obtain⟨i,rfl⟩:=lI a;obtain⟨j,rfl⟩:=lI c;show(i==j)=true↔_;rw[beq_iff_eq];exact⟨λh=>by rw[h],λh=>by cases h;rfl⟩
theorem nV (h:cS (b::bs) a=true):∃x r,a=x::r/\ofK b x=true/\cS bs r=true:=by
 cases a with
 |nil=>cases h
 |cons x r=>simp only[cS,bv]at h;exact⟨x,r,rfl,h.1,h.2⟩
theorem qN (h:cS [] a=true):a=[]:=by
 cases a with
 |nil=>rfl
 |cons x r=>cases h
theorem B1 (x y:D)(a b:List D):bS (x::a) (y::b)=if dZ x y then bS a b else cR x y:=by simp only[bS]
theorem oY (a:ofK b x=true)(c:ofK b y=true)(h:x=y):bS (x::d) (y::e)=bS d e:=by rw[B1,qt ((GK a c).mpr h)]
theorem jN (a:ofK b x=true)(c:ofK b y=true)(h:x≠y):bS (x::d) (y::e)=cR x y:=by rw[B1,qu λz=>h ((GK a c).mp z)]
theorem OT:bS [] []=false:=by simp[bS]
theorem GL:∀bs a,cS bs a=true->bS a a=false
 | [],a,h=>by rw[qN h];exact OT
 |b::bs,a,h=>by obtain⟨x,r,rfl,c,d⟩:=nV h;rw[oY c c rfl];exact GL bs r d
theorem GN:∀bs f g h,cS bs f=true->cS bs g=true->cS bs h=true->bS f g=true->bS g h=true->bS f h=true
 | [],f,g,h,l,m,n,a,i=>by rw[qN l,qN m]at a;cases a
 |b::bs,f,g,h,l,m,n,a,i=>by
  obtain⟨x,f,rfl,c,l⟩:=nV l;obtain⟨y,g,rfl,j,m⟩:=nV m;obtain⟨z,h,rfl,d,n⟩:=nV n;have O:=sI b;by_cases k:x=y
  ·rw[oY c j k]at a;by_cases e:y=z
   ·rw[oY j d e]at i;rw[oY c d (k.trans e)];exact GN bs f g h l m n a i
   ·rw[jN j d e]at i;rw[jN c d (k▸e),k];exact i
  ·rw[jN c j k]at a;by_cases e:y=z
   ·rw[jN c d (e▸k),<-e];exact a
   ·rw[jN j d e]at i;have o:=O.tr x y z c j d a i;rw[jN c d (λq=>by subst q;rw[O.qM x c]at o;cases o)];exact o
theorem GO:∀bs d f g,cS bs d=true->cS bs f=true->cS bs g=true->bS d g=true->bS d f=true\/bS f g=true
 | [],d,f,g,k,m,l,n=>by rw[qN k,qN l]at n;cases n
 |b::bs,d,f,g,k,m,l,e=>by
  obtain⟨x,d,rfl,h,k⟩:=nV k;obtain⟨y,f,rfl,a,m⟩:=nV m;obtain⟨z,g,rfl,i,l⟩:=nV l;have O:=sI b;by_cases j:x=z
  ·rw[oY h i j]at e;by_cases c:x=y
   ·rw[oY h a c,oY a i (c.symm.trans j)];exact GO bs d f g k m l e
   ·rw[jN h a c,jN a i (λq=>c (j.trans q.symm)),<-j];cases n:cR x y with
    |true=>exact .inl rfl
    |false=>
     cases p:cR y x with
     |true=>exact .inr rfl
     |false=>exact(c (O.t6 x y h a n p)).elim
  ·rw[jN h i j]at e;by_cases c:x=y
   ·rw[jN a i (λq=>j (c.trans q)),<-c];exact .inr e
   ·rw[jN h a c];by_cases o:y=z
    ·rw[o];exact .inl e
    ·rw[jN a i o];exact O.tZ x y z h a i e
theorem GP:∀bs a c,cS bs a=true->cS bs c=true->bS a c=false->bS c a=false->a=c
 | [],a,c,e,f,g,h=>by rw[qN e,qN f]
 |b::bs,a,c,e,f,g,h=>by
  obtain⟨x,a,rfl,i,e⟩:=nV e;obtain⟨y,c,rfl,j,f⟩:=nV f;by_cases d:x=y
  ·rw[oY i j d]at g;rw[oY j i d.symm]at h;rw[d,GP bs a c e f g h]
  ·rw[jN i j d]at g;rw[jN j i (λq=>d q.symm)]at h;exact(d ((sI b).t6 x y i j g h)).elim
theorem mK (h:zav bs x=true):∃a,x=.tuple a/\cS bs a=true:=by cases x<;>first|(cases h;done)|exact⟨_,rfl,h⟩
theorem OU (a b:List D):cR (.tuple a) (.tuple b)=bS a b:=rfl
theorem B2 (bs:List Bool):OrdOn (λx=>zav bs x=true) where
 qM:=λx h=>by obtain⟨i,rfl,h⟩:=mK h;rw[OU];exact GL bs i h
 tr:=λx y z a b c d e=>by obtain⟨i,rfl,a⟩:=mK a;obtain⟨j,rfl,b⟩:=mK b;obtain⟨k,rfl,c⟩:=mK c;exact GN bs _ _ _ a b c d e
 tZ:=λx y z a b c h=>by obtain⟨i,rfl,a⟩:=mK a;obtain⟨j,rfl,b⟩:=mK b;obtain⟨k,rfl,c⟩:=mK c;exact GO bs _ _ _ a b c h
 t6:=λx y a b d e=>by obtain⟨i,rfl,a⟩:=mK a;obtain⟨j,rfl,b⟩:=mK b;rw[GP bs _ _ a b d e]
def kN (l:List D):Prop:=l.Pairwise λa b=>cR b a=false
theorem B3 (x:D):∀l,(gU x l).Perm (x::l)
 | []=>.refl _
 |y::l=>by
  unfold gU;split
  ·exact((B3 x l).cons y).trans (.swap x y l)
  ·exact .refl _
theorem B4:∀l,(lX l).Perm l
 | []=>.refl _
 |x::l=>(B3 x (lX l)).trans ((B4 l).cons x)
section
variable {p:D->Prop}(O:OrdOn p)
include O
theorem OrdOn.B5 (a:p x)(b:p y)(h:cR x y=true):cR y x=false:=by
 cases e:cR y x with
 |false=>rfl
 |true=>have:=O.tr x y x a b a h e;rw[O.qM x a]at this;cases this
theorem GQ (x:D)(c:p x):∀l,(∀y∈l,p y)->kN l->kN (gU x l)
 | [],_,_=>mf _ _
 |y::l,d,hs=>by
  have f:=d y (by simp);have g:∀z∈l,p z:=λz a=>d z (by simp[a]);obtain⟨h,i⟩:=ee.mp hs;unfold gU;split
  ·rename_i b;refine ee.mpr ⟨λz a=>?_,GQ x c l g i⟩;rcases ax.mp ((B3 x l).mem_iff.mp a)with rfl|a
   ·exact O.B5 f c b
   ·exact h z a
  ·rename_i b;refine ee.mpr ⟨λz a=>?_,hs⟩;rcases(ax.mp a)with rfl|a
   ·exact by simpa using b
   ·cases e:cR z x with
    |false=>rfl
    |true=>
     rcases O.tZ z y x (g z a) f c e with q|q
     ·rw[h z a]at q;cases q
     ·exact(b q).elim
theorem GS:∀l,(∀y∈l,p y)->kN (lX l)
 | [],_=>List.Pairwise.nil
 |x::l,a=>GQ O x (a x (by simp)) _ (λz b=>a z (by simp[(B4 l).mem_iff.mp b])) (GS l λz b=>a z (by simp[b]))
theorem GU:∀{a b:List D},(∀y∈a,p y)->a.Perm b->kN a->kN b->a=b
 | [],b,_,c,_,_=>(c.symm.eq_nil).symm
 |x::a,[],_,c,_,_=>by have:=c.length_eq;simp at this
 |x::a,y::b,d,c,h,i=>by
  obtain⟨a1,a2⟩:=ee.mp h;obtain⟨j,k⟩:=ee.mp i;have f:=d x (by simp);have g:=d y (c.mem_iff.mpr (by simp))
  have e:x=y:=by
   refine O.t6 x y f g ?_ ?_
   ·rcases ax.mp (c.mem_iff.mp (show x∈x::a by simp))with q|q
    ·rw[<-q];exact O.qM x f
    ·exact j x q
   ·rcases ax.mp (c.mem_iff.mpr (show y∈y::b by simp))with q|q
    ·rw[<-q];exact O.qM y g
    ·exact a1 y q
  subst e;rw[GU (λz l=>d z (by simp[l])) (List.perm_cons x |>.mp c) a2 k]
def rank (ds:List D)(i:Nat):Nat:=ds.countP λd=>cR d (ds.getD i .none)
omit O in
theorem GV {q r:D->Bool}:∀(l:List D),(∀x∈l,q x=true->r x=true)->(∃x∈l,r x=true/\q x=false)->l.countP q<l.countP r
 | [],_,⟨_,h,_⟩=>by simp at h
 |x::l,h,⟨y,hy,h1,h2⟩=>by
  have hl:l.countP q<=l.countP r:=nv λz hz=>h z (by simp[hz]);rcases(ax.mp hy)with rfl|hy
  ·rw[List.countP_cons_of_neg (by rw[h2];simp),List.countP_cons_of_pos h1];omega
  ·have :=GV l (λz hz=>h z (by simp[hz])) ⟨y,hy,h1,h2⟩;rw[List.countP_cons,List.countP_cons];have hx:=h x (by simp);cases e:q x with
   |true=>rw[hx e];simp;exact this
   |false=>simp;split<;>omega
theorem GW (b:∀d∈a,p d)(g:i<a.length)(k:j<a.length):decide (rank a i<rank a j)=cR (a.getD i .none) (a.getD j .none):=by
 have m:a.getD i .none=a[i]:=by simp[g]
 have n:a.getD j .none=a[j]:=by simp[k]
 have c:=eh g;have l:=eh k;unfold rank;rw[m,n];cases e:cR a[i] a[j]with
 |true=>rw[decide_eq_true_eq];exact GV a (λx f h=>O.tr x _ _ (b x f) (b _ c) (b _ l) h e) ⟨a[i],c,e,O.qM _ (b _ c)⟩
 |false=>
  rw[decide_eq_false_iff_not]
  have:a.countP (λd=>cR d a[j])<=a.countP λd=>cR d a[i]:=nv λx f h=>by
   rcases O.tZ x _ _ (b x f) (b _ c) (b _ l) h with q|q
   ·exact q
   ·rw[e]at q;cases q
  omega
theorem OV (g:∀d∈a,p d)(hn:1<=a.length):(runT (ltk (rank a)) (kas_sort a.length)).toList.map (λi=>a.getD i .none)=lX a:=by
 obtain⟨h,f⟩:=GF a.length hn;generalize runT (ltk (rank a)) (kas_sort a.length)=q at h f ⊢;have k:q.toList.Perm (cg a.length):=by simpa using f.toList
 have c:q.size=a.length:=by rw[f.size_eq];simp
 have b:(q.toList.map λi=>a.getD i .none).Perm a:=by
  refine(k.map _).trans ?_
  have:(cg a.length).map (λi=>a.getD i .none)=a:=by
   apply List.ext_getElem
   ·simp
   ·intro i h f;simp;rw[ah (by simpa using f)];rfl
  rw[this]
 refine GU O (λy r=>g y (b.mem_iff.mp r)) (b.trans (B4 a).symm) ?_ (GS O a g);unfold kN;rw[jx,List.pairwise_iff_getElem];intro i j n o s;have l:i<a.length:=by rw[<-c];simpa using n
 have m:j<a.length:=by rw[<-c];simpa using o
 have le:=h.le (j-i) i (by omega);have e:i+(j-i)=j:=by omega
 rw[e]at le;have t:Kp' (rank a) q i=rank a q.toList[i]:=by unfold Kp';rw[ei];simp[c,l]
 have u:Kp' (rank a) q j=rank a q.toList[j]:=by unfold Kp';rw[ei];simp[c,m]
 rw[<-GW O g (by simpa using k.mem_iff.mp (eh o)) (by simpa using k.mem_iff.mp (eh n)),decide_eq_false_iff_not];omega
end
def qO (b:Bool)(x:D)(u:Value):Prop:=if b then ∃i t,x=.int i/\u=.int i t else ∃z t,x=.str z/\u=.str z t
theorem GX {K:W.Frag}(a:ofK b x=true)(r:Rep K H B v x)(c:RelV v u):qO b x u:=by
 cases b with
 |true=>obtain⟨i,rfl⟩:=lH a;have e:=r;subst e;obtain⟨t,rfl⟩:=c;exact⟨i,t,rfl,rfl⟩
 |false=>obtain⟨z,rfl⟩:=lI a;have e:=r.1;subst e;obtain⟨t,rfl⟩:=c;exact⟨z,t,rfl,rfl⟩
theorem OW (a:qO b x u)(c:qO b y v)(q:Q (dZ x y) s):wpAny (model prog w) A (eqBool u v) Q E s:=by
 cases b with
 |true=>obtain⟨i,t,rfl,rfl⟩:=a;obtain⟨j,d,rfl,rfl⟩:=c;exact wpAny_eqBool_int q
 |false=>
  obtain⟨i,t,rfl,rfl⟩:=a;obtain⟨j,d,rfl,rfl⟩:=c;refine wpAny_eqBool_str ?_;have e:dZ (.str i) (.str j)=decide (i=j):=by show(i==j)=decide (i=j);apply nq.mpr;rw[beq_iff_eq,decide_eq_true_eq]
  rw[<-e];exact q
theorem GY (c:Bool)(a:qO b x u)(d:qO b y v)(q:Q (cR x y) s):wpAny (model prog w) A (oneLt' c u v) Q E s:=by
 cases b with
 |true=>
  obtain⟨i,t,rfl,rfl⟩:=a;obtain⟨j,e,rfl,rfl⟩:=d;cases c with
  |true=>exact oneLt_int q
  |false=>exact kat_one _ _ (PyProof.Rows.lt_int q)
 |false=>
  obtain⟨i,t,rfl,rfl⟩:=a;obtain⟨j,e,rfl,rfl⟩:=d;cases c with
  |true=>exact oneLt_str q
  |false=>exact kat_one _ _ (PyProof.Rows.lt_str q)
def kO:List Bool->List D->List Value->Prop
 | [],xs,us=>xs=[]/\us=[]
 |b::bs,xs,us=>∃x r u t,xs=x::r/\us=u::t/\ofK b x=true/\qO b x u/\kO bs r t
theorem B6 {K:W.Frag}:∀{bs:List Bool} {d:List D} {f:List V} {g:List Value},cS bs d=true->Reps K H B f d->Vals f g->kO bs d g
 | [],d,f,g,h,r,i=>by have e:=qN h;subst e;subst r;cases i;exact⟨rfl,rfl⟩
 |b::bs,d,f,g,h,r,i=>by
  obtain⟨x,j,rfl,k,l⟩:=nV h;obtain⟨v,t,rfl,m,n⟩:=r;cases i with
  |cons a c=>exact⟨x,j,_,_,rfl,rfl,k,GX k m a,B6 l n c⟩
theorem GZ:∀{bs:List Bool} {a d:List D} {f g:List Value} i,kO bs a f->kO bs d g->Q (bS a d) s->KatLex prog w A b false Q (f.zip g) i s
 | [],a,d,f,g,i,h,j,q=>by obtain⟨rfl,rfl⟩:=h;obtain⟨rfl,rfl⟩:=j;exact q
 |c::bs,a,d,f,g,i,h,j,q=>by
  obtain⟨x,a,u,f,rfl,rfl,m,k,h⟩:=h;obtain⟨y,d,v,g,rfl,rfl,n,l,j⟩:=j;refine kat_cons (OW k l ?_);rw[B1]at q;cases e:dZ x y with
  |true=>rw[e]at q;exact kat_yes (GZ (i+1) h j q)
  |false=>rw[e]at q;exact kat_no (GY _ k l q)
theorem B7:∀{bs:List Bool} {c:List D} {a:List Value},kO bs c a->a.length=bs.length
 | [],_,_,h=>by rw[h.2];rfl
 |b::bs,_,_,h=>by obtain⟨x,r,u,t,rfl,rfl,_,_,h⟩:=h;rw[bh,bh,B7 h]
theorem z14.some (x:z14 P w H h a o):∃q,h.get? a=some q:=by
 cases o with
 |lst b=>obtain⟨_,_,_,_,e⟩:=x;exact⟨_,e⟩
 |tup b=>obtain⟨_,_,_,_,e⟩:=x;exact⟨_,e⟩
 |dK kvs=>obtain⟨_,_,_,_,o,_,_,e,_⟩:=x;exact⟨_,e⟩
 |dT kvs=>obtain⟨_,_,_,_,o,_,_,e,_⟩:=x;exact⟨_,e⟩
 |set S n=>obtain⟨ob,es,ep,t,e,c⟩:=x;exact⟨_,e⟩
 |ins C dx fs=>obtain⟨d,z,ne,e,_⟩:=x;exact⟨_,e⟩
 |own y=>exact x
 |xd fs=>obtain⟨f,⟨od,es,ep,e,c⟩,r⟩:=x;exact⟨_,e⟩
 |eZ ob u=>exact⟨_,x.1⟩
 |lP ps=>exact⟨_,x⟩
 |ext g=>obtain⟨p,⟨o,e⟩,st⟩:=x;exact⟨_,e⟩
theorem _root_.L2.Inv.laidF {D:Addr}(I:Inv X a A H s)(hm:s.heap.Ns X.env.locals m)(d:h.Ns X.env.locals m)
  (kp:∀b u,b≠X.env.locals->s.heap.get? b=some u->h.get? b=some u) (p:s.heap.get? D=none) (new:z14 X.prog X.w (upd H D o) h D o):Inv X a A (upd H D o) {s with heap:=h,toks:=t'}:=by
 have f:H D=none:=by
  cases e:H D with
  |none=>rfl
  |some u=>obtain⟨q,r⟩:=z14.some (I.hok D u e);rw[p]at r;cases r
 refine I.step (ch:=[]) (λ_ z=>nomatch z) (λb q i _ _ e _=>kp b q i e) (λb q i _ _ e _=>⟨q.slots,kp b q i e⟩) (λb q _ e n=>?_) (λb q _ e=>?_) (λb t q=>by rw[aE (bQ q f)];exact q) (λb u t q=>by rw[aE (bQ q f)];exact q) (λb ps q=>⟨#[],by rw[aE (bQ q f),q];simp⟩) (λC j=>?_) (λb u e=>?_) I.bare
 ·rw[aE (λz=>by subst z;rw[p]at e;cases e)];exact n
 ·by_cases g:b=X.env.locals
  ·subst g;obtain⟨B,_,_,k,_⟩:=d;exact⟨B,k⟩
  ·exact⟨q,kp b q g e⟩
 ·rw[j.eq_nsMap,<-hm.eq_nsMap];exact d
 ·by_cases g:b=D
  ·subst g;rw[bI]at e;cases e;exact new
  ·rw[aE g]at e;have x:∀c v,H c=some v->c≠X.env.locals:=λc v y z=>by subst z;rw[I.free]at y;cases y
   refine(I.hok b u e).stay (λc v l q=>kp c v ?_ q) (λc q=>by rw[aE (bQ q f)];exact q) λc t q=>by rw[aE (bQ q f)];exact q
   rcases l with rfl|l
   ·exact x _ _ e
   ·exact x _ _ l
theorem G2 (r:Vals a b):∀(is:List Nat),(∀i∈is,i<a.length)->Vals (is.map λi=>a.getD i .aK) (is.map λi=>b.getD i Value.none)
 | [],_=>.nil
 |i::is,h=>by
  have c:=h i (by simp);obtain⟨u,hu,d⟩:=r.get (i:=i) (x:=a[i]) (by simp[c]);have e:a.getD i .aK=a[i]:=by simp[c]
  have f:b.getD i Value.none=u:=by rw[ac,hu];rfl
  rw[bn,bn,e,f];exact .cons d (G2 r is λj g=>h j (by simp[g]))
theorem G3 {K:W.Frag}(r:Reps K H B b a):∀(is:List Nat),(∀i∈is,i<a.length)->Reps K H B (is.map λi=>b.getD i .aK) (is.map λi=>a.getD i .none)
 | [],_=>rfl
 |i::is,h=>by
  have c:=h i (by simp);obtain⟨v,e,f⟩:=r.get (i:=i) (d:=a[i]) (by simp[c]);have g:a.getD i .none=a[i]:=by simp[c]
  have k:b.getD i .aK=v:=by rw[ac,e];rfl
  rw[bn,bn,g,k];exact Reps.cons f (G3 r is λj l=>h j (by simp[l]))
theorem z2m (O:OrdOn p)(I:Inv X E σ H s)
  (hl:s.heap.IsList a k.toArray) (Y:Vals R k) (rs:Reps X.K H B R f) (h2:2<=f.length) (U':f.length<64) (S:∀d∈f,p d)
  (ask:∀t,(∀b o,b≠X.env.locals->s.heap.get? b=some o->t.get? b=some o)->wpAny (model X.prog X.w) X.A.in1.in1 (keyKind' k.toArray) (λκ T=>T={s with heap:=t}/\∀i j C,i<f.length->j<f.length->C (cR (f.getD i .none) (f.getD j .none)) {s with heap:=t}->kas_ask X.prog X.w X.A.in1.in1 κ k i j C {s with heap:=t}) (λ_ _=>False) {s with heap:=t})
  (q:∀w U,Same H U->Rep X.K U (λa=>nw H a\/(imms f=false/\B a)) w (.list (lX f))->Q w U):
  wpAny (model X.prog X.w) X.A (call (.builtin "sorted") [.ref a]) (EP X E σ Q) X.xe s:=by
 have l1:=rs.length;have l2:=Y.length;obtain⟨m,F,_⟩:=id I.loc;refine kat_sorted ⟨F,I.bk,bq I.ok.iK I.ok.above⟩ (KW) hl (by omega) (by omega) λD e1 t F' V G=>?_
 have r:∀{h:Heap} {o:Obj},Fr X.base X.env.locals h m->News X.base X.env.locals h ((D,o)::uF X.base s.heap X.env.locals)->∀b o,b≠X.env.locals->s.heap.get? b=some o->h.get? b=some o:=λl n b o hb e=>by
  cases W:X.base.get? b with
  |some u=>have:=I.bk b u W;rw[e]at this;cases this;exact l.keep b _ W
  |none=>exact(n (b,o) (ay _ (EC hb W e))).1
 have J:=V (D,jf "list" #[] e1) bj
 have hD:s.heap.get? D=none:=by
  cases e:s.heap.get? D with
  |none=>rfl
  |some o=>exact absurd (G (D,o) (EC J.2.1 J.2.2 e)) (cu _)
 have v:H D=none:=by
  cases e:H D with
  |none=>rfl
  |some u=>obtain⟨q,hq⟩:=z14.some (I.hok D u e);rw[hD]at hq;cases hq
 refine aI (ask t (r F' V)) λκ T zz=>?_;obtain⟨rfl,L⟩:=zz;have el:k.length=f.length:=by omega
 rw[el];refine GJ (lt:=ltk (rank f)) (λi j C T x hj e hC=>?_) (kas_sort f.length) _ (OQ (by omega)) rfl λT e=>?_
 ·subst e;refine L i j C x hj ?_;rw[<-GW O S x hj];exact hC _ rfl
 ·subst e;refine⟨_,_,F',V,.head (λp S=>cb (G p S)),λh c l n=>?_⟩;have M:=(n _ bj).1;have N:=OV O S (by omega);obtain⟨_,g⟩:=GF f.length (by omega);generalize runT (ltk (rank f)) (kas_sort f.length)=y at N g M ⊢;have P:∀i∈y.toList,i<f.length:=λi x=>by have:=(g.toList.mem_iff).mp x;simpa using this
  have Va:(y.toList.map λi=>R.getD i .aK).length=f.length:=by have:=g.toList.length_eq;simpa using this
  have new:z14 X.prog X.w (upd H D (.lst (y.toList.map λi=>R.getD i .aK))) h D (.lst (y.toList.map λi=>R.getD i .aK)):=⟨by rw[c8];omega,_,c,G2 Y y.toList (λi x=>by rw[l1];exact P i x),M⟩;refine⟨.ref D,_,I.laidF (t':=s.toks) F l.ns (r l n) hD new,rfl,q _ _ (Same.upd v) ?_⟩;rw[<-N];exact qL v (G3 (Reps.mJ rs) y.toList P) (λ_ z=>z) (.inl v)
section
variable {X:Cx}
theorem G4 {K:W.Frag}(rs:Reps K H B f b)(g:Vals f a)(c:i<b.length):∃v,Rep K H B v (b.getD i .none)/\RelV v (a.getD i Value.none)/\a[i]?=some (a.getD i Value.none):=by
 obtain⟨v,h,j⟩:=rs.get (i:=i) (d:=b[i]) (by simp[c]);obtain⟨u,e,k⟩:=g.get h;have l:b.getD i .none=b[i]:=by simp[c]
 have m:a.getD i Value.none=u:=by rw[ac,e];rfl
 rw[l,m];exact⟨v,j,k,e⟩
theorem OX {a:List Value}(h:u∈a):∃i,i<a.length/\a.getD i Value.none=u:=by obtain⟨i,b,e⟩:=on h;exact⟨i,b,by rw[<-e];simp[b]⟩
theorem zjx {s:az}(b:Bool)(m:∀d∈c,ofK b d=true)(rs:Reps X.K H B n c)(h:Vals n a)(l:2<=c.length)(g:Heap):
  wpAny (model X.prog X.w) A (keyKind' a.toArray) (λo p=>p={s with heap:=g}/\∀i j C,i<c.length->j<c.length->C (cR (c.getD i .none) (c.getD j .none)) {s with heap:=g}->kas_ask X.prog X.w A o a i j C {s with heap:=g}) (λ_ _=>False) {s with heap:=g}:=by
 have y:a.length=c.length:=by rw[<-h.length,rs.length]
 have sc:∀i,i<c.length->qO b (c.getD i .none) (a.getD i Value.none):=λi f=>by obtain⟨v,q,l,_⟩:=G4 rs h f;exact GX (m _ (by rw[ac,ah f];exact eh f)) q l
 have ty:∀u∈a,Looks (model X.prog X.w) g (qe u) (.type (if b then "int"else "str")):=λu hu=>by
  obtain⟨i,f,rfl⟩:=OX hu;have:=sc i (by omega);cases b with
  |true=>obtain⟨k,t,_,e⟩:=this;rw[e];exact Looks.of_pure rfl
  |false=>obtain⟨k,t,_,e⟩:=this;rw[e];exact Looks.of_pure rfl
 refine kas_kind (by omega) ty (by cases b<;>decide) (by cases b<;>decide) ⟨rfl,λi j C f r x=>?_⟩;exact GY true (sc i f) (sc j r) x
theorem zq1 (I:Inv X p Q H s)(kp:∀b o,s.heap.get? b=some o->o.cls=.type "tuple"->b≠X.env.locals->h'.get? b=some o)(b:Bool)(bs:List Bool):
  ∀{j:List D} {i:List V} {e:List Value},(∀d∈j,zav (b::bs) d=true)->Reps X.K H B i j->Vals i e->∃fs,KatTups h' e fs/\fs.length=e.length/\∀f∈fs,∃x,qO b x f
 | [],i,e,_,r,k=>by subst r;cases k;exact⟨[],trivial,rfl,λ_ z=>nomatch z⟩
 |y::j,i,e,q,r,k=>by
  obtain⟨v,t,rfl,C,E⟩:=r;cases k with
  |cons a c=>
   obtain⟨fs,F,G,J⟩:=zq1 I kp b bs (λd hd=>q d (by simp[hd])) E c;obtain⟨R,rfl,hs⟩:=mK (q y (by simp));obtain⟨L,S,rfl,M,l⟩:=C;cases a;obtain⟨N,O,⟨o,w,A,n,hd⟩,_⟩:=I.tuple M;have m:L≠X.env.locals:=by intro z;subst z;obtain⟨_,⟨T,es,ep,g,h,_⟩,_⟩:=id I.loc;rw[w]at g;cases g;rw[hd]at h;cases h
   obtain⟨x,r,u,U,rfl,rfl,_,P,_⟩:=B6 hs l O;exact⟨u::fs,KatTups.cons (kp _ _ w A m) A hd (by simp) F,by simp[G],λf hf=>(ax.mp hf).elim (λz=>⟨x,by rw[z];exact P⟩) (J f)⟩
theorem zp5 (I:Inv X E σ H s)(b:Bool)(bs:List Bool)(F:∀d∈c,zav (b::bs) d=true)(rs:Reps X.K H B O c)(r:Vals O a)(h2:2<=c.length)(kp:∀b o,s.heap.get? b=some o->o.cls=.type "tuple"->b≠X.env.locals->g.get? b=some o):
  wpAny (model X.prog X.w) A (keyKind' a.toArray) (λP Q=>Q={s with heap:=g}/\∀i j C,i<c.length->j<c.length->C (cR (c.getD i .none) (c.getD j .none)) {s with heap:=g}->kas_ask X.prog X.w A P a i j C {s with heap:=g}) (λ_ _=>False) {s with heap:=g}:=by
 have hl:a.length=c.length:=by rw[<-r.length,rs.length]
 obtain⟨fs,R,k2,S⟩:=zq1 I kp b bs F rs r
 have ty:∀u∈fs,Looks (model X.prog X.w) g (qe u) (.type (if b then "int"else "str")):=λu hu=>by
  obtain⟨x,this⟩:=S u hu;cases b with
  |true=>obtain⟨k,t,_,e⟩:=this;rw[e];exact Looks.of_pure rfl
  |false=>obtain⟨k,t,_,e⟩:=this;rw[e];exact Looks.of_pure rfl
 have part:∀i,i<c.length->∃h q o f n,a.getD i Value.none=.ref h/\c.getD i .none=.tuple q/\g.get? h=some o/\o.data=.seq (iu f) n/\kO (b::bs) q f:=λi l=>by
  obtain⟨v,G,T,_⟩:=G4 rs r l;obtain⟨q,ex,hs⟩:=mK (F (c.getD i .none) (by rw[ac,ah l];exact eh l));rw[ex]at G;obtain⟨h,ws,rfl,U,y⟩:=G;obtain⟨f,V,⟨o,J,W,n,hd⟩,_⟩:=I.tuple U;have D:h≠X.env.locals:=by intro z;subst z;obtain⟨_,⟨o',es,ep,m,p,_⟩,_⟩:=id I.loc;rw[J]at m;cases m;rw[hd]at p;cases p
  exact⟨h,q,o,f,n,T,ex,kp _ _ J W D,hd,B6 hs y V⟩
 refine kat_kind R (by omega) ty (by cases b<;>decide) ⟨rfl,λi j C l Y L=>?_⟩;obtain⟨ai,xi,oi,ji,ni,e1,e2,e3,e4,M⟩:=part i l;obtain⟨aj,xj,oj,jj,nj,f1,f2,f3,f4,N⟩:=part j Y;show wpAny _ _ (keyLt' _ (a.getD i Value.none) (a.getD j Value.none)) C _ _;rw[e1,f1];refine kat_lt e3 e4 f3 f4 ?_;have ef:decide ((iu ji).size<(iu jj).size)=false:=by rw[bz,bz,B7 M,B7 N];simp
 rw[ef];rw[e2,f2]at L;exact GZ 0 M N L
end
theorem zc6 (hu:X.A.units+64<cLine)(I:Inv X i σ H s)(r:Vals xs us)(G:xs=[x])(J:Rep X.K H B x dx)(e:z58 dx=.ok (true,f))(l:aggD "sorted" true f=.ok d)
  (q:∀w m,Same H m->Rep X.K m (λa=>nw H a\/(imms f=false/\B a)) w d->Q w m):wpAny (model X.prog X.w) X.A (call (.builtin "sorted") us) (EP X i σ Q) X.xe s:=by
 subst G;obtain⟨a,L,rfl,p,rs⟩:=yD J e;simp only[aggD,show("sorted":String)≠"list" by decide,show("sorted":String)≠"tuple" by decide,if_true,if_false]at l;split at l
 case isFalse=>cases l
 rename_i E;cases l;simp at E;obtain⟨hs,h⟩:=E;obtain⟨u,rfl,rfl⟩:=vals1 r;obtain⟨j,g,pl,M⟩:=I.list p;have N:j.length=f.length:=by rw[<-g.length,rs.length]
 by_cases t:f.length<2
 ·refine z6y pl.isList (by omega) λD k n F kp O=>?_;have v:=I.hok.fresh F;refine⟨.ref D,_,I.laid (o:=.lst L) (t':=s.toks) kp F ⟨M,j,n,g,O⟩,rfl,q _ _ (Same.upd v) ?_⟩
  have es:lX f=f:=by
   match f,t with
   | [],_=>rfl
   | [y],_=>rfl
   |_::_::_,t=>simp at t;omega
  rw[es];exact qL v (Reps.mJ rs) (λ_ z=>z) (.inl v)
 ·have c:2<=f.length:=by omega
  replace hs:=(ko _ _).mp hs;rcases hs with hs|hs
  case inr=>cases hs
  unfold yl at hs;simp at hs;rcases hs with(hs|hs)|hs
  ·exact z2m vU I pl.isList g rs c h hs (λk kp=>zjx true hs rs g c k) q
  ·exact z2m vV I pl.isList g rs c h hs (λk kp=>zjx false hs rs g c k) q
  ·split at hs
   case h_2=>cases hs
   rename_i P _;simp only[bv,b6,py]at hs;obtain⟨C,hs⟩:=hs;cases P with
   |nil=>cases C
   |cons S T=>exact z2m (B2 _) I pl.isList g rs c h hs (λk kp=>zp5 I _ _ hs rs g c λb o e _ R=>kp b o R e) q
theorem OY (r:KV kvs c){i:Nat}(h:kvs[i]?=some (k,v)):∃u,c[i]?=some (k,u)/\RelV v u:=by
 induction r generalizing i with
 |nil=>simp at h
 |cons a b d=>
  cases i with
  |zero=>cases h;rename_i e _ _;obtain⟨g,f⟩:=e;obtain⟨rfl,a2⟩:=a;exact⟨f,rfl,a2⟩
  |succ i=>exact d h
theorem OZ (h:(gQ P w).is k u=true):RelV (kV k) u:=by
 rcases nO h with⟨i,t,rfl,rfl⟩|⟨x,t,rfl,rfl⟩
 ·exact⟨t,rfl⟩
 ·exact⟨t,rfl⟩
theorem aS.at {K:W.Frag}:∀{kvs:List (Key×V)} {es:aX} {i:Nat} {k:Key} {v:V},aS K H B kvs es->kvs[i]?=some (k,v)->∃d,es[i]?=some (kD k,d)/\keyOk k/\Rep K H B v d
 |kvs,[],i,k,v,r,e=>by have:kvs=[]:=r;subst this;simp at e
 |kvs,(kd,d)::es,i,k,v,r,e=>by
  obtain⟨c,f,t,rfl,rfl,ok,a,b⟩:=r;cases i with
  |zero=>cases e;exact⟨d,rfl,ok,a⟩
  |succ i=>rw[fh]at e ⊢;exact aS.at b e
theorem O0 {K:W.Frag}(ok:keyOk k):Rep K H B (kV k) (kD k):=by
 cases k with
 |inl i=>exact rfl
 |inr x=>exact⟨rfl,ok⟩
theorem _root_.L2.Inv.qP (I:Inv X pins σ H s)(f:FpOk X pins H a)(new:z14 X.prog X.w (upd H a u) s.heap a u):Inv X pins σ (upd H a u) s:=by
 obtain⟨d,j,r,k,l,o⟩:=f
 exact I.step (ch:=[a]) (fun b g=>by
   have e:b=a:=by simpa using g
   subst e;exact⟨k,j,l,o⟩) (λb q _ _ _ e _=>e) (λb q _ _ _ e _=>⟨q.slots,e⟩) (λb q p _ n=>by rw[aE (λz=>p (by simp[z]))];exact n) (λb q _ e=>⟨q,e⟩)
  (λb i q=>by rw[aE (bQ q d)];exact q) (λb v i q=>by rw[aE (bQ q d)];exact q) (λb ps q=>⟨#[],by rw[aE (bQ q d),q];simp⟩) (λm h=>h) (λb v e=>by
   by_cases g:b=a
   ·subst g;rw[bI]at e;cases e;exact new
   ·rw[aE g]at e;exact(I.hok b v e).stay (λc w _ q=>q) (λc q=>by rw[aE (bQ q d)];exact q) λc i q=>by rw[aE (bQ q d)];exact q) I.bare
theorem z7m:∀(l:List (Addr×List V)) {H:Hp},Inv X pins σ H s->(l.map (·.1)).Nodup->(∀q∈l,FpOk X pins H q.1)->(∀q∈l,q.2.length<=au/\∃d,Vals q.2 d/\TupN s.heap q.1 d.toArray)->
  ∃H1,Inv X pins σ H1 s/\Same H H1/\(∀q∈l,H1 q.1=some (.tup q.2))/\∀a,a∉l.map (·.1)->H1 a=H a
 | [],H,I,_,_,_=>⟨H,I,Same.refl H,(λq c=>absurd c (by simp)),λ_ _=>rfl⟩
 |(a,e)::l,H,I,nd,hf,g=>by
  rw[bn,du]at nd;have fa:=hf (a,e) (by simp);obtain⟨H1,i,j,k,h⟩:=z7m l (I.qP (u:=.tup e) fa (g (a,e) (by simp))) nd.2 (λq c=>by obtain⟨m,r⟩:=hf q (by simp[c]);exact⟨by rw[aE ((λq c z=>nd.1 (bp.mpr ⟨q,c,z⟩)) q c)];exact m,r⟩) λq c=>g q (by simp[c]);refine⟨H1,i,(Same.upd fa.1).trans j,λq c=>?_,λb f=>?_⟩
  ·rcases ax.mp c with n|c;subst n
   ·rw[h a nd.1];exact bI
   ·exact k q c
  ·rw[bn,ax,not_or]at f;rw[h b f.2,aE f.1]
theorem B8 {K:W.Frag}:∀{b:List V} {c:List D},b.length=c.length->(∀(i:Nat) v d,b[i]?=some v->c[i]?=some d->Rep K H B v d)->Reps K H B b c
 | [],[],_,_=>rfl
 |v::b,d::c,a,h=>Reps.cons (h 0 v d rfl rfl) (B8 (by simpa using a) λi v d e f=>h (i+1) v d (by simpa using e) (by simpa using f))
 | [],_::_,a,_=>by cases a
 |_::_,[],a,_=>by cases a
theorem G5:∀as:List Addr,Vals (as.map V.ref) (as.map Value.ref)
 | []=>.nil
 |a::as=>.cons rfl (G5 as)
theorem O1 (hu:X.A.units+64<cLine):CallR X (.builtin "sorted") (rAgg X.K "sorted"):=by
 rintro a s g H h i Q I r ⟨B,x,dx,l,j,d,c,f,e,b,q⟩
 cases l with
 |true=>exact zc6 hu I r c f e b q
 |false=>cases b
theorem zs7 (k:CallR X (.type T) (z59 X.K m))(hm:X.mg x=none)(l:c7 x=some (.type T))(n:PA X (e::A) (tDA X.K fs))(c:((e::A).all fun e=>!isStar e)=true)(o:Gl X x)(hn:x≠"__name__")(f:Vx x):
  PE X (.Call (.Name x p) (e::A) [] B) (tD X.K λy=>fs y>>=λg=>m (g.map (·.2))>>=λd=>.ok (gJ d .al,d)):=by
 refine PE.imp (vf k hm l n c o hn f) λC H Q r=>?_;obtain⟨y,F,z,i,b,q⟩:=r;obtain⟨g,s,b⟩:=Res.aA b;obtain⟨d,t,b⟩:=Res.aA b;cases b;exact⟨y,F,g,i,s,λD E s1 rs=>⟨_,_,d,rs.jL i.aN,t,λw u v j=>q w u (s1.trans v) (qJ j λa h=>h.elim (λz=>(nw.back s1 z).aN i.aN) λz=>z)⟩⟩
theorem G6:CallR X (.type "int") (z59 X.K (hX "int")):=by
 refine CallR.imp (CallR.or LD Ob) λe H Q h=>?_;obtain⟨B,f,d,r,a,q⟩:=h;simp only[hX,show("int":String)≠"len" by decide,show("int":String)≠"max" by decide,if_true,if_false]at a;split at a
 ·rename_i i;cases a;obtain⟨v,rfl,b⟩:=sF r;obtain rfl:v=.int i:=b;exact .inl (.inl ⟨i,rfl,q _ H (Same.refl H) rfl⟩)
 ·rename_i k;cases a;obtain⟨v,rfl,b⟩:=sF r;obtain rfl:v=.bl k:=b;exact .inl (.inr ⟨k,rfl,q _ H (Same.refl H) rfl⟩)
 ·rename_i x;unfold vj at a;split at a
  ·rename_i c;cases a;rw[ar]at c;obtain⟨v,rfl,b⟩:=sF r;obtain rfl:v=.str x:=b.1;exact .inr ⟨x,rfl,c.1,qx c.2,q _ H (Same.refl H) rfl⟩
  ·cases a
 ·cases a
theorem zau (a:s.heap.IsTupleIter b t i)(o:s.heap.IsTuple t items)(p:items[i]?=some x)
  (q:∀f,f.IsTupleIter b t (i+1)->gb b s.heap f->Q x {s with heap:=f}):wpAny (model prog w) A (lj (.ref b)) Q E s:=by
 have ty:=a.typeIs;obtain⟨⟨l,g,h,c⟩,d,r,hd⟩:=a;obtain⟨⟨m,j,k,e⟩,y,tc,n,u⟩:=o;cases r;cases hd;cases tc;cases u;apply aa;refine jt ty F.slot_tuple_iterator_next (j7 F.slot_tuple_iterator_next ty F.entry_tuple_iterator_next ?_ (F.args_tuple_iterator_next_1 _));show wpAny _ _ (field (.ref b) 0>>=_) _ _ _;apply aa;refine gg d rfl rfl ?_;apply aa;refine gg d rfl rfl ?_;apply aa;refine n8 y rfl ?_;have v:=fi i
 dsimp only
 rw[v,p];apply aa;refine jy d rfl (by simp) ?_;refine bb ⟨x,rfl,bb (q _ ⟨_,gn _ d rfl,rfl,?_⟩ (Heap.SameBut.update _ _ _))⟩;rfl
theorem z5u (hh:A.handled=none)(a:s.heap.IsTupleIter it t i)(q:s.heap.IsTuple t items)(r:items[i]?=none)
  (u:∀f e,Heap.ExtBut it s.heap f->(∃o,f.get? e=some o/\o.cls=.type "StopIteration")->E (.ref e) {s with heap:=f}):wpAny (model prog w) A (lj (.ref it)) Q E s:=by
 have ty:=a.typeIs;obtain⟨⟨m,g,h,c⟩,j,v,hd⟩:=a;obtain⟨⟨p,k,l,d⟩,to,tc,n,x⟩:=q;cases v;cases hd;cases tc;cases x;apply aa;refine jt ty F.slot_tuple_iterator_next (j7 F.slot_tuple_iterator_next ty F.entry_tuple_iterator_next ?_ (F.args_tuple_iterator_next_1 _));show wpAny _ _ (field (.ref it) 0>>=_) _ _ _;apply aa;refine gg j rfl rfl ?_;apply aa;refine gg j rfl rfl ?_;apply aa;refine n8 to rfl ?_
 dsimp only
 rw[fi i,r];apply aa;refine mz ?_;apply aa;refine jy j rfl (by simp) ?_
 delta Builtin.SmallTypes.stopIteration
 repeat (any_goals (first|assumption|wp_step))
 refine oo hh (u _ _ (λb o y e=>?_) ⟨_,bt _ rfl,rfl⟩);refine ak _ (ak _ ?_);rw[jd _ _ _ _ y];exact e
theorem O2 (hh:A.handled=none)(b t:Addr)(d:t≠b)(items:Array Value):Draws prog w A b [b,t] items.size (λi v=>items[i]?=some v) (λi h=>h.IsTupleIter b t i/\h.IsTuple t items) where
 live:=λi h st=>let⟨⟨o,e,_⟩,_⟩:=st;⟨o,e⟩
 frame:=λi h g st k=>by obtain⟨⟨o,e,r⟩,c,a,f⟩:=st;exact⟨⟨o,k b (by simp) o e,r⟩,c,k t (by simp) c a,f⟩
 item:=λi s1 p q u st l=>by refine zau st.1 st.2 (ll u) λg m j=>?_;obtain⟨c,a,f⟩:=st.2;exact l _ g s1.toks (ll u) ⟨m,c,j.extBut t c d a,f⟩ j
 done:=λs Q E st n=>z5u hh st.1 st.2 (Array.getElem?_eq_none (ae _)) n
def IsB (h:Heap)(l:Bool)(a:Addr)(xs:Array Value):Prop:=match l with
 |true=>h.IsList a xs
 |false=>h.IsTuple a xs
def mL (h:Heap)(l:Bool)(it a:Addr)(i:Nat):Prop:=match l with
 |true=>h.IsListIter it a i
 |false=>h.IsTupleIter it a i
def qQ (K:W.Frag)(H:Hp)(l:Bool)(a:Addr)(vs:List V):Prop:=match l with
 |true=>SqL K H a vs
 |false=>cA K H a vs
def t8 (K:W.Frag)(H:Hp)(B:Ad->Prop)(l:Bool)(a:Addr)(vs:List V):Prop:=match l with
 |true=>(H a=some (.lst vs)/\B (some a))\/(FL K H a vs/\B none)
 |false=>cA K H a vs
abbrev eB (l:Bool)(a:Addr):Obj:={cls:=.type (if l then "list_iterator"else "tuple_iterator"),data:=.fields #[.ref a,.int 0 0]}
theorem t8.keep {K:W.Frag}(h:t8 K H B l a d)(k:Kp B H c):qQ K c l a d:=by
 cases l with
 |true=>
  rcases h with⟨h,b⟩|⟨⟨o,h⟩|h,_⟩
  ·exact .inl (.inl (k a _ h (.inl b)))
  ·exact .inl (.inr ⟨o,k a _ h (.inr True.intro)⟩)
  ·exact .inr h
 |false=>exact cA.keep k h
theorem t8.of {K:W.Frag}(r:Rep K H B v d)(e:seqR d=.ok xs):∃l a c,v=.ref a/\t8 K H B l a c/\Reps K H B c xs/\xs.length<=aR:=by
 cases d<;>try (exact(dO e).elim)
 case list ds=>
  have e:(if decide (ds.length<=aR)=true then Res.ok ds else Res.no)=Res.ok xs:=e;split at e
  ·rename_i b;cases e;obtain⟨a,c,rfl,h,rs⟩:=r;exact⟨true,a,c,rfl,h,rs,qx b⟩
  ·cases e
 case tuple ds=>
  have e:(if decide (ds.length<=aR)=true then Res.ok ds else Res.no)=Res.ok xs:=e;split at e
  ·rename_i b;cases e;obtain⟨a,c,rfl,h,rs⟩:=r;exact⟨false,a,c,rfl,h,rs,qx b⟩
  ·cases e
theorem qQ.items (I:Inv X d f H s)(h:qQ X.K H l a e):∃b:List Value,Vals e b/\IsB s.heap l a b.toArray/\e.length=b.length:=by
 cases l with
 |true=>obtain⟨b,c,p,_⟩:=I.list h;exact⟨b,c,p.isList,c.length⟩
 |false=>obtain⟨b,c,p,_⟩:=I.tuple h;exact⟨b,c,p,c.length⟩
theorem G7 (hh:A.handled=none)(l:Bool)(b a:Addr)(c:a≠b)(items:Array Value):Draws prog w A b [b,a] items.size (λi v=>items[i]?=some v) (λi h=>mL h l b a i/\IsB h l a items):=by
 cases l with
 |true=>exact Draws.list hh b a c items
 |false=>exact O2 hh b a c items
theorem mL.live (x:mL h l b a i):∃o,h.get? b=some o/\∀v,o.data≠.cell v:=by cases l<;>(obtain⟨o,c,_,hd⟩:=x;exact⟨o,c,λv z=>by rw[hd]at z;cases z⟩)
theorem mL.keep (x:mL h l b a i)(k:∀o,h.get? b=some o->c.get? b=some o):mL c l b a i:=by cases l<;>(obtain⟨o,d,r⟩:=x;exact⟨o,k o d,r⟩)
theorem mL.new (x:h.get? b=some (eB l a)):mL h l b a 0:=by cases l<;>exact⟨_,x,rfl,rfl⟩
theorem IsB.lt (x:IsB h l a c):a<h.objs.size:=by cases l<;>(obtain⟨o,b,_⟩:=x;exact bg b)
theorem G8 (h:IsB s.heap l a c)(b:Q (.ref s.heap.objs.size) {s with heap:=s.heap.push (eB l a)}):wpAny (model prog w) A (qd (.ref a)) Q E s:=by
 cases l with
 |true=>exact lm h b
 |false=>exact k9 h b
theorem _root_.L2.Inv.turnedTL {h:List Addr}(I:Inv X r t H s)(f:∀b∈h,FpOk X r H b)(keep:∀b q,b∉h->s.heap.get? b=some q->i.get? b=some q)(j:s.heap.objs.size<=p)
  (new:z14 X.prog X.w (upd H p (.tup xs)) i p (.tup xs)):Inv X r t (upd H p (.tup xs)) {s with heap:=i,toks:=t'}:=by
 have hn:=I.hok.fresh j;have d:∀b u,H b=some u->b∉h:=λb u k z=>by rw[(f b z).1]at k;cases k
 have loc:=λz=>(f _ z).2.1 rfl;refine I.step (λb g=>?_) (λb q _ _ a e _=>keep b q a e) (λb q _ _ a e _=>⟨q.slots,keep b q a e⟩) (λb q _ e n=>by rw[aE (cb (b8 (bg e) j))];exact n) (λb q a e=>⟨q,keep b q a e⟩) (λb xs q=>by rw[aE (bQ q hn)];exact q) (λb u xs q=>by rw[aE (bQ q hn)];exact q) (λb ps q=>⟨#[],by rw[aE (bQ q hn),q];simp⟩) (λm hm=>?_) (λb u e=>?_) I.bare
 ·obtain⟨f0,f1,f2,f3,l,o⟩:=f b g;exact⟨f3,f1,l,o⟩
 ·exact hm.at λq e=>keep _ q loc e
 ·by_cases g:b=p
  ·subst g;rw[bI]at e;cases e;exact new
  ·rw[aE g]at e;refine(I.hok b u e).stay (λc v a q=>keep c v ?_ q) (λc q=>by rw[aE (bQ q hn)];exact q) λc xs q=>by rw[aE (bQ q hn)];exact q
   rcases a with rfl|a
   ·exact d _ _ e
   ·exact d _ _ a
theorem _root_.L2.Inv.oZ {g:List Addr}(I:Inv X p r H s)(f:∀b∈g,FpOk X p H b)(keep:∀b q,b∉g->s.heap.get? b=some q->j.get? b=some q):Inv X p r H {s with heap:=j,toks:=t'}:=by
 have d:∀b u,H b=some u->b∉g:=λb u h z=>by rw[(f b z).1]at h;cases h
 have loc:=λz=>(f _ z).2.1 rfl;refine I.step (λb k=>?_) (λb q _ _ a e _=>keep b q a e) (λb q _ _ a e _=>⟨q.slots,keep b q a e⟩) (λb q _ e n=>n) (λb q a e=>⟨q,keep b q a e⟩) (λb i q=>q) (λb u i q=>q) (λb ps q=>⟨#[],by rw[q];simp⟩) (λm hm=>?_) (λb u e=>?_) I.bare
 ·obtain⟨f0,f1,f2,f3,l,o⟩:=f b k;exact⟨f3,f1,l,o⟩
 ·exact hm.at λq e=>keep _ q loc e
 ·refine(I.hok b u e).stay (λc v a q=>keep c v ?_ q) (λc q=>q) λc i q=>q;rcases a with rfl|a
  ·exact d _ _ e
  ·exact d _ _ a
theorem O3 (d:Vals g a)(h:i<g.length)(e:a.toArray[i]?=some x):∃v,g[i]?=some v/\RelV v x:=by
 refine⟨g[i],ah h,?_⟩;obtain⟨u,c,f⟩:=d.get (ah h);have b:a[i]?=some x:=by simpa using e
 rw[b]at c;cases c;exact f
def B9 (K:W.Frag)(l:Bool)(t:Addr)(vs:List V):It:=⟨λi H=>qQ K H l t vs/\i<vs.length,λi H x H'=>∃p v,vs[i]?=some v/\H p=none/\x=.ref p/\H'=upd H p (.tup [.int i,v]),λi H=>qQ K H l t vs/\i=vs.length⟩
theorem zfi {K:W.Frag}(Y:t≠d)(Z:t≠e)(C:e≠d):
  Turn P w K (.Tuple n x1 pos) (B9 K l t vs) [e,d] e (λi h=>(∃old,IsEnum h e d i old)/\mL h l d t i) where
 mem:=by simp
 obj:=λi h st b c=>by
  obtain⟨⟨old,g⟩,a⟩:=st;rcases(ax.mp c)with rfl|c
  ·exact⟨_,g,λv z=>by cases z⟩
  ·obtain rfl:b=d:=by simpa using c
   exact a.live
 keep:=λi h J st k=>by obtain⟨⟨old,g⟩,a⟩:=st;exact⟨⟨old,k e (by simp) _ g⟩,a.keep λo=>k d (by simp) o⟩
 item:=by
  intro X L M N O i pins s σ H E I hf st Q;subst L M N;obtain⟨R,hi⟩:=Q;obtain⟨⟨old,g⟩,a⟩:=st;obtain⟨f,rv,p,hl⟩:=qQ.items I R;have S:X.A.in1.handled=none:=I.ok.hd O;have D:=G7 (prog:=X.prog) (w:=X.w) S l d t Y f.toArray;have W:=WalksT.enumerateD D e C (by simp[C,Ne.symm Z]) (by simp);obtain⟨oi,T,_⟩:=a.live;refine wpAny_pyNext_enum_itemD D g ⟨a,p⟩ (by grind) C (by simp[C,Ne.symm Z]) λx J F hx r U u Vb kp=>⟨_,rfl,?_⟩;have G:s.heap.objs.size≠e/\s.heap.objs.size≠d:=⟨λz=>cu _ (z▸bg g),λz=>cu _ (z▸bg T)⟩;refine W.go n x1 pos i s.heap.objs.size {s with heap:=J,toks:=F+1} _ _ ⟨⟨x,r⟩,U,G.1,G.2⟩ λVc j y=>?_;have B:s.heap.objs.size∉ [e,d]:=by simp[G.1,G.2]
  have m:=y s.heap.objs.size _ B u;have V:=I.hok.fresh (ae _);obtain⟨v,hv,rx⟩:=O3 rv hi hx;have I1:=I.turnedTL (t':=F+1) (xs:=[.int i,v]) hf (λb q c z=>y b q c (kp b q (λz=>c (by simp[z])) (λz=>c (by simp[z])) z)) (ae _) ⟨by rw[c8];simp,[.int i F,x],.cons ⟨F,rfl⟩ (.cons rx .nil),0,m⟩;refine⟨.ref s.heap.objs.size,_,I1,rfl,⟨_,v,hv,V,rfl,rfl⟩,⟨j.1,j.2.1⟩,λb c=>?_⟩;rw[aE λz:b=s.heap.objs.size=>B (z▸c)];exact(hf b c).1
 done:=by intro X L M N O i pins s σ H E I hf st Q;subst L M N;obtain⟨R,hi⟩:=Q;obtain⟨⟨old,g⟩,a⟩:=st;obtain⟨f,rv,p,hl⟩:=qQ.items I R;have S:X.A.in1.handled=none:=I.ok.hd O;have D:=G7 (prog:=X.prog) (w:=X.w) S l d t Y f.toArray;have St:mL s.heap l d t f.toArray.size/\IsB s.heap l t f.toArray:=⟨by rw[bz,<-hl,<-hi];exact a,p⟩;exact wpAny_pyNext_enum_endD D g St λJ eb=>⟨rfl,I.oZ hf λb o c z=>eb b o (λq=>c (by simp[q])) z⟩
 self:=λ_ _ _ _ _ st h=>by obtain⟨⟨old,g⟩,_⟩:=st;exact p7 g h
theorem Ca:∀a (k i:Nat),(z29 k a)[i]?=(a[i]?).map λx=>.tuple [.int ((k+i:Nat):Int),x]
 | [],k,i=>by simp[z29]
 |x::a,k,0=>by simp[z29]
 |x::a,k,i+1=>by
  rw[z29,fh,fh,Ca a (k+1) i];have:k+1+i=k+(i+1):=by omega
  rw[this]
theorem yG:∀a k,(z29 k a).length=a.length
 | [],_=>rfl
 |x::a,k=>by rw[z29,bh,bh,yG a]
theorem O4 {K:W.Frag}(b:t8 K H B l t u)(rs:Reps K H B u c)(m:c.length<=au):Walk K (B9 K l t u) B H (z29 0 c):=by
 have n:=rs.length;constructor
 ·rw[yG];exact m
 ·intro g kp i h;rw[yG]at h;exact⟨b.keep kp,by omega⟩
 ·intro g kp;exact⟨b.keep kp,by rw[yG];exact n.symm⟩
 ·intro g kp i x s h y;obtain⟨p,v,o,j,rfl,rfl⟩:=y;obtain⟨d,hd,r⟩:=Reps.kJ rs o;refine⟨Same.upd j,.tuple [.int i,d],by rw[Ca,hd];simp,p,[.int i,v],rfl,cA.of bI,?_⟩;refine Reps.cons rfl (Reps.cons ?_ rfl);exact Rep.keep (λa q e f=>by have k:=kp a q e f;rw[aE (bQ k j)];exact k) (λ_ z=>z) d r
theorem zaw (l:Bool)(t:Addr)(items:Array Value):Meets (Builtin.«enumerate.__new__» {pos:=[.type "enumerate",.ref t]}) fun _ R s=>
  IsB s.heap l t items/\R (.ok (.ret (.ref (s.heap.push (eB l t)).objs.size))) {s with heap:=(s.heap.push (eB l t)).push {cls:=.type "enumerate",data:=.fields #[.none,.bool false,.ref s.heap.objs.size,km 0,.none,.none]}}:=by
 rintro prog w A R s ⟨a,c⟩
 have sub:=sub_enumerate
 delta Builtin.«enumerate.__new__»
 repeat (any_goals (first|assumption|(apply G8 a)|wp_step))
 refine wpAny_stack λst _ _ _=>?_;refine fm (Q:=λ_ s'=>s'=s) (bb rfl) (λb s' hs=>?_) λ_ _ x=>x;subst hs;cases b
 all_goals repeat (any_goals (first|assumption|(apply G8 a)|wp_step))
 all_goals exact c
theorem zfr (a:IsB s.heap l t items)
  (b:Q (.ref (s.heap.push (eB l t)).objs.size) {s with heap:=(s.heap.push (eB l t)).push {cls:=.type "enumerate",data:=.fields #[.none,.bool false,.ref s.heap.objs.size,km 0,.none,.none]}}):wpAny (model prog w) A (call (.type "enumerate") [.ref t]) Q E s:=by
 refine callType_new F.called_enumerate dc (F.typeCall_enumerate_1 _) (F.newCall_enumerate_1 _) (λobj=>?_) F.entry_enumerate_new (zaw l t items) ⟨a,⟨_,bt _ rfl,rfl⟩,b⟩;exact F.args_object_init_2 _ _
theorem z49 (h:Inv X M O N s1)(u:RelV y v)(x:Rep X.K N B y d)(e:seqR d=.ok z)(q:∀J,Walk X.K J B N (z29 0 z)->R J N):
  wpAny (model X.prog X.w) X.A (call (.type "enumerate") [v]) (λC D=>wpAny (model X.prog X.w) X.A (qd C) (tR X M O (.Tuple n L tp) R) X.xe D) X.xe s1:=by
 obtain⟨l,t,E,rfl,p,i,F⟩:=t8.of x e;cases u;obtain⟨G,H,pt,_⟩:=qQ.items h (p.keep (Kp.of (Same.refl N)));refine zfr pt ?_;generalize j:s1.heap.push (eB l t)=f;have g:f.objs.size=s1.heap.objs.size+1:=j▸size_push' _ _;have k:Inv X M O N {s1 with heap:=f}:=h.kept λb o e=>j▸ak _ e;generalize a:f.push {cls:=.type "enumerate",data:=.fields #[.none,.bool false,.ref s1.heap.objs.size,km 0,.none,.none]}=c;have I:Inv X M O N {s1 with heap:=c}:=k.kept λb o e=>a▸ak _ e;have r:c.get? f.objs.size=some {cls:=.type "enumerate",data:=.fields #[.none,.bool false,.ref s1.heap.objs.size,km 0,.none,.none]}:=a▸bt _ rfl;have g2:c.get? s1.heap.objs.size=some (eB l t):=by rw[<-a];refine ak _ ?_;rw[<-j];exact bt _ rfl
 have s:=pt.lt;refine p7 r ?_;refine⟨f.objs.size,[f.objs.size,s1.heap.objs.size],_,B9 X.K l t E,N,rfl,I,zfi (cb s) (cb (ky s (g▸i9 _))) (g▸Nat.succ_ne_self _),⟨⟨.none,r⟩,mL.new g2⟩,λb m=>?_,q _ (O4 p i (mE F))⟩;rcases(ax.mp m)with rfl|m
 ·exact k.gA (ae _) (k.hok.fresh (ae _))
 ·obtain rfl:b=s1.heap.objs.size:=by simpa using m
  exact h.gA (ae _) (h.hok.fresh (ae _))
theorem Cb:c7 "enumerate"=some (.type "enumerate"):=by decide+kernel
theorem G9 (hs:isStar a=false)(b:PE X a (tD X.K fa)):PA X [a] (tDA X.K λg=>fa g>>=λx=>.ok [x]):=by refine PA.imp (Gf hs b Ge) λh H Q ⟨g,F,z,c,e,q⟩=>⟨g,F,z,c,?_,q⟩;obtain⟨x,d,e⟩:=Res.aA e;show(fa g>>=λx=>Res.ok []>>=λf=>Res.ok (x::f))=_;rw[d];exact e
theorem O5 {fs:Rho->Res GD}(h:(fs ρ>>=λx=>Res.ok [x])=.ok a):∃x,fs ρ=.ok x/\a=[x]:=by obtain⟨x,e,h⟩:=Res.aA h;cases h;exact⟨x,e,rfl⟩
theorem O6 {K:W.Frag}(b:StOk K F H m n)(i:yo x=true)(e:seqR x.2=.ok j)(f:Rep K k (BG F H x.1) v x.2):∃B,Rep K k B v x.2/\(∀a,B (some a)->F.O a=none)/\∀a,B a->BI F .al a:=by
 obtain⟨g,d⟩:=x;cases d<;>try (exact(dO e).elim)
 case list ds=>
  have c:g≠.al:=λz=>by subst z;cases i
  exact⟨_,f,λa h=>BP b c h,λa h=>BI.of b.aN (BG.aN b.aN h)⟩
 case tuple ds=>
  rcases d2.mp i with c|l
  ·have c:g≠ .al:=λz=>by subst z;cases c
   exact⟨_,f,λa h=>BP b c h,λa h=>BI.of b.aN (BG.aN b.aN h)⟩
  ·exact⟨λ_=>False,Rep.bE _ l f,λ_ h=>h.elim,λ_ h=>h.elim⟩
theorem O7 (hm:X.mg "enumerate"=none)(g:Gl X "enumerate")(hs:isStar a=false)(i:PE X a (tD X.K fa)):PI X (.Tuple b y tp) (.Call (.Name "enumerate" p) [a] [] pos) (tDW X.K λC=>fa C>>=λx=>seqR x.2>>=λd=>.ok (.al,z29 0 d)):=by
 intro A s E H R I h;obtain⟨C,F,w,f,e,q⟩:=h;obtain⟨x,j,e⟩:=Res.aA e;obtain⟨d,k,e⟩:=Res.aA e;cases e;refine Call_ (z2k I g hm Cb (PyProof.Rows.callWith_type1 (aI (G9 hs i pos A s E H (λD B=>Same H B/\eK X.K F H B D [x]) I ⟨C,F,[x],f,by show(fa C>>=λx=>Res.ok [x])=_;rw[j];rfl,λD B s1 rs=>⟨s1,rs⟩⟩) ?_) (eS hs) rfl))
 rintro G s1 ⟨D,B,l,m,n,rs⟩
 obtain⟨v,rfl,o⟩:=rs.one;obtain⟨u,rfl,r⟩:=vals1 m;exact z49 l r (Rep.there _ o) k λJ t=>q J _ B n (λc z=>⟨BG.aN f.aN z.1,z.2⟩) t
theorem O8 (hm:X.mg "enumerate"=none)(j:Gl X "enumerate")(hs:isStar a=false)(k:PE X a (tD X.K fa)):PI X (.Tuple d E tp) (.Call (.Name "enumerate" p) [a] [] O) (tDF X.K λL=>(fa L>>=λx=>.ok [x])>>=λf=>oS f L):=by
 intro M s Q H R I h;obtain⟨L,F,w,b,e,q⟩:=h;obtain⟨f,l,e⟩:=Res.aA e;obtain⟨x,m,rfl⟩:=O5 l;have e:(if yo x=true then(seqR x.2>>=λg=>Res.ok (G.al,z29 0 g,L))else Res.no)=Res.ok w:=e;split at e
 case isFalse=>cases e
 rename_i n;obtain⟨g,i,e⟩:=Res.aA e;cases e;refine Call_ (z2k I j hm Cb (PyProof.Rows.callWith_type1 (aI (G9 hs k O M s Q H (λP N=>Same H N/\eK X.K F H N P [x]) I ⟨L,F,[x],b,by show(fa L>>=λx=>Res.ok [x])=_;rw[m];rfl,λP N s1 rs=>⟨s1,rs⟩⟩) λS s1 ⟨P,N,o,r,c,rs⟩=>?_) (eS hs) rfl));obtain⟨v,rfl,t⟩:=rs.one;obtain⟨u,rfl,y⟩:=vals1 r;obtain⟨B,z,A,C⟩:=O6 b n i t;exact z49 o y z i λJ D=>q J B N F c Run.refl (cX.same c) (b.same c) A C D
abbrev qR:List Value:=[.type "ValueError",.type "Exception",.type "BaseException",.type "object"]
def fD (K:W.Frag)(C:Addr):Bool:=match K.lookup C with
 |some ⟨.type "type",_,.cls cd,sl⟩=>(match cd.mro,sl.toList with
  |.ref D::bm,[_,_,_,_,some (.builtin n),_]=>(D==C)&&(n=="ValueError.__new__")&& !cd.hasDel&&W.tailIn K qR bm&&W.nsOkIn K cd.ns
  |_,_=>false)
 |_=>false
def G' (K:W.Frag)(C:Addr):Bool:=match K.lookup C with
 |some ⟨_,_,.cls c,_⟩=>W.nsIn K c.ns "__init__"==some none
 |_=>false
abbrev exV (K:W.Frag)(C:Addr):Bool:=fD K C&&G' K C
def XC (C:Addr)(h:Heap)(bm:List Value):Prop:=∃N nm q bs hdct sn sub ab col dd k0 k1 k2 k3 k5 mN,h.get? C=some (ls nm q C N bs bm hdct sn sub ab col dd k0 k1 k2 k3 k5 "ValueError.__new__")/\h.Ns N mN/\og h qR bm
def Cc (C:Addr)(h:Heap)(bm:List Value):Prop:=∃N nm q bs hdct sn sub ab col dd k0 k1 k2 k3 k5 mN,h.get? C=some (ls nm q C N bs bm hdct sn sub ab col dd k0 k1 k2 k3 k5 "ValueError.__new__")/\h.Ns N mN/\mN "__init__"=none/\og h qR bm
theorem vW:(a&&b)=true->a=true/\b=true:=ar.mp
theorem yH {K:W.Frag}{C:Addr}(q:exV K C=true):fD K C=true/\∀a cd sl,K.lookup C=some ⟨.type "type",a,.cls cd,sl⟩->W.nsIn K cd.ns "__init__"=some none:=by obtain⟨a,b⟩:=vW q;refine⟨a,λd c g e=>?_⟩;unfold G' at b;rw[e]at b;exact q8 b
theorem t9 {K:W.Frag}{C:Addr}(q:fD K C=true):∃r cd p s t u v w,K.lookup C=some ⟨.type "type",r,.cls cd,#[s,t,u,v,some (.builtin "ValueError.__new__"),w]⟩/\cd.mro=.ref C::p/\cd.hasDel=false/\W.tailIn K qR p=true/\W.nsOkIn K cd.ns=true:=by
 unfold fD at q;split at q
 ·rename_i r cd sl g;split at q
  ·rename_i A p a b c d n e hm hs;obtain⟨q,h⟩:=vW q;obtain⟨q,i⟩:=vW q;obtain⟨q,f⟩:=vW q;obtain⟨j,k⟩:=vW q;have l:=q8 j;have m:=q8 k;have o:sl=#[a,b,c,d,some (.builtin n),e]:=Array.toList_inj.mp (by rw[hs]);refine⟨r,cd,p,a,b,c,d,e,?_,?_,?_,i,h⟩
   ·rw[g,o,m]
   ·rw[hm,l]
   ·cases hd:cd.hasDel with
    |false=>rfl
    |true=>rw[hd]at f;cases f
  ·cases q
 ·cases q
theorem Hc {K:W.Frag}{C:Addr}(a:K.lookup C=some ⟨.type "type",d,.cls cd,sl⟩)(hm:cd.mro=.ref C::c)(e:W.subIn K (.ref C) v=some b):(Value.ref C::c).contains v=b:=by
 have e:W.mroIn K C v=some b:=e;unfold W.mroIn W.clsIn at e;rw[a]at e
 dsimp at e
 rw[hm]at e;exact qv e
theorem XC.mk {K:W.Frag}{C:Addr}(X:K.In h)(q:fD K C=true):∃f,XC C h f/\∀v b,W.subIn K (.ref C) v=some b->(Value.ref C::f).contains v=b:=by
 obtain⟨g,cd,f,i,j,k,l,m,a,hm,hd,d,hk⟩:=t9 q;refine⟨f,⟨cd.ns,cd.name,cd.qualname,cd.bases,cd.hasDict,cd.slotNames,cd.subclasses,cd.abstract,cd.collection,g,i,j,k,l,m,h.nsMap cd.ns,?_,.of_isNs (W.isNs_of_in X hk),W.tail_of_in X d⟩,λv b e=>Hc a hm e⟩;have c:=X _ _ a;cases cd
 dsimp only at hm hd
 rw[hm,hd]at c;exact c
theorem Cc.mk {K:W.Frag}{C:Addr}(X:K.In h)(q:exV K C=true):∃a,Cc C h a:=by
 obtain⟨e,f⟩:=yH q;obtain⟨g,cd,a,i,j,k,l,m,b,hm,hd,n,c⟩:=t9 e;refine⟨a,cd.ns,cd.name,cd.qualname,cd.bases,cd.hasDict,cd.slotNames,cd.subclasses,cd.abstract,cd.collection,g,i,j,k,l,m,h.nsMap cd.ns,?_,.of_isNs (W.isNs_of_in X c),W.nsMap_none_of_in X c (f _ _ _ b),W.tail_of_in X n⟩;have d:=X _ _ b;cases cd
 dsimp only at hm hd
 rw[hm,hd]at d;exact d
section
variable {M:Model}{A:fk}{E:Value->az->Prop}{h:Heap}{g:Array p8}{d:Drawn}{t:Nat}{os:j9}{C B e:Addr}{bm yI:List Value}{oe:Obj}{Q:Bool->az->Prop}
theorem He (T:og h qR l):l.contains (.type "BaseException")=true:=T.hasType rfl
theorem O9 (i:XC C h bm)(j:XC B h yI)(k:h.get? e=some oe)(l:oe.cls=.ref C)(a:(Value.ref C::bm).contains (.ref B)=true)(m:Q true ⟨h,g,d,t,os⟩):wpAny M A (qp (.ref e) (.ref B)) Q E ⟨h,g,d,t,os⟩:=by
 obtain⟨_,_,_,_,_,_,_,_,_,_,_,_,_,_,_,_,n,_,_⟩:=i;obtain⟨_,_,_,_,_,_,_,_,_,_,_,_,_,_,_,_,c,_,tB⟩:=j;have b:(Value.ref B::yI).contains (.type "BaseException")=true:=by rw[jn,He tB,m8]
 have f:=tc_notTuple
 repeat (first|(with_reducible refine b7 k ?_;rw[l])|with_reducible refine b7 c ?_|(with_reducible refine g6 c ?_;rw[b])|(with_reducible refine g6 n ?_;rw[a])|wp_step)
 exact m
end
section
variable {prog:cj}{w:World}{A:fk}{E:Value->az->Prop}{K:W.Frag}{h:Heap}{g:Array p8}{d:Drawn}{t:Nat}{os:j9}{C e:Addr}{oe:Obj}
structure XA (K:W.Frag)(C:Addr):Prop where
 cl:W.findIn K (.ref C) "__class__"=some (some (.builtin "object.__class__"))
 ga:W.findIn K (.ref C) "__getattribute__"=some (some (.builtin "BaseException.__getattribute__"))
 gt:W.findIn K (.ref C) "__getattr__"=some none
 ob:W.subIn K (.ref C) (.type "object")=some true
 be:W.subIn K (.ref C) (.type "BaseException")=some true
 ty:W.typeIn K (.ref C)=some (.type "type")
 is:(W.clsIn K C).isSome=true
 ex:fD K C=true
theorem z7n (a:h.get? e=some oe)(b:oe.cls=.ref C):W.Looks M h (qe (.ref e)) (.ref C):=by intro A Q E s k q;refine aa (wpAny_loadPart (k _ _ a) ?_);rw[b];exact bb q
theorem zs8 (X:K.In h)(a:XA K C)(b:h.get? e=some oe)(c:oe.cls=.ref C)(f:R (.ok (.ret (.ref C))) ⟨h,g,d,t,os⟩):
  i8 (model prog w) A (.call (.builtin "getset_descriptor.__get__") ⟨[.builtin "object.__class__",.ref e,tp],[]⟩) R ⟨h,g,d,t,os⟩:=by
 have i:=z7n (M:=model prog w) b c;have l1:=W.looks_subIn (M:=model prog w) X a.ob;refine i6 W.KF.slot_gs.plain W.KF.entry_gs ?_;refine W.KF.slot_gs.check _ _ _ _ _ _ _ _ W.KF.type_class (W.KF.args_gs _ _ _) ?_;refine aa (bb ?_);unfold Builtin.Getset_descriptor.descrGetter Builtin.Getset_descriptor.descrCheckInstance Builtin.Getset_descriptor.descrNameAndClass m9;simp only[W.KF.owner_class]
 repeat lk
 refine⟨Code.quiet_builtin _ (by decide+kernel),?_⟩;refine nn W.KF.entry_class ?_;unfold Builtin.«object.__class__»;unfold shownTypeOf;repeat lk
 exact f
theorem zlj (X:K.In h)(a:XA K C)(b:h.get? e=some oe)(c:oe.cls=.ref C)(i:Q (.done (.ret (.ref C))) ⟨h,g,d,t,os⟩):
  wpAny (model prog w) A (Builtin.«object.__getattribute__» ⟨[.ref e,.str "__class__" j],[]⟩) Q E ⟨h,g,d,t,os⟩:=by
 have⟨f5,f6,f7⟩:=And.intro F.typeOf_object_class (And.intro F.slot_gs_get.lookup F.slot_gs_set.lookup);have f:=W.looks_findIn (M:=model prog w) X a.cl
 repeat (any_goals (first|assumption|(with_reducible refine b7 b ?_;rw[c])|with_reducible refine f.at ?_|wp_step))
 refine zs8 X a b c ?_
 repeat' first|assumption|wp_step
theorem x_call {b:Tok}{R:Result->az->Prop}(X:K.In h)(a:XA K C)(c:h.get? e=some oe)(f:oe.cls=.ref C)(i:R (.ok (.ret (.ref C))) ⟨h,g,d,t,os⟩):
  i8 (model prog w) A (.call (.builtin "BaseException.__getattribute__") ⟨[.ref e,.str "__class__" b],[]⟩) R ⟨h,g,d,t,os⟩:=by
 refine i6 F.excAttr_ValueError.ga.plain F.entry_bexc_ga ?_;have l1:=W.looks_subIn (M:=model prog w) X a.be;have l:=F.args_bexc_ga (.ref e) (.str "__class__" b);have j:qg "BaseException.__getattribute__"=some .slot:=by decide+kernel
 have k:splitId "BaseException.__getattribute__"=some ("BaseException","__getattribute__"):=by decide+kernel
 simp only[j8,j,k];refine aa ?_;unfold m9
 repeat (first|(with_reducible refine zlj X a c f ?_;exact i)|(with_reducible refine b7 c ?_;rw[f])|with_reducible refine l1.at ?_|wp_step)
theorem x_by (X:K.In h)(a:XA K C)(b:h.get? e=some oe)(c:oe.cls=.ref C)(f:Q (.ref C) ⟨h,g,d,t,os⟩):
  wpAny (model prog w) A (getAttrBy (.ref e) (.str "__class__" i) false) Q E ⟨h,g,d,t,os⟩:=by
 have f3:=F.excAttr_ValueError.ga.bind (.ref e);have l1:=W.looks_findIn (M:=model prog w) X a.ga;have l2:=W.looks_findIn (M:=model prog w) X a.gt
 repeat (any_goals (first|assumption|(with_reducible refine b7 b ?_;rw[c])|with_reducible refine l1.at ?_|with_reducible refine l2.at ?_|wp_step))
 refine x_call X a b c ?_
 repeat' first|assumption|wp_step
theorem O' (X:K.In h)(a:XA K C)(b:h.get? e=some oe)(c:oe.cls=.ref C)(f:Q (some (.ref C)) ⟨h,g,d,t+1,os⟩):wpAny (model prog w) A (p5 (.ref e) "__class__") Q E ⟨h,g,d,t,os⟩:=by repeat (any_goals (first|assumption|with_reducible apply x_by X a b c|wp_step))
theorem Pa (q:fD K C=true)(e:W.subIn K (.ref C) (.ref C)=some b):b=true:=by obtain⟨c,cd,d,f,g,h,i,j,a,hm,_⟩:=t9 q;rw[<-Hc a hm e,jn,beq_self_eq_true,Bool.true_or]
structure XV (K:W.Frag)(v:Value):Prop where
 ty:∀(M:Model) (h:Heap),K.In h->W.Looks M h (qe v) (.type "type")
 is:∀(M:Model) (h:Heap),K.In h->W.Looks M h (isType v) true
theorem z9x {D:Addr}(X:K.In h)(q:(W.clsIn K D).isSome=true):W.Looks M h (isType (.ref D)) true:=by
 unfold W.clsIn at q;split at q
 ·rename_i a;intro A Q E s k z;refine aa (wpAny_load (k _ _ (X _ _ a)) ?_);exact bb z
 ·cases q
theorem XV.own {D:Addr}(t:W.typeIn K (.ref D)=some (.type "type"))(q:(W.clsIn K D).isSome=true):XV K (.ref D):=⟨λM h X=>W.looks_typeIn X t,λM h X=>z9x X q⟩
theorem XV.val:XV K (.type "ValueError"):=⟨λM h X=>W.Looks.of_pure (by kernel_rfl),λM h X=>W.Looks.of_pure rfl⟩
theorem zsy (X:K.In h)(a:XA K C)(c:h.get? e=some oe)(f:oe.cls=.ref C)(i:XV K v)(hs:W.subIn K (.ref C) v=some b)(j:Q (.done (.ret (.bool b))) ⟨h,g,d,t,os⟩)(m:Q (.done (.ret (.bool b))) ⟨h,g,d,t+1,os⟩):
  wpAny (model prog w) A (Builtin.«isinstance.nested» ⟨[.ref e,v,.int n s],[]⟩) Q E ⟨h,g,d,t,os⟩:=by
 have k:=z7n (M:=model prog w) c f;have l1:=i.ty (model prog w) h X;have l2:=i.is (model prog w) h X;have l:=W.looks_subIn (M:=model prog w) X hs;have o:W.Looks (model prog w) h (m9 (.ref e) v) b:=k.andThen l;have p:=z9x (M:=model prog w) X a.is;unfold Builtin.«isinstance.nested»;refine aa (k.at ?_);by_cases q:(Value.ref C==v)=true
 ·rw[qt q];have r:b=true:=by cases q8 q;exact Pa a.ex hs
  subst r;exact aa (mz (aa (bb (bb j))))
 ·rw[qu q];refine aa (l1.at ?_)
  k_delta "plainIsInstance"
  refine aa (aa (l2.at ?_));refine aa (o.at ?_);cases b with
  |true=>exact bb (bb j)
  |false=>refine aa (O' X a c f ?_);refine aa (p.at ?_);refine aa (mz ?_);exact l.at (bb m)
theorem zun (X:K.In s.heap)(a:XA K C)(i:s.heap.get? e=some oe)(j:oe.cls=.ref C)(k:XV K v)(hs:W.subIn K (.ref C) v=some b)(l:∀f,Q (.bool b) {s with toks:=f}):
  wpAny (model prog w) A (call (.builtin "isinstance") [.ref e,v]) Q E s:=
 call_isinstance (S:=λ_ R s=>(K.In s.heap/\s.heap.get? e=some oe)/\∀f,R (.ok (.ret (.bool b))) {s with toks:=f}) (λ_ _ _ _ s c=>isinstance_outer (by obtain⟨h,g,d,t,os⟩:=s;exact zsy c.1.1 a c.1.2 j k hs (c.2 t) (c.2 (t+1))) nofun) ⟨⟨X,i⟩,l⟩
end
theorem Pb (f:Array Value->Array Value)(o:Obj):(Obj.mapFields f o).dict=o.dict:=by unfold Obj.mapFields;split<;>rfl
def TrD (h base:Heap)(e:Addr)(cls:Value)(dd:Option Addr)(fl:Value):Prop:=∃ob vs T tr ts,h.get? e=some ob/\ob.cls=cls/\ob.dict=dd/\ob.data=.fields vs/\vs[1]?=some (.ref T)/\base.get? T=none/\T≠e/\h.get? T=some tr/\tr.data=.fields ts/\ts[3]?=some fl
def FlD (base:Heap)(l:List Env)(e:Addr)(cls:Value)(dd:Option Addr)(h:Heap):Prop:=base.StaysIn h/\base.get? e=none/\h.FunFrames base l/\TrD h base e cls dd .none
def Hf (base:Heap)(l:List Env)(e:Addr)(cls:Value)(dd:Option Addr)(L:Addr)(h:Heap):Prop:=base.StaysIn h/\base.get? e=none/\h.FunFrames base l/\TrD h base e cls dd (km L)
theorem FlD.first (x:FlD base l e cls g h):∃ob f,h.get? e=some ob/\ob.cls=cls/\ob.dict=g/\ob.data=.fields f:=by obtain⟨_,_,_,ob,f,_,_,_,a,b,c,d,_⟩:=x;exact⟨ob,f,a,b,c,d⟩
section
variable {M:Model}{A:fk}{E:Value->az->Prop}{s:az}{base:Heap}{env:Env}{outer:List Env}{L e:Addr}{Q:Unit->az->Prop}{cls:Value}{dd:Option Addr}
theorem z9e (fr:A.frames=some (env::outer))(ff:s.heap.FunFrames base (env::outer))(y:env.frame=some L)(m:s.heap.get? e=some ob)(st:base.StaysIn s.heap)(be:base.get? e=none)(l:ob.data=.fields vs)(sz:1<vs.size)
  (go:∀f,base.StaysIn f->f.FunFrames base (env::outer)->TrD f base e ob.cls ob.dict (km L)->s.heap.UpToSlots f->Q () {s with heap:=f}):
  wpAny M A (do
   let a <-frameOf env
   let pl <-entryPlaceOf L hn
   let b <-EntryCells.newEntry head a .none (km L) .none pl
   setField (.ref e) 1 b) Q E s:=by
 have p:e∉(env::outer).filterMap (·.frame):=λz=>by obtain⟨_,o,q,n⟩:=ff.mem z;rw[m]at q;cases q;exact n vs l
 refine aa (wpAny_frameOf_fun fr ff y λd D=>aa (wpAny_entryPlaceOf λpl t=>?_));refine aa (gx ?_ (t.sizeOk5 _ _ _ _ _));have h:d.get? e=some ob:=D.2.1 e p▸m;have i:base.StaysIn d:=λb o q=>by rw[D.2.1 b λz=>by rw[(ff.mem z).1]at q;cases q];exact st b o q
 generalize u:({cls:=.type "traceback",dict:=none,data:=.fields ([head,.ref L,.none,km L,.none]++(if pl.isEmpty then ao 6 Value.none else pl)).toArray}:Obj)=j;have k:=ak j h;have w:d.objs.size≠e:=λz=>absurd (bg h) (z▸cu _);refine jy k l sz (go _ ?_ ?_ ?_ ?_)
 all_goals generalize B:(λv:Array Value=>v.setIfInBounds 1 (Value.ref d.objs.size))=g
 all_goals
  have x:=Obj.data_mapFields l g;have r:=gn (Obj.mapFields g) k (Obj.isFreed_of_fields x);have C:((d.push j).update e (Obj.mapFields g)).get? d.objs.size=some j:=by rw[eo _ _ (Ne.symm w)];exact bt d (by rw[<-u];rfl)
  have keep:∀b o,b≠e->d.get? b=some o->((d.push j).update e (Obj.mapFields g)).get? b=some o:=λb o n q=>by rw[eo _ _ (Ne.symm n)];exact ak _ q
  have c:∀b o,s.heap.get? b=some o->(∀vs,o.data≠.fields vs)->b≠e:=λb o q n z=>by rw[z,m]at q;cases q;exact n vs l
 ·exact λb o q=>keep b o (λz=>by rw[z,be]at q;cases q) (i b o q)
 ·refine ff.of_keeps λb o q n=>?_;obtain⟨sl,z⟩:=D.2.2 b o q;exact⟨_,keep b _ (c b o q n) z,rfl⟩
 ·refine⟨_,_,d.objs.size,j,_,r,Obj.cls_mapFields _ _,Pb _ _,x,?_,i.fresh,w,C,by rw[<-u],?_⟩
  ·rw[<-B];simp[sz]
  ·first|(simp;done)|(rcases t with rfl|⟨_,_,_,_,_,_,_,rfl⟩<;>simp)
 ·exact λb o q n=>by obtain⟨sl,z⟩:=D.2.2 b o q;exact⟨sl,keep b _ (c b o q n) z⟩
theorem zfs (fr:A.frames=some (env::outer))(ff:s.heap.FunFrames base (env::outer))(b:env.frame=some L)(c:s.heap.get? e=some ob)(st:base.StaysIn s.heap)(be:base.get? e=none)(d:ob.data=.fields g)(f:g[1]?=some .none)
  (go:∀a,base.StaysIn a->a.FunFrames base (env::outer)->TrD a base e ob.cls ob.dict (km L)->s.heap.UpToSlots a->Q () {s with heap:=a}):wpAny M A (gu (.ref e) env) Q E s:=by
 unfold gu;simp only[b];refine aa (gg c d f ?_);exact z9e fr ff b c st be d (gm.mp f).1 go
theorem zlr (fr:A.frames=some (env::outer))(ff:s.heap.FunFrames base (env::outer))(f:env.frame=some L)(l:TrD s.heap base e cls dd .none)(st:base.StaysIn s.heap)(be:base.get? e=none)
  (go:∀c,base.StaysIn c->c.FunFrames base (env::outer)->TrD c base e cls dd (km L)->s.heap.UpToSlots c->Q () {s with heap:=c}):wpAny M A (gu (.ref e) env) Q E s:=by
 obtain⟨ob,x,T,u,m,h,rfl,rfl,i,j,p,r,d,dT,k⟩:=l;unfold gu;simp only[f];refine aa (gg h i j ?_);refine aa (gg d dT k ?_);refine aa (jy d dT (gm.mp k).1 ?_);generalize w:(λv:Array Value=>v.setIfInBounds 3 Value.none)=g;have pA:∀b,b≠T->(s.heap.update T (Obj.mapFields g)).get? b=s.heap.get? b:=λb n=>eo _ _ (Ne.symm n);have a:∀b o,s.heap.get? b=some o->(∀x,o.data≠.fields x)->b≠T:=λb o q n z=>by rw[z,d]at q;cases q;exact n m dT
 refine z9e fr (ff.of_keeps λb o q n=>⟨o,by rw[<-q];exact pA b (a b o q n),rfl⟩) f ((pA e (Ne.symm r)).trans h) (λb o q=>(pA b λz=>by rw[z,p]at q;cases q).trans (st b o q)) be i (gm.mp j).1 λc y B C t=>go c y B C λb o q n=>t b o ((pA b (a b o q n)).trans q) n
theorem zcf (st:base.StaysIn s.heap)(ff:s.heap.FunFrames base l)(p:TrD s.heap base e cls dd fl)
  (go:∀c,base.StaysIn c->c.FunFrames base l->TrD c base e cls dd .none->s.heap.UpToSlots c->Q () {s with heap:=c}):wpAny M A (iy (.ref e) none) Q E s:=by
 obtain⟨ob,y,T,x,r,h,t,hd,i,j,k,m,d,dT,u⟩:=p;have sz:=(gm.mp u).1;refine aa (gg h i j ?_);refine jy d dT sz ?_;generalize w:(λv:Array Value=>v.setIfInBounds 3 ((none:Option Addr).elim Value.none λf=>km f))=g;have pA:∀b,b≠T->(s.heap.update T (Obj.mapFields g)).get? b=s.heap.get? b:=λb n=>eo _ _ (Ne.symm n);have a:∀b o,s.heap.get? b=some o->(∀y,o.data≠.fields y)->b≠T:=λb o q n z=>by rw[z,d]at q;cases q;exact n r dT
 refine go _ (λb o q=>(pA b λz=>by rw[z,k]at q;cases q).trans (st b o q)) (ff.of_keeps λb o q n=>⟨o,(pA b (a b o q n)).trans q,rfl⟩) ⟨ob,y,T,_,_,(pA e (Ne.symm m)).trans h,t,hd,i,j,k,m,gn _ d (Obj.isFreed_of_fields (Obj.data_mapFields dT _)),Obj.data_mapFields dT _,by rw[<-w];simp[sz]⟩ λb o q n=>⟨o.slots,(pA b (a b o q n)).trans q⟩
theorem z5t (fr:A.frames=some (env::outer))(b:env.frame=some L)(fl:FlD base (env::outer) e cls dd s.heap)
  (go:∀a,Hf base (env::outer) e cls dd L a->s.heap.UpToSlots a->Q () {s with heap:=a}):wpAny M A (gu (.ref e) env) Q E s:=by
 obtain⟨f1,f2,f3,c⟩:=fl;exact zlr fr f3 b c f1 f2 λa f g h d=>go a ⟨f,f2,g,h⟩ d
theorem Cd (x:Hf base l e cls dd L s.heap)(go:∀a,FlD base l e cls dd a->s.heap.UpToSlots a->Q () {s with heap:=a}):wpAny M A (iy (.ref e) none) Q E s:=by obtain⟨f1,f2,f3,b⟩:=x;exact zcf f1 f3 b λa d f g c=>go a ⟨d,f2,f,g⟩ c
theorem Hg (x:FlD base l e cls dd s.heap)(go:∀a,FlD base l e cls dd a->s.heap.UpToSlots a->Q () {s with heap:=a}):wpAny M A (iy (.ref e) none) Q E s:=by obtain⟨f1,f2,f3,b⟩:=x;exact zcf f1 f3 b λa d f g c=>go a ⟨d,f2,f,g⟩ c
theorem zgp (fr:A.frames=some (env::outer))(b:env.frame=some L)(fl:FlD base (env::outer) e cls dd s.heap)
  (go:∀a,FlD base outer e cls dd a->s.heap.UpToSlots a->Q () {s with heap:=a}):wpAny M A (qi env (.ref e)) Q E s:=by
 refine aa (z5t fr b fl λh i c=>Cd i λd j f=>?_);obtain⟨f1,f2,⟨_,_,f3⟩,g⟩:=j;exact go d ⟨f1,f2,f3,g⟩ (c.trans f)
theorem zec (fr:A.frames=some (env::outer))(ff:s.heap.FunFrames base (env::outer))(b:env.frame=some L)(c:s.heap.get? e=some ob)(st:base.StaysIn s.heap)(be:base.get? e=none)(d:ob.data=.fields n)(f:n[1]?=some .none)
  (go:∀a,FlD base outer e ob.cls ob.dict a->s.heap.UpToSlots a->Q () {s with heap:=a}):wpAny M A (qi env (.ref e)) Q E s:=by
 refine aa (zfs fr ff b c st be d f λm o p q g=>zcf o p q λh i j k l=>?_);obtain⟨_,_,f3⟩:=j;exact go h ⟨i,be,f3,k⟩ (g.trans l)
end
structure Fly (P:cj)(w:World)(base:Heap)(outer:List Env)(H:Hp)(s:az)(C a:Addr)(H':Hp)(s':az)(dd:Option Addr):Prop where
 os:s'.os=s.os
 bare:ku s'.gens
 cN:∀b xs,H b=some (.tup xs)->H' b=some (.tup xs)
 cJ:∀b o u,H b=some (.eZ o u)->H' b=some (.eZ o u)
 cO:∀b ps,H b=some (.lP ps)->∃more,H' b=some (.lP (ps++more))
 free:∀b o,s.heap.get? b=some o->H b=none->H' b=none
 hh:∃B,base.StaysIn B/\HOk P w H' B/\(∀b o,s.heap.get? b=some o->b∉frs outer->∃o',B.get? b=some o'/\(H b=none->o'=o))/\FlD B outer a (.ref C) dd s'.heap
 slot:∀b o,s.heap.get? b=some o->H b=none->b∈frs outer->∃sl,s'.heap.get? b=some {o with slots:=sl}
def CXE (P:cj)(w:World)(base:Heap):CXT:=λouter H s E e s'=>∃a C dd H',e=.ref a/\Fly P w base outer H s C a H' s' dd/\E (.ref C) dd H'
theorem Hh (x:z14 P w H h a o):∃ob,h.get? a=some ob:=by
 cases o with
 |lst b=>obtain⟨_,_,_,_,e⟩:=x;exact⟨_,e⟩
 |tup b=>obtain⟨_,_,_,_,e⟩:=x;exact⟨_,e⟩
 |dK kvs=>obtain⟨_,_,_,_,o,_,_,e,_⟩:=x;exact⟨_,e⟩
 |dT kvs=>obtain⟨_,_,_,_,o,_,_,e,_⟩:=x;exact⟨_,e⟩
 |set S n=>obtain⟨o,_,_,_,e,_⟩:=x;exact⟨_,e⟩
 |ins C dx fs=>obtain⟨_,_,_,e,_⟩:=x;exact⟨_,e⟩
 |own y=>exact x
 |xd fs=>obtain⟨_,⟨_,_,_,e,_⟩,_⟩:=x;exact⟨_,e⟩
 |eZ ob u=>exact⟨_,x.1⟩
 |lP ps=>exact⟨_,x⟩
 |ext c=>exact x.2.1
section
variable {P:cj}{w:World}{base:Heap}{outer:List Env}{H H':Hp}{s s':az}{C a:Addr}{dd:Option Addr}
theorem Fly.hok (f:Fly P w base outer H s C a H' s' dd):HOk P w H' s'.heap:=by obtain⟨B,_,b,_,fl⟩:=f.hh;exact b.kept fl.1
theorem Fly.un (f:Fly P w base outer H s C a H' s' dd):Un (frs outer) [] H H' s.heap s'.heap:=by
 obtain⟨B,_,l,d,fl⟩:=f.hh;refine⟨λb o e n c _=>?_,λb o e n c _=>f.slot b o e n c,λb o e n _=>f.free b o e n,λb o e _=>?_,f.cN,f.cJ,f.cO⟩
 ·obtain⟨h,g,i⟩:=d b o e c;rw[i n]at g;exact fl.1 b o g
 ·by_cases c:b∈frs outer
  ·obtain⟨_,j,k,_⟩:=fl.2.2.1.mem c;exact⟨j,k⟩
  ·obtain⟨h,g,_⟩:=d b o e c;exact⟨h,fl.1 b h g⟩
end
section
variable {X:Cx}{pins:List (Addr×Obj)}{σ:L2.St}{H H':Hp}{s s':az}{C a:Addr}{dd:Option Addr}
theorem Fly.inv (f:Fly X.prog X.w X.base X.stack H s C a H' s' dd)(I:Inv X pins σ H s):Inv X pins σ H' s':=by obtain⟨c,g,d,t,o⟩:=s';obtain rfl:o=s.os:=f.os;exact I.call f.un f.hok f.bare λb z=>nomatch z
theorem Fly.leave {M:Model}{outer:List Env}{Q:Unit->az->Prop}{E:Value->az->Prop}(f:Fly X.prog X.w X.base X.stack H s C a H' s' dd)(I:Inv X pins σ H s)(hs:X.stack=X.env::X.outer)(hf:X.env.frame=some X.env.locals)(hx:X.ex=[])
  (hQ:∀rO,Fly X.prog X.w X.base X.outer X.gR X.s₀ C a H' rO dd->Q () rO):wpAny M X.A (qi X.env (.ref a)) Q E s':=by
 obtain⟨B,hb,hB,Pc,fl⟩:=f.hh;rw[hs]at fl;have Pd:X.A.frames=some (X.env::X.outer):=by rw[<-hs];exact I.ok.frames
 have u0:=I.base
 have Ce:∀b o,X.s₀.heap.get? b=some o->b∉frs X.outer->b∉frs X.stack:=λb o e hn z=>by
  rw[hs]at z;unfold frs at z hn;rw[dm,hf]at z;rcases ax.mp z with z|z
  ·exact absurd (bg e) (by rw[z];exact Nat.not_lt.mpr I.ok.above)
  ·exact hn z
 have slot:∀h',s'.heap.UpToSlots h'->∀b o,X.s₀.heap.get? b=some o->X.gR b=none->b∈frs X.outer->∃sl,h'.get? b=some {o with slots:=sl}:=λh' up b o e n hn=>by
  have nx:b∉X.ex:=by rw[hx];simp
  obtain⟨sl,e1⟩:=I.base.slot b o e n hn nx;have Pe:b∈frs X.stack:=by rw[hs];unfold frs;rw[dm,hf];exact ay _ hn
  obtain⟨Vd,e2⟩:=f.slot b _ e1 (I.base.free b o e n nx) Pe;obtain⟨_,o3,e3,nd⟩:=I.ok.bZ.mem hn;rw[e]at e3;cases e3;obtain⟨Pf,e4⟩:=up b _ e2 nd;exact⟨Pf,e4⟩
 refine zgp Pd hf fl λh' Pg up=>hQ _ ⟨f.os.trans I.os,f.bare,λb xs e=>f.cN b xs (u0.cN b xs e),λb o u e=>f.cJ b o u (u0.cJ b o u e),λb ps e=>?_,λb o e n=>?_,⟨B,hb,hB,λb o e hn=>?_,Pg⟩,slot h' up⟩
 ·obtain⟨m1,e1⟩:=u0.cO b ps e;obtain⟨m2,e2⟩:=f.cO b _ e1;exact⟨m1++m2,by rw[e2,o8]⟩
 ·have nx:b∉X.ex:=by rw[hx];simp
  obtain⟨o',e'⟩:=I.base.there b o e nx;exact f.free b o' e' (I.base.free b o e n nx)
 ·have nx:b∉X.ex:=by rw[hx];simp
  obtain⟨o1,e1⟩:=I.base.there b o e nx;obtain⟨o2,e2,e3⟩:=Pc b o1 e1 (Ce b o e hn);refine⟨o2,e2,λn=>?_⟩;rw[e3 (I.base.free b o e n nx)];have:=I.base.keep b o e n hn nx;rw[this]at e1;cases e1;rfl
theorem Ph (x:HOk P w H h)(n:∀b∈l,H b=none):HOk P w H (W.hideAll h l):=λb o e=>by
 refine(x b o e).stay (λc u a q=>W.hideAll_get _ q λz=>?_) (λ_ q=>q) λ_ _ q=>q;rcases a with rfl|a
 ·rw[n c z]at e;cases e
 ·rw[n c z]at a;cases a
theorem zcs (I:Inv X pins σ H s)(h0:X.s₀.heap.get? a=none)(r:H a=none)(t:s.heap.get? a=some ob)(u:ob.cls=.ref C)(v:ob.data=.fields N)(x:N[1]?=some .none)(hs:X.stack=X.env::X.outer)(hf:X.env.frame=some X.env.locals)(y:X.ex=[])
  (B:∀g,Fly X.prog X.w X.base X.outer X.gR X.s₀ C a H g ob.dict->Q () g):wpAny M X.A (qi X.env (.ref a)) Q E s:=by
 have k:X.A.frames=some (X.env::X.outer):=hs▸I.ok.frames;have nx:∀b,b∉X.ex:=λb=>by rw[y];simp
 have h:=I.stack;rw[hs]at h
 have d:∀b∈a::frs (X.env::X.outer),H b=none:=λb i=>by
  rcases ax.mp i with rfl|i
  ·exact r
  ·exact I.fY b (hs▸i)
 have l:∀env∈X.env::X.outer,∀b,env.frame=some b->b∈a::frs (X.env::X.outer):=λenv D b i=>ay _ (ig.mpr ⟨env,D,i⟩)
 have c:∀b o,X.s₀.heap.get? b=some o->b∉frs X.outer->b∉a::frs (X.env::X.outer):=λb o e hn z=>by
  rcases ax.mp z with rfl|z
  ·rw[h0]at e;cases e
  unfold frs at z hn;rw[dm,hf]at z;rcases ax.mp z with z|z
  ·exact absurd (bg e) (z▸Nat.not_lt.mpr I.ok.above)
  ·exact hn z
 have f:=λb o e=>W.hideAll_get _ (I.bk b o e) (c b o (I.ok.bs b o e).1 (I.ok.uG e));have F:(W.hideAll s.heap (a::frs (X.env::X.outer))).get? a=none:=W.hideAll_none _ bj;refine zec (base:=W.hideAll s.heap (a::frs (X.env::X.outer))) k (W.funFrames_hide h l) hf t (λb o q=>W.of_hideAll _ q) F v x λK fl up=>B _ ⟨I.os,I.bare,I.base.cN,I.base.cJ,I.base.cO,λb o e n=>I.base.free b o e n (nx b),⟨_,f,Ph I.hok d,λb o e hn=>?_,by rw[u]at fl;exact fl⟩,λb o e n hn=>?_⟩
 ·obtain⟨G,j⟩:=I.base.there b o e (nx b);refine⟨G,W.hideAll_get _ j (c b o e hn),λn=>?_⟩;rw[I.base.keep b o e n hn (nx b)]at j;cases j;rfl
 obtain⟨sl,j⟩:=I.base.slot b o e n hn (nx b);obtain⟨_,L,p,nd⟩:=I.ok.bZ.mem hn;rw[e]at p;cases p;obtain⟨m,J⟩:=up b _ j nd;exact⟨m,J⟩
end
structure Lv (X:Cx)(H0:Hp)(c:Str):Prop where
 made:∀pins σ H s a C args h',Inv X pins σ H s->X.mg c=some (.ref C)->Same H0 H->lb s.heap h' a (.ref C) args->X.xe (.ref a) {s with heap:=h'}
 Ve:∀pins σ H s a C H' s',Inv X pins σ H s->X.mg c=some (.ref C)->Same H0 H'->Fly X.prog X.w X.base X.stack H s C a H' s' none->X.xe (.ref a) s'
def Rz (X:Cx)(f:Rho->Option Str)(σ:L2.St)(H:Hp):Prop:=∃ρ F c,StOk X.K F H σ ρ/\f ρ=some c/\Lv X F.H0 c
def Hi (K:W.Frag)(mg:Str->Option Value)(n:Nat)(m:Fn):Sp:=λvs H _ E=>∃A ds c,vs.length=n/\Reps K H A vs ds/\excOf (m ds)=some c/\∀C H',mg c=some (.ref C)->Same H H'->E (.ref C) none H'
def mM (P:cj)(w:World)(K:W.Frag)(mg:Str->Option Value)(base:Heap)(k:Nat)(x:Str)(ps:List Str)(n:Nat)(m:Fn):Prop:=∃f fd,FnOk P w K mg base (CXE P w base) k f fd ps (Hi K mg n m)/\mg x=some (.ref f)/\W.keepIn K (.ref f)=true/\Binds K fd ps []
def iU (X:Cx)(i:Nat)(n:Str)(a:Addr)(oe:Obj):Cx:={X with A:=X.A.mark (some (.ref a)),N:=X.N.set i "",calm:=false,pn:=(a,oe)::X.pn,xe:=λ_ _=>False,fx:=some (n,.ref a)}
section
variable {X:Cx}{a:Addr}{oe:Obj}
theorem Pj (ok:X.Ok)(nd:X.N.Nodup)(f:X.N[i]?=some n)(d:X.env.scope.names.lookup ("":Str)=none)(c:X.env.scope.names.lookup n=some .local):(iU X i n a oe).Ok:=by
 refine⟨ok.mod,ok.kind,ok.glob,ok.blt,ok.above,ok.inj,ok.has,ok.oE,λz=>(by cases z),ok.frames,ok.pW,ok.iJ,ok.bs,ok.iK,ok.fV,ok.fW,ok.bZ,ok.lQ,λx u z=>?_⟩;cases z;refine⟨λhm=>?_,c⟩;obtain⟨j,b⟩:=ce.mp hm;have b:(X.N.set i "")[j]?=some n:=b;by_cases e:i=j
 ·subst e;rw[cv (ba.mp f).1]at b;cases b;rw[d]at c;cases c
 ·rw[b9 e]at b;exact e (xZ nd f b)
theorem zrs (I:Inv X pins σ H s)(nd:X.N.Nodup)(C:X.N[i]?=some n)(l:X.env.scope.names.lookup ("":Str)=none)(f:X.env.scope.names.lookup n=some .local)(g:σ[i]?=some (some (.ref a)))
  (o:s.heap.get? a=some oe) (t:H a=none) (w:a≠X.env.locals) (y:a∉X.fs) (A:∀v,oe.data≠.cell v):Inv (iU X i n a oe) pins (σ.set i none) H s:=by
 obtain⟨m,hn,b⟩:=I.loc;refine⟨Pj I.ok nd C l f,I.os,I.bare,I.base,⟨m,hn,λj x v c d B=>?_⟩,I.cell,I.free,I.aW,λp h=>?_,I.hok,?_,λx u z=>?_⟩
 ·have c:(X.N.set i "")[j]?=some x:=c;by_cases e:i=j
  ·subst e;rw[cv (I.len▸(ba.mp C).1)]at d;cases d
  ·rw[b9 e]at c d;exact b j x v c d B
 ·rcases ax.mp h with rfl|h
  ·exact⟨o,t,w,y,A⟩
  ·exact I.pin p h
 ·show(σ.set i none).length=(X.N.set i "").length;rw[cq,cq];exact I.len
 ·cases z;obtain⟨u,r,q⟩:=b i n (.ref a) C g (.inl f);cases r;rcases q with⟨_,q⟩|⟨k,_⟩
  ·exact⟨m,hn,q⟩
  ·have k:X.env.scope.names.lookup n=some .cell\/X.env.scope.names.lookup n=some .free:=k;rcases k with k|k<;>(rw[f]at k;cases k)
theorem Pk (ok:X.Ok)(f:X.fx=none)(q:X.N[i]?=some n)(I:Inv (iU X i n a oe) l o H s):Inv X l (o.set i none) H s:=by
 obtain⟨m,hn,d⟩:=I.loc;have b:o.length=(X.N.set i "").length:=I.len;rw[cq]at b;refine⟨ok,I.os,I.bare,I.base,⟨m,hn,λj x v g c h=>?_⟩,I.cell,I.free,I.aW,λp k=>I.pin p (ay _ k),I.hok,by rw[cq];exact b,λx u z=>by rw[f]at z;cases z⟩;by_cases e:i=j
 ·subst e;rw[cv (b▸(ba.mp q).1)]at c;cases c
 ·rw[b9 e]at c;exact d j x v (show(X.N.set i "")[j]?=some x by rw[b9 e];exact g) c h
theorem zp3 (I:Inv X pins σ H s)(a:X.fx=none)(nd:X.N.Nodup)(hi:X.N[i]?=some n)(t:X.env.scope.names.lookup n=some .local)(B:σ[i]?=some (some v))
  (h:∀s',Inv X pins (σ.set i none) H s'->Q () s'):wpAny M A (kj X.env n pos) Q E s:=by
 obtain⟨m,hn,f⟩:=id I.loc;have kW:=I.kW;obtain⟨u,r,q⟩:=f i n v hi B (.inl t)
 have K:m n=some u:=by
  rcases q with⟨_,q⟩|⟨k,_⟩
  ·exact q
  ·have k:X.env.scope.names.lookup n=some .cell\/X.env.scope.names.lookup n=some .free:=k;rcases k with k|k<;>(rw[t]at k;cases k)
 have g:(X.env.scope.kind==.class||(X.env.scope.kind==.module&&X.env.locals != X.env.globals))=false:=by rw[I.ok.kind];rfl
 refine wpAny_onRaise (wpAny_unbindName_local t hn K g λY Z C hs=>h _ ?_);obtain⟨oL,_,_,L,_⟩:=id hn;have old:∀b o,X.s₀.heap.get? b=some o->b≠X.env.locals:=λb o e=>cb (b8 (bg e) I.ok.above);refine⟨I.ok,I.os,I.bare,⟨λb o e z D a=>(hs.2 b (old b o e)).trans (I.base.keep b o e z D a),λb o e z D a=>?_,I.base.free,λb o e a=>?_,I.base.cN,I.base.cJ,I.base.cO⟩,⟨_,C,λj y w d l O=>?_⟩,λy c e=>?_,I.free,I.aW,λp P=>?_,λb ob e=>?_,by rw[cq];exact I.len,λx u z=>by rw[a]at z;cases z⟩
 ·obtain⟨sl,d⟩:=I.base.slot b o e z D a;exact⟨sl,(hs.2 b (old b o e)).trans d⟩
 ·obtain⟨R,d⟩:=I.base.there b o e a;exact⟨R,(hs.2 b (old b o e)).trans d⟩
 ·by_cases F:i=j
  ·subst F;rw[cv (I.len▸(ba.mp hi).1)]at l;cases l
  ·rw[b9 F]at l;obtain⟨S,T,G⟩:=f j y w d l O;refine⟨S,T,?_⟩;have U:y≠n:=λz=>F (xZ nd hi (z▸d));rcases G with⟨k,G⟩|⟨k,c,e,z⟩
   ·exact .inl ⟨k,by simp only[qu U];exact G⟩
   ·exact .inr ⟨k,c,e,z.sameBut hs (kW y c e)⟩
 ·obtain⟨w,z⟩:=I.cell y c e;exact⟨w,z.sameBut hs (kW y c e)⟩
 ·obtain⟨e,V,ne,nf,dd⟩:=I.pin p P;exact⟨(hs.2 p.1 ne).trans e,V,ne,nf,dd⟩
 ·have J:∀c w,H c=some w->c≠X.env.locals:=λc w q z=>by rw[z,I.free]at q;cases q
  exact(I.hok b ob e).stay (λc w W q=>(hs.2 c (W.elim (λz=>by rw[z];exact J b _ e) λz=>J c _ z)).trans q) (λ_ q=>q) λ_ _ q=>q
theorem zdx (ok:X.Ok)(m:X.fx=none)(nd:X.N.Nodup)(D:X.N[i]?=some n)(e:X.env.scope.names.lookup n=some .local)(g:∀b z,D2.nx b z->o.nx (b.set i none) z)(j:∀v z,D2.rt v z->o.rt v z)(t:∀b z,¬D2.bk b z)(w:∀b z,¬D2.ct b z)
  (h:SP (iU X i n a oe) B D2 f s):wpAny M X.A (do bindName X.env n .none;kj X.env n F) (λ_ c=>SP X B o f c) E s:=by
 have C:∀{b:L2.St} {z:Hp} {Q:Unit->az->Prop},Inv (iU X i n a oe) B b z s->(∀c,Inv X B (b.set i none) z c->Q () c)->wpAny M X.A (do bindName X.env n .none;kj X.env n F) Q E s:=λ{b z Q} I k=>by have p:=Pk ok m D I;refine aa (wpAny_bindName (z46 p nd D (.inl e) (v:=.aK) rfl (λy x _=>?_) (.inr e)));have l:i<(b.set i none).length:=p.len▸(ba.mp D).1;refine zp3 x m nd D e (cv l) λc d=>k c ?_;rw[p9,p9]at d;exact d
 cases f with
 |next=>obtain⟨b,z,I,q⟩:=h;exact C I λc d=>⟨_,z,d,g b z q⟩
 |ret u=>obtain⟨v,b,z,I,r,q⟩:=h;exact C I λc d=>⟨v,_,z,d,r,j v z q⟩
 |brk=>obtain⟨b,z,_,q⟩:=h;simp_all
 |cont=>obtain⟨b,z,_,q⟩:=h;simp_all
theorem Cf {C:Addr}(f:Fly P w base outer H s C a c d g):c a=none:=by
 obtain⟨B,_,b,_,fl⟩:=f.hh;cases e:c a with
 |none=>rfl
 |some u=>obtain⟨o,q⟩:=Hh (b a u e);rw[fl.2.1]at q;cases q
theorem zf3 {C D:Addr}(inv:∀m,FlD B0 (X.env::X.outer) a (.ref C) dd m->s'.heap.UpToSlots m->Inv X pins σ H' {s' with heap:=m})(w0:FlD B0 (X.env::X.outer) a (.ref C) dd s'.heap)(H:H' a=none)(hs:X.stack=X.env::X.outer)(hf:X.env.frame=some X.env.locals)(hx:X.fx=none)(nd:X.N.Nodup)(Z:X.N[i]?=some n)(hv:X.env.scope.names.lookup ("":Str)=none)(G:X.env.scope.names.lookup n=some .local)
  (hB:X.mg B=some (.ref D)) (hm:∀(A:fk) (E:Value->az->Prop) (Q:Bool->az->Prop) s6 oe,X.K.In s6.heap->s6.heap.get? a=some oe->oe.cls=.ref C->Q true s6->wpAny (model X.prog X.w) A (qp (.ref a) (.ref D)) Q E s6) (I:Gl X B) (J:Vx B)
  (hQ:∀f s,SP X pins Dn f s->Q f s) (L:∀oe ws,oe.cls=.ref C->oe.dict=dd->oe.data=.fields ws->PSs (iU X i n a oe) (b0::eT) T) (q:T ⟨λc d=>Dn.nx (c.set i none) d,Dn.rt,λ_ _=>False,λ_ _=>False⟩ (σ.set i none) H'):
  wpAny (model X.prog X.w) X.A (gu (.ref a) X.env) (λ_ s2=>wpAny (model X.prog X.w) X.A (iy (.ref a) none) (λ_ s3=>wpAny (model X.prog X.w) X.A (lg (.ref a) X.env [.ExceptHandler (some (.Name B np)) (some n) (b0::eT) hp]) Q X.xe s3) X.xe s2) X.xe s':=by
 have ok:=(inv _ w0 (Heap.UpToSlots.refl _)).ok;have M:X.A.frames=some (X.env::X.outer):=hs▸ok.frames;refine z5t M hf w0 λh4 o p=>?_;refine Cd o λO P r=>?_;have t:=inv O P (p.trans r);refine oq (ny ?_) (by intro z;cases z);refine gk t.ok.kind I (jp (t.ok.glob▸t.mod.glob.keeps t.bk) hB ?_) J;obtain⟨ob,_,R,u,_⟩:=P.first;refine hm _ _ _ _ ob t.cH R u ?_;refine codeAny_handlers_suite_as (Hg P λm w6 S=>?_);have x:=inv m w6 ((p.trans r).trans S);obtain⟨oe,ws,e,y,F,b⟩:=w6.first;refine z46 x nd Z (.inl G) (v:=.ref a) rfl (λs7 I7 ch=>?_) (.inr G);obtain⟨ad,U,V⟩:=ch;have nL:a≠X.env.locals:=λz=>by obtain⟨_,o3,l,j⟩:=x.stack.mem (by rw[hs,dm,hf];exact bj);rw[<-z]at l;rw[e]at l;cases l;exact j ws b
 have nF:a∉X.fs:=λz=>by obtain⟨_,o3,l,j⟩:=x.bZ.mem z;rw[e]at l;cases l;exact j ws b
 have nA:a≠ad:=λz=>by
  rcases V with h|h
  ·exact nL (z.trans h)
  ·obtain⟨v,oc,k,g⟩:=x.cell n ad h;rw[<-z]at k;rw[e]at k;cases k;rw[b]at g;cases g
 have W:=(U.2 a nA).trans e;have Y:i<σ.length:=x.len▸(ba.mp Z).1;have I8:=zrs I7 nd Z hv G (cv Y) W H nL nF (λv z=>by rw[b]at z;cases z);rw[p9]at I8;refine fm (L oe ws y F b pins s7 _ H' ⟨λc d=>Dn.nx (c.set i none) d,Dn.rt,λ_ _=>False,λ_ _=>False⟩ I8 q) (λVf s9 h9=>?_) λ_ _ z=>z.elim;refine fm (zdx (D2:=⟨λc d=>Dn.nx (c.set i none) d,Dn.rt,λ_ _=>False,λ_ _=>False⟩) ok hx nd Z G (λ_ _ z=>z) (λ_ _ z=>z) (λ_ _ z=>z) (λ_ _ z=>z) h9) (λ_ s5 O=>hQ _ s5 O) λ_ _ z=>z
theorem Fly.land {C:Addr}(I:Inv X s x t s1)(fl:Fly X.prog X.w X.base X.stack t s1 C a u v y)(d:X.base.StaysIn c)(f:HOk X.prog X.w u c)(g:∀b o,s1.heap.get? b=some o->b∉frs X.stack->∃j,c.get? b=some j/\(t b=none->j=o))(n:FlD c X.stack a (.ref C) y k)(up:v.heap.UpToSlots k):Inv X s x u {v with heap:=k}:=by refine Fly.inv ⟨fl.os,fl.bare,fl.cN,fl.cJ,fl.cO,fl.free,⟨c,d,f,g,n⟩,λb o e z l=>?_⟩ I;obtain⟨sl,p⟩:=fl.slot b o e z l;obtain⟨_,r,m,h⟩:=I.stack.mem l;rw[e]at m;cases m;obtain⟨i,q⟩:=up b _ p h;exact⟨i,q⟩
theorem sJ {C D:Addr}(xC:fD X.K C=true)(d:fD X.K D=true)(f:W.subIn X.K (.ref C) (.ref D)=some true)(A:fk)(E:Value->az->Prop)(Q:Bool->az->Prop)(b:az)(oe:Obj)(k:X.K.In b.heap)(e:b.heap.get? a=some oe)(c:oe.cls=.ref C)(q:Q true b):wpAny (model X.prog X.w) A (qp (.ref a) (.ref D)) Q E b:=by obtain⟨g,h,i⟩:=XC.mk k xC;obtain⟨j,l,_⟩:=XC.mk k d;exact O9 h l e c (i _ _ f) q
end
section
variable {X:Cx}{n x:Str}{p p1 p2 pos:Pos}{a C:Addr}{oe:Obj}{v:V}{u:Value}{b:Bool}
theorem Hj (b:X.fx=some (n,.ref a))(c:X.env.scope.names.lookup n=some .local)(hd:Vx n):PE X (.Name n p) (λ_ H Q=>Q (.ref a) H):=by intro d s e H Q I h;obtain⟨m,hn,hm⟩:=I.fx n _ b;exact pa (nz I.ok.kind c hn hm ⟨.ref a,H,I,rfl,h⟩) hd
theorem Pl (a:Gl X x)(hm:X.mg x=some u\/(X.mg x=none/\c7 x=some u/\x≠"__name__"))(r:RelV v u)(hd:Vx x):PE X (.Name x p) (λ_ H Q=>Q v H):=by
 intro e s f H Q I h;rcases hm with hm|⟨b,c,d⟩
 ·exact z4p I a hm ⟨v,H,I,r,h⟩ hd
 ·exact z2k I a b c ⟨v,H,I,r,h⟩ d hd
def Xh (X:Cx)(a:Addr)(oe:Obj):Prop:=∀pins σ H s,Inv X pins σ H s->s.heap.get? a=some oe
theorem zte (hm:X.mg "isinstance"=none)(h:Gl X "isinstance")(i:X.fx=some (n,.ref a))(j:X.env.scope.names.lookup n=some .local)(hd:Vx n)(k:Xh X a oe)(l:oe.cls=.ref C)
  (c:Gl X x) (d:X.mg x=some u\/(X.mg x=none/\c7 x=some u/\x≠"__name__")) (r:RelV v u) (m:∀w,RelV v w->w=u) (f:Vx x) (xa:XA X.K C) (o:XV X.K u) (hs:W.subIn X.K (.ref C) u=some b):
  PE X (.Call (.Name "isinstance" p) [.Name n p1,.Name x p2] [] pos) (tD X.K λ_=>.ok (.fr,.bool b)):=by
 intro P s T H Q I t;obtain⟨U,F,z,N,e,q⟩:=t;cases e;refine il (z2k (u:=.builtin "isinstance") I h hm (by decide+kernel) ?_ dc dc);have y:=ya (Hj (p:=p1) i j hd) (ya (Pl (p:=p2) c d r f) jF);refine PyProof.Rows.callWith_builtin1 (aI (y pos P s T H (λS R=>S=[.ref a,v]/\R=H) I ⟨rfl,rfl⟩) λV s1 A=>?_) rfl rfl;obtain⟨S,R,g,B,rfl,rfl⟩:=A;cases B with
 |cons D rt=>
  cases rt with
  |cons E G=>cases G;rename_i J L;obtain rfl:J=Value.ref a:=D;have M:=m L E;subst M;refine zun g.cH xa (k _ _ _ _ g) l o hs λO=>?_;exact⟨.bl b,R,g.tok _,rfl,q _ R (Same.refl R) rfl⟩
end
section
theorem aC (h:(a&&b)=true):a=true/\b=true:=ar.mp h
theorem aQ (h:(a&&b&&c)=true):a=true/\b=true/\c=true:=⟨(aC (aC h).1).1,(aC (aC h).1).2,(aC h).2⟩
theorem bJ (h:(a&&b&&c&&d)=true):a=true/\b=true/\c=true/\d=true:=⟨(aQ (aC h).1).1,(aQ (aC h).1).2.1,(aQ (aC h).1).2.2,(aC h).2⟩
theorem dC (h:(a&&b&&c&&d&&e)=true):a=true/\b=true/\c=true/\d=true/\e=true:=⟨(bJ (aC h).1).1,(bJ (aC h).1).2.1,(bJ (aC h).1).2.2.1,(bJ (aC h).1).2.2.2,(aC h).2⟩
theorem cI (h:(!b)=true):b=false:=by cases b<;>first|rfl|cases h
theorem ff {p:Prop}(h:b=false)(z:b=true):p:=by rw[h]at z;cases z
theorem fQ (h:l.isEmpty=true):l=[]:=by cases l<;>first|rfl|cases h
theorem nW (h:(!l.isEmpty)=true):∃x r,l=x::r:=by cases l<;>first|exact⟨_,_,rfl⟩|cases h
theorem aH (h:o.any f=true):∃v,o=some v/\f v=true:=by
 cases o with
 |none=>cases h
 |some v=>exact⟨v,rfl,h⟩
theorem bT {a:Type}{o:Option a}{v:a}{q:a->Prop}(h:o=some v)(d:o=none\/∃u,o=some u/\q u):q v:=by grind
theorem pB (h:vv e=some v):∃p,e=.Name v p:=bT (q:=λv=>∃p,e=.Name v p) h (by cases e<;>first|exact .inl rfl|exact .inr ⟨_,rfl,_,rfl⟩)
theorem sM (h:fI e=some v):∃k p,e=.Constant v k p:=bT (q:=λv=>∃k p,e=.Constant v k p) h (by cases e<;>first|exact .inl rfl|exact .inr ⟨_,rfl,_,_,rfl⟩)
theorem Pm (h:vx e=some v):∃p,e=.BinOp v.1 v.2.1 v.2.2 p:=bT (q:=λv=>∃p,e=.BinOp v.1 v.2.1 v.2.2 p) h (by cases e<;>first|exact .inl rfl|exact .inr ⟨_,rfl,_,rfl⟩)
theorem pC (h:vy e=some v):∃p,e=.UnaryOp v.1 v.2 p:=bT (q:=λv=>∃p,e=.UnaryOp v.1 v.2 p) h (by cases e<;>first|exact .inl rfl|exact .inr ⟨_,rfl,_,rfl⟩)
theorem mO (h:nT e=some v):∃p,e=.Compare v.1 v.2.1 v.2.2 p:=bT (q:=λv=>∃p,e=.Compare v.1 v.2.1 v.2.2 p) h (by cases e<;>first|exact .inl rfl|exact .inr ⟨_,rfl,_,rfl⟩)
theorem iV (h:qG e=some v):e=.BoolOp v.1 v.2.1 v.2.2:=bT (q:=λv=>e=.BoolOp v.1 v.2.1 v.2.2) h (by cases e<;>first|exact .inl rfl|exact .inr ⟨_,rfl,rfl⟩)
theorem Pn (h:vz e=some v):∃p,e=.IfExp v.1 v.2.1 v.2.2 p:=bT (q:=λv=>∃p,e=.IfExp v.1 v.2.1 v.2.2 p) h (by cases e<;>first|exact .inl rfl|exact .inr ⟨_,rfl,_,rfl⟩)
theorem yJ (h:oT e=some v):∃k p,e=.Tuple v k p:=bT (q:=λv=>∃k p,e=.Tuple v k p) h (by cases e<;>first|exact .inl rfl|exact .inr ⟨_,rfl,_,_,rfl⟩)
theorem Hk (h:sr e=some v):∃p,e=.List v p:=bT (q:=λv=>∃p,e=.List v p) h (by cases e<;>first|exact .inl rfl|exact .inr ⟨_,rfl,_,rfl⟩)
theorem vX (h:Ba e=some v):∃p,e=.Dict v.1 v.2 p:=bT (q:=λv=>∃p,e=.Dict v.1 v.2 p) h (by cases e<;>first|exact .inl rfl|exact .inr ⟨_,rfl,_,rfl⟩)
theorem vY (h:kK e=some v):∃p,e=.Subscript v.1 v.2 p:=bT (q:=λv=>∃p,e=.Subscript v.1 v.2 p) h (by cases e<;>first|exact .inl rfl|exact .inr ⟨_,rfl,_,rfl⟩)
theorem Po (h:vA e=some v):∃p,e=.Slice v.1 v.2.1 v.2.2 p:=bT (q:=λv=>∃p,e=.Slice v.1 v.2.1 v.2.2 p) h (by cases e<;>first|exact .inl rfl|exact .inr ⟨_,rfl,_,rfl⟩)
theorem sN (h:yq e=some v):e=.Call v.1 v.2.1 v.2.2.1 v.2.2.2:=bT (q:=λv=>e=.Call v.1 v.2.1 v.2.2.1 v.2.2.2) h (by cases e<;>first|exact .inl rfl|exact .inr ⟨_,rfl,rfl⟩)
theorem kP (h:sx e=some v):e=.Attribute v.1 v.2.1 v.2.2:=bT (q:=λv=>e=.Attribute v.1 v.2.1 v.2.2) h (by cases e<;>first|exact .inl rfl|exact .inr ⟨_,rfl,rfl⟩)
theorem vZ (h:Bb e=some v):∃p,e=.ListComp v.1 v.2.1 v.2.2 p:=bT (q:=λv=>∃p,e=.ListComp v.1 v.2.1 v.2.2 p) h (by cases e<;>first|exact .inl rfl|exact .inr ⟨_,rfl,_,rfl⟩)
theorem eU (h:bF l=some v):l=[v]:=by rcases l with _|⟨x,_|⟨y,l⟩⟩<;>cases h;rfl
theorem Cg (h:oU l=some v):l=[v.1,v.2]:=by rcases l with _|⟨x,_|⟨y,_|⟨z,l⟩⟩⟩<;>cases h;rfl
theorem hZ (h:hY e=some v):∃q p,e=.Call (.Name v.1 q) v.2 [] p:=by
 obtain⟨u,hu,h⟩:=fj.mp h;cases hk:u.2.2.1.isEmpty with
 |false=>rw[hk]at h;simp_all
 |true=>rw[hk]at h;obtain⟨x,a,rfl⟩:=bx.mp h;obtain⟨q,b⟩:=pB a;exact⟨q,_,by rw[sN hu,b,fQ hk]⟩
theorem kQ (h:sy e=some v):∃a b,e=.Call (.Attribute v.1 v.2.1 a) v.2.2.1 [] b/\v.2.2.2=(a.endLine==b.line):=by
 obtain⟨u,hu,h⟩:=fj.mp h;cases hk:u.2.2.1.isEmpty with
 |false=>rw[hk]at h;simp_all
 |true=>rw[hk]at h;obtain⟨x,c,rfl⟩:=bx.mp h;exact⟨_,_,by rw[sN hu,kP c,fQ hk],rfl⟩
theorem kR (h:kL f e=true):∃x p,e=.Name x p/\f x=true:=by obtain⟨x,a,h⟩:=aH h;obtain⟨p,b⟩:=pB a;exact⟨x,p,b,h⟩
def Pp (K:W.Frag)(mg:Str->Option Value)(c C:Str)(b:Bool):Prop:=∃A v u,mg c=some (.ref A)/\XA K A/\XV K u/\W.subIn K (.ref A) u=some b/\RelV v u/\(∀w,RelV v w->w=u)/\(mg C=some u\/(mg C=none/\c7 C=some u/\C≠"__name__"))
def Ci (K:W.Frag)(mg:Str->Option Value)(c:Str):Prop:=∃C,mg c=some (.ref C)/\exV K C=true
def Pq (K:W.Frag)(mg:Str->Option Value)(c B:Str):Prop:=∃C D,mg c=some (.ref C)/\mg B=some (.ref D)/\fD K C=true/\fD K D=true/\W.subIn K (.ref C) (.ref D)=some true
structure qS (Γ:Gm)(K:W.Frag)(mg:Str->Option Value):Prop where
 sub:∀c C b,Γ.sub.contains (c,C,b)=true->Pp K mg c C b
 rs:∀c,Γ.rs.contains c=true->Ci K mg c
 fC:∀c B,Γ.fC.contains (c,B)=true->Pq K mg c B
structure Cok (Γ:Gm)(Κ:List D)(Φ:List Fn)(X:Cx)(r:Nat):Prop where
 hN:X.N=Γ.N
 hs:X.env.scope=Γ.sc
 nd:Γ.N.Nodup
 fn:Γ.blk=false->∀x,X.fn x=true
 kind:Γ.sc.kind=.function
 free:∀x,Γ.free.contains x=true->X.mg x=none
 fns:∀(j:Nat) f n,Γ.fns[j]?=some (f,n)->∃m k ps,Φ[j]?=some m/\k<=r/\Cal X.prog X.w X.K X.mg X.base k f ps (spD X.K n m)
 cst:∀(j:Nat) x,Γ.cst[j]?=some x->∃d a,Κ[j]?=some d/\X.mg x=some (.ref a)/\∀H B,B none->Rep X.K H B (.ref a) d
 nX:∀(j:Nat) f n,Γ.fns[j]?=some (f,n)->∃m k ps,Φ[j]?=some m/\k<=r/\mM X.prog X.w X.K X.mg X.base k f ps n m
 room:Γ.cm=true->Room r X.A
 calm:Γ.cm=true->X.calm=true
 hu:X.A.units+64<cLine
 gZ:Γ.blk=false->X.stack=X.env::X.outer/\X.env.frame=some X.env.locals
 qT:Γ.xc=none->X.fx=none
 xc:∀n c,Γ.xc=some (n,c)->∃a oe C,X.fx=some (n,.ref a)/\Xh X a oe/\oe.cls=.ref C/\X.mg c=some (.ref C)
 xk:qS Γ X.K X.mg
theorem Cok.gl (k:Cok a Κ Φ X r)(h:lF a x=true):Gl X x/\Vx x:=by unfold lF at h;rw[bv]at h;refine⟨?_,by simpa using h.2⟩;show X.env.scope.names.lookup x=_;rw[k.hs];simpa using h.1
theorem Cok.aN (k:Cok b Κ Φ X r)(h:l' b i x=true):X.N[i]?=some x/\Vis X.env.scope x/\Vx x/\(x==("__classdict__":Str))=false:=by
 unfold l' at h;simp at h;have⟨⟨⟨h1,a⟩,h3⟩,h4⟩:=h;refine⟨by rw[k.hN];exact h1,?_,by simpa using h3,by simpa using h4⟩;rw[k.hs];rcases a with(a|a)|a
 ·exact .inl a
 ·exact .inr (.inl a)
 ·exact .inr (.inr a)
theorem Cok.loc (k:Cok c Κ Φ X r)(h:mC c i x=true):X.N[i]?=some x/\Loc X.env.scope x/\(X.fn x=true\/X.env.scope.names.lookup x=some .local):=by
 unfold mC at h;simp at h;obtain⟨b,a⟩:=h;refine⟨by rw[k.hN];exact b,?_,?_⟩
 ·unfold L2.Loc;rw[k.hs];rcases a with a|⟨_,a⟩
  ·exact .inl a
  ·exact .inr a
 ·rcases a with a|⟨a,_⟩
  ·exact .inr (k.hs▸a)
  ·exact .inl (k.fn a x)
theorem Cok.blt (k:Cok e Κ Φ X r)(h:cV e x=true):Gl X x/\X.mg x=none/\Vx x/\x≠"__name__":=by unfold cV at h;simp only[ar]at h;obtain⟨⟨a,b⟩,c⟩:=h;obtain⟨d,g2⟩:=k.gl a;exact⟨d,k.free x b,g2,by simpa using c⟩
theorem Pr {C:Addr}:(blk X scope a C b s H).env.scope=yp scope X.env.scope:=rfl
theorem Cok.blk (k:Cok c Κ Φ X r)(hk:scope.kind=.function)(nd:a.Nodup)(C:Addr)(b:List Addr)(s:az)(H:Hp):Cok {c with N:=a,sc:=yp scope c.sc,blk:=true,xc:=none} Κ Φ (blk X scope a C b s H) r where
 hN:=rfl
 hs:=by rw[Pr,k.hs]
 nd:=nd
 fn:=λz=>by cases z
 kind:=hk
 free:=k.free
 fns:=k.fns
 cst:=k.cst
 nX:=k.nX
 room:=k.room
 calm:=k.calm
 hu:=k.hu
 gZ:=λz=>by cases z
 qT:=λ_=>rfl
 xc:=λ_ _ z=>by cases z
 xk:=⟨k.xk.sub,k.xk.rs,k.xk.fC⟩
theorem Pt (k:Cok n Κ Φ X r)(all:List Nat):∀{m:List Expr},Bc n is m=true->PGs X m (mG X.K all is)/\(d8 m X.env).length=is.length/\(d8 m X.env).findIdx? (·.1)=none:=by
 induction is with
 |nil=>intro m h;cases fQ h;exact⟨NV,rfl,rfl⟩
 |cons i is a=>
  intro m h;cases m with
  |nil=>cases h
  |cons e m=>
   obtain⟨h0,b⟩:=aC h;obtain⟨x,p,rfl,h0⟩:=kR h0;obtain⟨c,d,f⟩:=k.loc h0;obtain⟨g,j,l⟩:=a b;refine⟨NW (k.hN▸k.nd) c d f g,?_,?_⟩
   ·show(d8 m X.env).length+1=_;rw[j];rfl
   ·show((false,pb (.Name x p) X.env)::d8 m X.env).findIdx? (·.1)=none;rw[jo,l];rfl
theorem ua (k:Cok m Κ Φ X r)(h:qI m t e=true):PG X e (tDG X.K t):=by
 cases t with
 |nm i=>obtain⟨x,p,rfl,a⟩:=kR h;obtain⟨b,c,d⟩:=k.loc a;exact NU (k.hN▸k.nd) b c d
 |tp is=>obtain⟨h0,h⟩:=aC h;obtain⟨v,f,a⟩:=aH h;obtain⟨_,_,rfl⟩:=yJ f;obtain⟨g,j,l⟩:=Pt k is a;exact NY (k.calm h0) g rfl l j.symm
theorem Hm (h:plainT e=true)(env:Env):∀a,qc e env a=(do let v <-a;standAt e.pos;holding [v] (truthy v)):=by
 intro a;cases e<;>first|(cases h;done)|rfl|skip
 rename_i b x p;cases b<;>first|(cases h;done)|rfl
theorem wa (h:sm e=true)(env:Env):∀x,e6 e env x=pure x:=by intro x;cases e<;>first|(cases h;done)|rfl
variable (Κ:List D)(Φ:List Fn)
theorem Pu (c:C):∀b es d f,dV b c es=true->dM Κ Φ c d=.ok f->f.length=es.length/\(es.all λe=>!isStar e)=true:=by
 induction c with
 |nil=>intro b es d f h e;cases fQ h;cases e;exact⟨rfl,rfl⟩
 |cons a r _ i=>
  intro b es d f h e;cases es with
  |nil=>cases h
  |cons x es=>obtain⟨j,_,k⟩:=aQ h;obtain⟨y,_,e⟩:=Res.aA e;obtain⟨g,l,e⟩:=Res.aA e;cases e;obtain⟨m,n⟩:=i b es d g k l;exact⟨by rw[bh,bh,m],by rw[ci,n,j];rfl⟩
 |_=>exact λ_ _ _ _ h=>ff rfl h
end
section
theorem Pw (h:tyB d T t=true):∃x p,t=.Name x p/\x=Str.ofString T/\cV d x=true/\T∈tysB:=by obtain⟨x,p,e,h⟩:=kR h;obtain⟨a,b,c⟩:=aQ h;exact⟨x,p,e,q8 a,b,cf.mp c⟩
theorem Cj (h:(a||b)=true)(n:b=false):a=true:=by rw[n,oz]at h;exact h
theorem Px (h:T∈tysB):c7 (Str.ofString T)=some (.type T):=by simp only[tysB,ax,g9,or_false]at h;rcases h with rfl|rfl|rfl|rfl|rfl<;>decide+kernel
variable (Κ:List D)(Φ:List Fn)
theorem qU:∀{c:C} {g:List Expr},dV i c g=true->(g.all λe=>!isStar e)=true:=by
 intro c
 induction c with
 |nil=>intro g h;cases fQ h;rfl
 |cons a r _ b=>
  intro g h;cases g with
  |nil=>rfl
  |cons e g=>obtain⟨d,_,f⟩:=aQ h;rw[ci,b f,d];rfl
 |_=>exact λh=>ff rfl h
theorem yK (h:dV f c d=true):∀b a,dM Κ Φ c b=.ok a->a.length=d.length:=λb a e=>(Pu Κ Φ c f d b a h e).1
structure Sd (c:C):Prop where
 E:∀(Γ:Gm) (X:Cx) (r:Nat) (e:Expr),Cok Γ Κ Φ X r->chkE Γ c e=true->PE X e (tD X.K (aL Κ Φ c))
 T:∀(Γ:Gm) (X:Cx) (r:Nat) (e:Expr),Cok Γ Κ Φ X r->eF Γ c e=true->PT X e (dN X.K (eA Κ Φ c))/\((∃o l p,e=.BoolOp o l p)->PW X e (dN X.K (eA Κ Φ c)))
 Q:∀(Γ:Gm) (X:Cx) (r:Nat) (l:Expr) (ops:List CmpOp) (rs:List Expr) (pos:Pos),Cok Γ Κ Φ X r->chkE Γ c (.Compare l ops rs pos)=true->PT X (.Compare l ops rs pos) (dN X.K λρ=>aL Κ Φ c ρ>>=λx=>jI x.2)
 A:∀(Γ:Gm) (X:Cx) (r:Nat) (es:List Expr),Cok Γ Κ Φ X r->dV Γ c es=true->PA X es (tDA X.K (dM Κ Φ c))
 O:∀(Γ:Gm) (X:Cx) (r:Nat) (e:Option Expr),Cok Γ Κ Φ X r->oV Γ c e=true->PO X e (tDO X.K (si Κ Φ c))
 W:∀(Γ:Gm) (X:Cx) (r:Nat) (e tg:Expr),Cok Γ Κ Φ X r->yr c tg=true->kM Γ c e=true->PI X tg e (tDW X.K (evW Κ Φ c))
 G:∀(Γ:Gm) (X:Cx) (r:Nat) (e:Expr),Cok Γ Κ Φ X r->sA Γ c e=true->∃a,c=.tv a/\PE X e (tD X.K (aL Κ Φ a))
def pD:C->Nat
 |.and _ _|.or _ _|.not _|.tv _|.nil|.cons _ _|.fA _|.enum _=>2
 |.cmp _ _ _|.qB _ _=>1
 |_=>0
variable {Κ:List D}{Φ:List Fn}
theorem Py (h:pD c<2):eF a c e=false:=by cases c<;>first|rfl|exact absurd h (cu 2)
theorem Pz (h:pD c<2):dV a c b=false:=by cases c<;>first|rfl|exact absurd h (cu 2)
theorem PB (h:pD c<2):oV a c o=false:=by cases c<;>first|rfl|exact absurd h (cu 2)
theorem PD (h:pD c<2):kM a c e=false:=by cases c<;>first|rfl|exact absurd h (cu 2)
theorem PF (h:pD c<2):sA a c e=false:=by cases c<;>first|rfl|exact absurd h (cu 2)
theorem Sd.q (d:∀Γ X r e,Cok Γ Κ Φ X r->chkE Γ c e=true->PE X e (tD X.K (aL Κ Φ c)))(f:∀Γ X r l a rs pos,Cok Γ Κ Φ X r->chkE Γ c (.Compare l a rs pos)=true->PT X (.Compare l a rs pos) (dN X.K λρ=>aL Κ Φ c ρ>>=λx=>jI x.2))(b:pD c<2):Sd Κ Φ c:=⟨d,λ_ _ _ _ _ h=>ff (Py b) h,f,λ_ _ _ _ _ h=>ff (Pz b) h,λ_ _ _ _ _ h=>ff (PB b) h,λ_ _ _ _ _ _ _ h=>ff (PD b) h,λ_ _ _ _ _ h=>ff (PF b) h⟩
theorem PH (h:pD c=0):chkE d c (.Compare l a rs b)=false:=by cases c<;>first|rfl|(cases h;done)
theorem Sd.x (b:∀Γ X r e,Cok Γ Κ Φ X r->chkE Γ c e=true->PE X e (tD X.K (aL Κ Φ c)))(a:pD c=0):Sd Κ Φ c:=Sd.q b (λ_ _ _ _ _ _ _ _ h=>ff (PH a) h) (a▸Nat.zero_lt_two)
theorem PJ:Sd Κ Φ (.var i):=Sd.x (λf X r e k h=>by obtain⟨x,p,rfl,h⟩:=kR h;obtain⟨a,b,c,d⟩:=k.aN h;exact Nn a b c d) rfl
theorem PL:Sd Κ Φ .aK:=Sd.x (λa X r e k h=>by obtain⟨_,_,rfl⟩:=sM (qx h);exact yx K2 λ_ _=>rfl) rfl
theorem Ck {b:Bool}:Sd Κ Φ (.bl b):=Sd.x (λa X r e k h=>by obtain⟨_,_,rfl⟩:=sM (qx h);exact yx K1 λ_ _=>rfl) rfl
theorem PM {b:Int}:Sd Κ Φ (.int b):=Sd.x (λa X r e k h=>by obtain⟨_,_,rfl⟩:=sM (qx h);exact yx K0 λ_ _=>rfl) rfl
theorem PN {b:Str}:Sd Κ Φ (.str b):=Sd.x (λd X r e k h=>by obtain⟨a,c⟩:=aC h;obtain⟨_,_,rfl⟩:=sM (qx a);exact yx ED λ_ _=>⟨rfl,c⟩) rfl
theorem PQ (c:Sd Κ Φ a)(d:Sd Κ Φ b):Sd Κ Φ (.bin n a b):=Sd.x (λo X r e k h=>by obtain⟨v,f,g⟩:=aH h;obtain⟨p,rfl⟩:=Pm f;obtain⟨i,j,l,m⟩:=bJ g;cases qx i;exact Np j (c.E o X r _ k l) (d.E o X r _ k m)) rfl
theorem PR (b:Sd Κ Φ a):Sd Κ Φ (.neg a):=Sd.x (λi X r e k h=>by obtain⟨⟨o,x⟩,c,d⟩:=aH h;obtain⟨p,rfl⟩:=pC c;obtain⟨f,g⟩:=aC d;cases qx f;exact Nq (b.E i X r _ k g)) rfl
theorem Hn (h:chkE q (.cmp c a b) e=true):∃l r p,e=.Compare l [c] [r] p/\z42 c=true/\dw c r=false/\chkE q a l=true/\chkE q b r=true:=by obtain⟨⟨l,o,rs⟩,g,i⟩:=aH h;obtain⟨p,rfl⟩:=mO g;obtain⟨j,d⟩:=aC i;obtain⟨r,k,f⟩:=aH d;cases qx j;cases eU k;obtain⟨d,f,m,n⟩:=bJ f;exact⟨l,r,p,rfl,d,cI f,m,n⟩
theorem PU (i:Sd Κ Φ a)(j:Sd Κ Φ b):Sd Κ Φ (.cmp o a b):=Sd.q (λs X r e k h=>by
 obtain⟨_,_,_,rfl,c,d,f,g⟩:=Hn h;exact zud k.hu c d (i.E s X r _ k f) (j.E s X r _ k g)) (λs X r l m rs p k h=>by
 obtain⟨_,_,_,n,c,d,f,g⟩:=Hn h;cases n;exact zsw k.hu c d (i.E s X r _ k f) (j.E s X r _ k g)) Nat.one_lt_two
theorem Ho (h:((nT e).any λv=>decide (v.2.1=[o])&&(bF v.2.2).any λr=>decide (fI r=some w)&&chkE n a v.1)=true):∃l k q p,e=.Compare l [o] [.Constant w k q] p/\chkE n a l=true:=by obtain⟨⟨l,o,rs⟩,b,c⟩:=aH h;obtain⟨p,rfl⟩:=mO b;obtain⟨d,f⟩:=aC c;obtain⟨r,g,i⟩:=aH f;obtain⟨j,m⟩:=aC i;cases qx d;cases eU g;obtain⟨_,_,rfl⟩:=sM (qx j);exact⟨_,_,_,_,rfl,m⟩
theorem PV (c:Sd Κ Φ a):Sd Κ Φ (.qB g a):=Sd.q (λi X r e k h=>by
 obtain⟨_,_,_,_,rfl,b⟩:=Ho h;exact Nt rfl (c.E i X r _ k b)) (λi X r l d rs p k h=>by
 obtain⟨_,_,_,_,f,b⟩:=Ho h;cases f;exact Nu rfl (c.E i X r _ k b)) Nat.one_lt_two
theorem sO (h:qH f g o p a=true):(∃x y,a=[x,y]/\f x=true/\g y=true)\/∃x y z r,a=x::y::z::r/\f x=true/\g (.BoolOp o (y::z::r) p)=true:=by
 rcases a with _|⟨x,_|⟨y,_|⟨z,a⟩⟩⟩
 ·cases h
 ·cases h
 ·exact .inl ⟨x,y,rfl,(aC h).1,(aC h).2⟩
 ·exact .inr ⟨x,y,z,a,rfl,(aC h).1,(aC h).2⟩
theorem PX (f:Sd Κ Φ a)(g:Sd Κ Φ b):Sd Κ Φ (.and a b) where
 E:=λq X r e k h=>by
  obtain⟨⟨o,n,p⟩,i,j⟩:=aH h;cases iV i;obtain⟨l,m⟩:=aC j;cases qx l;rcases sO m with⟨x,y,rfl,c,d⟩|⟨x,y,z,t,rfl,c,d⟩
  ·exact F6 (f.E q X r _ k c) (z6 (g.E q X r _ k d))
  ·exact F6 (f.E q X r _ k c) (g.E q X r _ k d)
 T:=λq X r e k h=>by
  obtain⟨⟨o,n,p⟩,i,j⟩:=aH h;cases iV i;obtain⟨l,m⟩:=aC j;cases qx l;rcases sO m with⟨x,y,rfl,c,d⟩|⟨x,y,z,t,rfl,c,d⟩
  ·have w:=w_and (pos:=p) (f.T q X r _ k c).1 (EI (g.T q X r _ k d).1);exact⟨w.pt,λ_=>w⟩
  ·have w:=w_and (f.T q X r _ k c).1 ((g.T q X r _ k d).2 ⟨_,_,_,rfl⟩);exact⟨w.pt,λ_=>w⟩
 Q:=λ_ _ _ _ _ _ _ _ h=>ff rfl h
 A:=λ_ _ _ _ _ h=>ff rfl h
 O:=λ_ _ _ _ _ h=>ff rfl h
 W:=λ_ _ _ _ _ _ _ h=>ff rfl h
 G:=λ_ _ _ _ _ h=>ff rfl h
theorem Cm (f:Sd Κ Φ a)(g:Sd Κ Φ b):Sd Κ Φ (.or a b) where
 E:=λq X r e k h=>by
  obtain⟨⟨o,n,p⟩,i,j⟩:=aH h;cases iV i;obtain⟨l,m⟩:=aC j;cases qx l;rcases sO m with⟨x,y,rfl,c,d⟩|⟨x,y,z,t,rfl,c,d⟩
  ·exact vL (f.E q X r _ k c) (z6 (g.E q X r _ k d))
  ·exact vL (f.E q X r _ k c) (g.E q X r _ k d)
 T:=λq X r e k h=>by
  obtain⟨⟨o,n,p⟩,i,j⟩:=aH h;cases iV i;obtain⟨l,m⟩:=aC j;cases qx l;rcases sO m with⟨x,y,rfl,c,d⟩|⟨x,y,z,t,rfl,c,d⟩
  ·have w:=w_or (pos:=p) (f.T q X r _ k c).1 (EJ (g.T q X r _ k d).1);exact⟨w.pt,λ_=>w⟩
  ·have w:=w_or (f.T q X r _ k c).1 ((g.T q X r _ k d).2 ⟨_,_,_,rfl⟩);exact⟨w.pt,λ_=>w⟩
 Q:=λ_ _ _ _ _ _ _ _ h=>ff rfl h
 A:=λ_ _ _ _ _ h=>ff rfl h
 O:=λ_ _ _ _ _ h=>ff rfl h
 W:=λ_ _ _ _ _ _ _ h=>ff rfl h
 G:=λ_ _ _ _ _ h=>ff rfl h
theorem PY (g:Sd Κ Φ a):Sd Κ Φ (.not a) where
 E:=λi X r e k h=>by obtain⟨⟨o,x⟩,b,c⟩:=aH h;obtain⟨p,rfl⟩:=pC b;obtain⟨d,f⟩:=aC c;cases qx d;exact Nw (g.E i X r _ k f)
 T:=λi X r e k h=>by obtain⟨⟨o,x⟩,b,c⟩:=aH h;obtain⟨p,rfl⟩:=pC b;obtain⟨d,f⟩:=aC c;cases qx d;exact⟨vM (g.T i X r _ k f).1,λ⟨_,_,_,z⟩=>by cases z⟩
 Q:=λ_ _ _ _ _ _ _ _ h=>ff rfl h
 A:=λ_ _ _ _ _ h=>ff rfl h
 O:=λ_ _ _ _ _ h=>ff rfl h
 W:=λ_ _ _ _ _ _ _ h=>ff rfl h
 G:=λ_ _ _ _ _ h=>ff rfl h
theorem PZ (h:FQ e=true):∃l o r p,e=.Compare l o r p:=by cases e<;>first|exact ff rfl h|exact⟨_,_,_,_,rfl⟩
theorem Cn (c:Sd Κ Φ a):Sd Κ Φ (.tv a) where
 E:=λ_ _ _ _ _ h=>ff rfl h
 T:=λg X r e k h=>by
  obtain⟨b,d⟩:=aC h;rcases d2.mp b with b|b
  ·exact⟨Ny (c.E g X r _ k d) (Hm b _),λ⟨_,_,_,z⟩=>by subst z;cases b⟩
  ·obtain⟨_,_,_,_,rfl⟩:=PZ b;exact⟨c.Q g X r _ _ _ _ k d,λ⟨_,_,_,z⟩=>by cases z⟩
 Q:=λ_ _ _ _ _ _ _ _ h=>ff rfl h
 A:=λ_ _ _ _ _ h=>ff rfl h
 O:=λg X r e k h=>by obtain⟨v,rfl,h⟩:=aH h;exact NK (c.E g X r _ k h)
 W:=λg X r e f k _ h=>iT (c.E g X r _ k (aC h).2)
 G:=λg X r e k h=>⟨a,rfl,c.E g X r _ k h⟩
theorem P0 (f:Sd Κ Φ c)(g:Sd Κ Φ a)(i:Sd Κ Φ b):Sd Κ Φ (.se c a b):=Sd.x (λd X r e k h=>by obtain⟨v,j,l⟩:=aH h;obtain⟨p,rfl⟩:=Pn j;obtain⟨m,n,o⟩:=aQ l;exact Nz (f.T d X r _ k m).1 (g.E d X r _ k n) (i.E d X r _ k o)) rfl
theorem P1 (c:Sd Κ Φ a):Sd Κ Φ (.tup a):=Sd.x (λj X r e k h=>by obtain⟨v,d,f⟩:=aH h;obtain⟨_,_,rfl⟩:=yJ d;obtain⟨g,b⟩:=aC f;exact NA (c.A j X r _ k b) λl i e=>by rw[yK Κ Φ b l i e];exact FO (qx g)) rfl
theorem P2 (c:Sd Κ Φ a):Sd Κ Φ (.lst a):=Sd.x (λj X r e k h=>by obtain⟨v,d,f⟩:=aH h;obtain⟨_,rfl⟩:=Hk d;obtain⟨g,b⟩:=aC f;exact NB (c.A j X r _ k b) λl i e=>by rw[yK Κ Φ b l i e];exact FO (qx g)) rfl
theorem P4:Sd Κ Φ .gC:=Sd.x (λi X r e k h=>by obtain⟨⟨a,b⟩,c,d⟩:=aH h;obtain⟨_,rfl⟩:=vX c;obtain⟨f,g⟩:=aC d;cases fQ f;cases fQ g;exact NC) rfl
theorem Co (c:Sd Κ Φ a)(d:Sd Κ Φ b):Sd Κ Φ (.ix a b):=Sd.x (λm X r e k h=>by obtain⟨v,f,g⟩:=aH h;obtain⟨_,rfl⟩:=vY f;obtain⟨i,j,l⟩:=aQ g;exact d_ix k.hu i (c.E m X r _ k j) (d.E m X r _ k l)) rfl
theorem Cp {t:C}(b:Sd Κ Φ a)(c:Sd Κ Φ t)(d:Sd Κ Φ v):Sd Κ Φ (.sl a t v):=Sd.x (λq X r e k h=>by obtain⟨⟨x,i⟩,f,g⟩:=aH h;obtain⟨_,rfl⟩:=vY f;obtain⟨⟨l,u,s⟩,hs,j⟩:=aH g;obtain⟨_,rfl⟩:=Po hs;obtain⟨m,n,o,p⟩:=bJ j;cases dq.mp m;exact d_sl (b.E q X r _ k n) (c.O q X r _ k o) (d.O q X r _ k p)) rfl
theorem P5 (g:Sd Κ Φ args):Sd Κ Φ (.call j f args):=Sd.x (λz X r e k h=>by
 obtain⟨⟨x,B⟩,i,l⟩:=aH h;obtain⟨_,_,rfl⟩:=hZ i;obtain⟨a,n,o,b,p⟩:=dC l;obtain⟨y,B,rfl⟩:=nW p;obtain⟨h0,a⟩:=aC a;cases q8 a;obtain⟨q,g2⟩:=k.gl n;obtain⟨m,kk,ps,s,t,u⟩:=k.fns j _ _ (q8 o);refine PE.imp (zoo u (k.room h0) t (g.A z X r _ k b) (qU b) q g2 (yK Κ Φ b)) λC H Q d=>?_
 have v:aL Κ Φ (.call j x args)=λw=>dM Κ Φ args w>>=λc=>m (c.map (·.2))>>=λr=>.ok (gJ r.2 (jJ r.1),r.2):=by
  funext w
  show(dM Κ Φ args w>>=λc=>match Φ[j]? with|some m=>m (c.map (·.2))>>=λr=>.ok (gJ r.2 (jJ r.1),r.2)|none=>.no)=_;rw[s]
 rw[v]at d;exact d) rfl
theorem Cq (n:Sd Κ Φ args):Sd Κ Φ (.bi f args):=Sd.x (λo X r e k h=>by
 obtain⟨⟨x,es⟩,p,q⟩:=aH h;obtain⟨_,_,rfl⟩:=hZ p;obtain⟨a,s,c,b,t⟩:=dC q;obtain⟨y,es,rfl⟩:=nW t;have a:=q8 a;obtain⟨d,g,i,j⟩:=k.blt s;obtain⟨c,l⟩:=aC c;have hf:=cf.mp c;have m:=n.A o X r _ k b;simp only[ax,g9,or_false]at hf;rcases hf with rfl|rfl|rfl
 ·exact d_cB Gi g (by rw[a];decide+kernel) m (qU b) d j i
 ·exact d_cB (NM (k.calm (Cj l rfl))) g (by rw[a];decide+kernel) m (qU b) d j i
 ·exact zs7 G6 g (by rw[a];decide+kernel) m (qU b) d j i) rfl
theorem P6 (o:Sd Κ Φ a):Sd Κ Φ (.lC f a):=Sd.x (λp X r e k h=>by
 obtain⟨⟨x,es⟩,q,s⟩:=aH h;obtain⟨_,_,rfl⟩:=hZ q;obtain⟨t,u,b,v⟩:=bJ s;obtain⟨y,w,z⟩:=aH v;obtain⟨A,B⟩:=aC z;cases eU w;have c:=q8 t;obtain⟨d,g,i,j⟩:=k.blt u;obtain⟨a,rfl,l⟩:=o.G p X r _ k B;have m:=cI A;obtain⟨b,n⟩:=aC b;have hf:=cf.mp b;simp only[vD,ax,g9,or_false]at hf;rcases hf with rfl|rfl|rfl
 ·exact zj6 Oy g (by rw[c];decide+kernel) m l d j i
 ·exact znl (O1 k.hu) g (by rw[c];decide+kernel) m l d j i
 ·exact zj6 (OO (k.calm n)) g (by rw[c];decide+kernel) m l d j i) rfl
theorem P7 (c:Sd Κ Φ a):Sd Κ Φ (.kE a A):=Sd.x (λF X r e k h=>by obtain⟨⟨x,I⟩,d,f⟩:=aH h;obtain⟨_,_,rfl⟩:=hZ d;obtain⟨g,i,j⟩:=aQ f;obtain⟨⟨y,t⟩,l,G⟩:=aH j;obtain⟨m,n,H⟩:=aQ G;obtain⟨T,o,p⟩:=aH H;cases Cg l;cases eU o;cases q8 g;obtain⟨q,g2,B,C⟩:=k.blt i;obtain⟨D,p2,rfl,rfl,s,b⟩:=Pw p;obtain⟨u,v,w,z⟩:=k.blt s;exact ztv g2 q v (Px b) u z w b (cI m) (c.E F X r _ k n)) rfl
theorem Cr (o:Sd Κ Φ a)(p:Sd Κ Φ args):Sd Κ Φ (.mt m a args):=Sd.x (λd X r e k h=>by
 obtain⟨⟨x,n,es,b⟩,q,s⟩:=aH h;obtain⟨C,D,rfl,t⟩:=kQ q;obtain⟨h0,u,c,v⟩:=bJ s;obtain⟨w,z,f,B,g⟩:=dC h0;obtain⟨y,es,rfl⟩:=nW v;cases q8 w;have i:=t.symm.trans B;have j:=o.E d X r _ k u;have l:=p.A d X r _ k c;have hm:=cf.mp z;simp at hm;rcases hm with rfl|rfl
 ·exact d_mt PySem.F.plainAttrs_dict PySem.F.slot_dict_get PySem.F.type_dict_get (N5 k.hu) (λ_ _ _ _ _ _ r e=>N6 r e) j l f (qU c) (qx g) i
 ·exact d_mt PySem.F.plainAttrs_str PySem.F.slot_str_join PySem.F.type_str_join N9 (λ_ _ _ _ _ _ r e=>Oa r e) j l f (qU c) (qx g) i) rfl
theorem P8 (d:Sd Κ Φ c)(k:Cok l Κ Φ X n)(h:vB (vC c) (λt=>eF l c t) a=true):oJ X a (dN X.K (eA Κ Φ c)):=by
 cases a with
 |nil=>
  have:c=.nil:=by cases c<;>first|exact ff rfl h|rfl
  subst this;refine λj s m H Q I q=>FI j s m H Q I ?_;obtain⟨o,F,b,i,e,q⟩:=q;cases e;exact q H (Same.refl H)
 |cons t r=>obtain⟨f,g⟩:=aC h;cases fQ f;exact FJ (d.T l X n t k g).1
theorem sC {c:C}(z:Sd Κ Φ q)(A:Sd Κ Φ c)(B:Sd Κ Φ f)(k:Cok N Κ Φ X r)(h:chkE N (.comp u O j v q c f) e=true):
  ∃l t i d a pos,e=.ListComp l [⟨t,i,d,0⟩] a pos/\BlkScope X a j u O/\(∀i∈tgIx v,i<u)/\PI X t i (tDW X.K (evW Κ Φ q))/\(∀C b s H,PG (blk X a j C b s H) t (tDG X.K v))/\(∀C b s H,oJ (blk X a j C b s H) d (dN X.K (eA Κ Φ c)))/\(∀C b s H,PE (blk X a j C b s H) l (tD X.K (aL Κ Φ f)))/\(∀x,e6 i X.env x=pure x)/\N.cm=true:=by
 obtain⟨⟨l,Q,a⟩,D,g⟩:=aH h;obtain⟨pos,rfl⟩:=vZ D;obtain⟨⟨t,i,d,kk⟩,F,g⟩:=aH g;cases eU F;obtain⟨h0,w,G,I,g⟩:=dC g;obtain⟨m,n,J,L,M⟩:=dC h0;obtain⟨o,m⟩:=aC m;cases q8 m;have n:=b6.mp n;have y:=FH k.hN k.hs J;have p:=λC b s H=>k.blk y.kind (qx M) C b s H;exact⟨l,t,i,d,a,pos,rfl,y,λi P=>qx (n i P),z.W N X r _ t k (aC w).2 G,λC b s H=>ua (p C b s H) (aC w).1,λC b s H=>P8 A (p C b s H) I,λC b s H=>B.E _ _ r _ (p C b s H) g,wa L _,o⟩
theorem P9 {a:C}(f:Sd Κ Φ g)(j:Sd Κ Φ a)(l:Sd Κ Φ b):Sd Κ Φ (.comp u v w y g a b):=Sd.x (λD X r e k h=>by obtain⟨z,t,i,m,c,A,rfl,n,o,B,p,q,s,hs,d⟩:=sC f j l k h;exact(zj4 (k.calm d) n o B p q s hs).1) rfl
theorem P' {b:Bool}:Sd Κ Φ (.lD b x):=Sd.x (λΓ X r e k h=>by obtain⟨⟨f,es⟩,j,l⟩:=aH h;obtain⟨_,_,rfl⟩:=hZ j;obtain⟨m,o,p⟩:=aQ l;obtain⟨⟨S,T⟩,q,s⟩:=aH p;cases Cg q;obtain⟨⟨n,c⟩,t,w⟩:=aH s;obtain⟨d,g⟩:=aC w;obtain⟨U,p1,hn,d⟩:=kR d;obtain⟨C,p2,y,g⟩:=kR g;cases hn;cases y;obtain⟨z,B,D,V⟩:=bJ d;obtain⟨E,F,G⟩:=aQ g;cases q8 m;cases q8 z;cases q8 E;obtain⟨H,g2,W,Y⟩:=k.blt o;obtain⟨I,J⟩:=k.gl F;obtain⟨a,oe,Z,K,L,M,i⟩:=k.xc n c t;obtain⟨A,v,u,m1,xa,N,O,P,Q,R⟩:=k.xk.sub c x b G;rw[m1]at i;cases i;exact zte g2 H K (k.hs▸q8 B) (cI D) L M I R P Q J xa N O) rfl
theorem Qa:Sd Κ Φ .nil where
 E:=λ_ _ _ _ _ h=>ff rfl h
 T:=λ_ _ _ _ _ h=>ff rfl h
 Q:=λ_ _ _ _ _ _ _ _ h=>ff rfl h
 A:=λa X r b k h=>by cases fQ h;exact Ge
 O:=λa X r e k h=>by cases dq.mp h;exact nU
 W:=λ_ _ _ _ _ _ _ h=>ff rfl h
 G:=λ_ _ _ _ _ h=>ff rfl h
theorem Qb (c:Sd Κ Φ a)(d:Sd Κ Φ b):Sd Κ Φ (.cons a b) where
 E:=λ_ _ _ _ _ h=>ff rfl h
 T:=λ_ _ _ _ _ h=>ff rfl h
 Q:=λ_ _ _ _ _ _ _ _ h=>ff rfl h
 A:=λj X r l k h=>by
  cases l with
  |nil=>cases h
  |cons e l=>obtain⟨f,g,i⟩:=aQ h;exact Gf (cI f) (c.E j X r _ k g) (d.A j X r _ k i)
 O:=λ_ _ _ _ _ h=>ff rfl h
 W:=λ_ _ _ _ _ _ _ h=>ff rfl h
 G:=λ_ _ _ _ _ h=>ff rfl h
theorem Qc (j:Sd Κ Φ a):Sd Κ Φ (.fA a) where
 E:=λ_ _ _ _ _ h=>ff rfl h
 T:=λ_ _ _ _ _ h=>ff rfl h
 Q:=λ_ _ _ _ _ _ _ _ h=>ff rfl h
 A:=λ_ _ _ _ _ h=>ff rfl h
 O:=λ_ _ _ _ _ h=>ff rfl h
 W:=λl X r e s k _ h=>by
  obtain⟨⟨x,es⟩,m,n⟩:=aH h;obtain⟨_,_,rfl⟩:=hZ m;obtain⟨o,p,b,c⟩:=bJ n;obtain⟨c,q⟩:=aC c;cases q8 o;obtain⟨d,f,t,u⟩:=k.blt p;have hs:=b6.mp (qU b);have g:=yK Κ Φ b;have i:=j.A l X r _ k b;rcases es with _|⟨x,_|⟨y,_|⟨z,es⟩⟩⟩
  ·cases c
  ·exact NS f d (cI (hs x (.head _))) i g
  ·exact NT f d (cI (hs x (.head _))) (cI (hs y (.tail _ (.head _)))) i g
  ·exact absurd (qx q) (Nat.not_le.mpr (Nat.succ_lt_succ (Nat.succ_lt_succ (Nat.succ_pos _))))
 G:=λ_ _ _ _ _ h=>ff rfl h
theorem Cs (h:isTup e=true):∃a b c,e=.Tuple a b c:=by cases e<;>first|exact ff rfl h|exact⟨_,_,_,rfl⟩
theorem Hq (h:kM j (.enum a) e=true):∃y q p,e=.Call (.Name "enumerate" q) [y] [] p/\cV j "enumerate"=true/\isStar y=false/\chkE j a y=true:=by obtain⟨⟨x,k⟩,c,d⟩:=aH h;obtain⟨q,p,rfl⟩:=hZ c;obtain⟨f,g,b⟩:=aQ d;obtain⟨y,i,b⟩:=aH b;cases eU i;cases q8 f;exact⟨y,q,p,rfl,g,cI (aC b).1,(aC b).2⟩
theorem Qd (b:Sd Κ Φ a):Sd Κ Φ (.enum a) where
 E:=λ_ _ _ _ _ h=>ff rfl h
 T:=λ_ _ _ _ _ h=>ff rfl h
 Q:=λ_ _ _ _ _ _ _ _ h=>ff rfl h
 A:=λ_ _ _ _ _ h=>ff rfl h
 O:=λ_ _ _ _ _ h=>ff rfl h
 W:=λn X r e j k c h=>by obtain⟨y,q,p,rfl,d,f,g⟩:=Hq h;obtain⟨_,_,_,rfl⟩:=Cs c;obtain⟨i,g2,l,m⟩:=k.blt d;exact O7 g2 i f (b.E n X r _ k g)
 G:=λ_ _ _ _ _ h=>ff rfl h
theorem Qe (b:pD c=0)(hn:∀a e,chkE a c e=false):Sd Κ Φ c:=Sd.x (λa X r e k h=>ff (hn a e) h) b
theorem all (c:C):Sd Κ Φ c:=by
 induction c with
 |var=>exact PJ
 |aK=>exact PL
 |bl=>exact Ck
 |int=>exact PM
 |str=>exact PN
 |bin _ _ _ a b=>exact PQ a b
 |neg _ a=>exact PR a
 |cmp _ _ _ a b=>exact PU a b
 |qB _ _ a=>exact PV a
 |and _ _ a b=>exact PX a b
 |or _ _ a b=>exact Cm a b
 |not _ a=>exact PY a
 |se _ _ _ d a b=>exact P0 d a b
 |tup _ a=>exact P1 a
 |lst _ a=>exact P2 a
 |gC=>exact P4
 |ix _ _ a b=>exact Co a b
 |sl _ _ _ a b d=>exact Cp a b d
 |call _ _ _ a=>exact P5 a
 |bi _ _ a=>exact Cq a
 |lC _ _ a=>exact P6 a
 |kE _ _ a=>exact P7 a
 |mt _ _ _ a b=>exact Cr a b
 |comp _ _ _ _ _ _ _ a b d=>exact P9 a b d
 |fA _ a=>exact Qc a
 |enum _ a=>exact Qd a
 |tv _ a=>exact Cn a
 |lD=>exact P'
 |nil=>exact Qa
 |cons _ _ a b=>exact Qb a b
 |_=>exact Qe rfl λ_ _=>rfl
end
section
variable (Κ:List D)(Φ:List Fn)
theorem Hr:i7 (.ListComp a b s p) (some (.Name t px)) n env=pure (env.blockKind==.function&&env.kindOf t==some .local&&px.line==p.line&& !(s.names.any λ(n,k)=>n==t&&(k==.local||k==.cell))):=rfl
theorem Qf (hn:sD c=false)(h:chkE k c (.ListComp j l s p)=true):∃d e f g i a b,c=.comp d e f g i a b:=by cases c<;>first|exact ff rfl h|exact⟨_,_,_,_,_,_,_,rfl⟩|(cases hn;done)
theorem Qg (h:chkE b c (.SetComp a d s p)=true):False:=by cases c<;>exact ff rfl h
theorem Qh (h:chkE d c (.DictComp b a e s p)=true):False:=by cases c<;>exact ff rfl h
theorem Cu (k:Cok R Κ Φ X r)(A:mC R i x=true)(hn:sD c=false)(a:chkE R c v=true):PS X (.Assign [.Name x px] v pos) (tDS X.K λT=>aL Κ Φ c T>>=λx=>.ok (.nx (T.set i (some (z1v x))))):=by
 obtain⟨l1,l2,j⟩:=k.loc A;have nd:X.N.Nodup:=k.hN▸k.nd;cases l:lB v with
 |false=>exact zpu nd l1 l2 j (rW l _ _ _) ((all c).E R X r _ k a)
 |true=>
  cases v<;>first|(cases l;done)|skip
  ·rename_i I V s p;cases f:(X.env.blockKind==.function&&X.env.kindOf x==some .local&&px.line==p.line&& !(s.names.any λ(n,k)=>n==x&&(k==.local||k==.cell)))with
   |false=>exact zpu nd l1 l2 j (by rw[Hr,f]) ((all c).E R X r _ k a)
   |true=>
    obtain⟨J,L,M,O,B,b,g,rfl⟩:=Qf hn a;obtain⟨C,t,P,F,h,m,e,o,h0,U,u,w,y,hs,d⟩:=sC (all B) (all b) (all g) k a;cases e;have G:X.env.scope.names.lookup x=some .local:=by simp at f;exact f.1.1.2
    refine PS.imp (zg9 (k.calm d) nd l1 G o U u w y (by rw[Hr,f]) hs) λD S H q=>?_;exact Gx (λS H Q z=>(zj4 (pos:=p) (k.calm d) o h0 U u w y hs).2 S H Q z) D S H q
  ·exact(Qg a).elim
  ·exact(Qh a).elim
theorem Qi (k:Cok d Κ Φ X r)(hh:vE d c g e=true):PI X g e (tDF X.K (evF Κ Φ c))/\sm e=true:=by
 obtain⟨j,h⟩:=aC hh;have l:=(all c).W d X r e g k j h;cases c with
 |tv a=>
  have b:=PI.Gz (k:=λm=>sk Κ Φ (.tv a) m) (BQ ((all a).E d X r _ k (aC h).2)) (Gy l);refine⟨?_,(aC h).1⟩;cases a with
  |var i=>obtain⟨x,p,rfl,f⟩:=kR (aC h).2;obtain⟨n,o,s,t⟩:=k.aN f;exact PI.Gz (Om n o s t) b
  |_=>exact b
 |enum a=>obtain⟨y,q,p,rfl,f,u,w⟩:=Hq h;obtain⟨_,_,_,rfl⟩:=Cs j;obtain⟨z,A,C,D⟩:=k.blt f;exact⟨O8 A z u ((all a).E d X r _ k w),rfl⟩
 |fA a=>refine⟨Gy l,?_⟩;obtain⟨v,B,_⟩:=aH h;obtain⟨_,_,rfl⟩:=hZ B;rfl
 |_=>exact ff rfl h
theorem Qj (h:isTup v=false):ox [.Tuple a b c] v env=pure none:=by cases v<;>first|rfl|(cases h;done)
theorem mP (h:tV s=some v):∃p,s=.Assign v.1 v.2 p:=bT (q:=λv=>∃p,s=.Assign v.1 v.2 p) h (by cases s<;>first|exact .inl rfl|exact .inr ⟨_,rfl,_,rfl⟩)
theorem pE (h:vF s=some v):∃p,s=.Expr v p:=bT (q:=λv=>∃p,s=.Expr v p) h (by cases s<;>first|exact .inl rfl|exact .inr ⟨_,rfl,_,rfl⟩)
theorem wb (h:Bg s=some v):∃p,s=.Return v p:=bT (q:=λv=>∃p,s=.Return v p) h (by cases s<;>first|exact .inl rfl|exact .inr ⟨_,rfl,_,rfl⟩)
theorem wc (h:Bh s=some v):∃p,s=.If v.1 v.2.1 v.2.2 p:=bT (q:=λv=>∃p,s=.If v.1 v.2.1 v.2.2 p) h (by cases s<;>first|exact .inl rfl|exact .inr ⟨_,rfl,_,rfl⟩)
theorem sP (h:yt s=some v):∃p,s=.For v.1 v.2.1 v.2.2.1 v.2.2.2 p:=bT (q:=λv=>∃p,s=.For v.1 v.2.1 v.2.2.1 v.2.2.2 p) h (by cases s<;>first|exact .inl rfl|exact .inr ⟨_,rfl,_,rfl⟩)
theorem Cv (h:FR s=some v):∃p,s=.While v.1 v.2.1 v.2.2 p:=bT (q:=λv=>∃p,s=.While v.1 v.2.1 v.2.2 p) h (by cases s<;>first|exact .inl rfl|exact .inr ⟨_,rfl,_,rfl⟩)
structure Ss (s:S):Prop where
 R:∀(Γ:Gm) (X:Cx) (r:Nat) (st:Stmt),Cok Γ Κ Φ X r->ez (model X.prog X.w) X.A X.env X.xe->sE Γ s st=true->PS X st (tDS X.K (aU Κ Φ s))
 L:∀(Γ:Gm) (X:Cx) (r:Nat) (st:List Stmt),Cok Γ Κ Φ X r->ez (model X.prog X.w) X.A X.env X.xe->chkL Γ s st=true->PSs X st (tDS X.K (aU Κ Φ s))
def Cy:S->Bool
 |.nil=>false
 |.seq _ _=>false
 |_=>true
variable {Κ:List D}{Φ:List Fn}
theorem Ss.x (h:∀Γ X r st,Cok Γ Κ Φ X r->ez (model X.prog X.w) X.A X.env X.xe->sE Γ s st=true->PS X st (tDS X.K (aU Κ Φ s)))(a:Cy s=true):Ss Κ Φ s:=⟨h,by cases s<;>first|(cases a;done)|exact λ_ _ _ _ _ _ h=>ff rfl h⟩
theorem Qk:Ss Κ Φ (.asg t e):=Ss.x (λu X r st k o h=>by
 obtain⟨⟨s,v⟩,d,f⟩:=aH h;obtain⟨p,rfl⟩:=mP d;obtain⟨x,g,j⟩:=aH f;cases eU g;obtain⟨a,l,m,c⟩:=bJ j;cases t with
 |nm i=>obtain⟨y,q,rfl,n⟩:=kR a;exact Cu Κ Φ k n (cI l) c
 |tp is=>obtain⟨w,z⟩:=aC m;obtain⟨A,b,_⟩:=aH (aC a).2;obtain⟨_,_,rfl⟩:=yJ b;exact zox (ua k a) ((all e).E u X r _ k c) ((show ow [_] _ _ _=i7 _ _ _ _ from rfl).trans (rW (cI w) _ _ _)) (Qj (cI z)) rfl) rfl
theorem zvb:Ss Κ Φ (.mut m i args):=Ss.x (λG X r st k D h=>by obtain⟨c,d,e⟩:=aH h;obtain⟨p,rfl⟩:=pE d;obtain⟨⟨x,n,H,b⟩,hm,f⟩:=aH e;obtain⟨E,F,rfl,g⟩:=kQ hm;obtain⟨h0,j,a⟩:=aQ f;obtain⟨l,o,s,t,u⟩:=dC h0;obtain⟨z,q,rfl,I⟩:=kR l;obtain⟨y,H,rfl⟩:=nW j;cases q8 o;have hm:=cf.mp s;simp at hm;obtain⟨v,w,B,C⟩:=k.aN I;subst hm;exact zgr v w B C ((all args).A G X r _ k a) (qU a) (qx u) (g.symm.trans t)) rfl
theorem Ql:Ss Κ Φ (.drop e):=Ss.x (λa X r st k g h=>by obtain⟨v,b,c⟩:=aH h;obtain⟨p,rfl⟩:=pE b;obtain⟨d,f⟩:=aC c;exact Og (cI d) ((all e).E a X r _ k f)) rfl
theorem Qm:Ss Κ Φ (.ret e):=Ss.x (λs X r st k n h=>by
 obtain⟨o,b,c⟩:=aH h;obtain⟨p,rfl⟩:=wb b;obtain⟨v,rfl,a⟩:=aH c;have g:=(all e).E s X r _ k a;cases e with
 |var i=>obtain⟨x,q,rfl,d⟩:=kR a;obtain⟨f,j,l,m⟩:=k.aN d;exact zfb f j l m
 |_=>exact Of g) rfl
theorem Cz (e:Ss Κ Φ a)(f:Ss Κ Φ b):Ss Κ Φ (.bV c a b):=Ss.x (λn X r st k d h=>by obtain⟨v,g,i⟩:=aH h;obtain⟨p,rfl⟩:=wc g;obtain⟨j,l,m⟩:=aQ i;exact BL ((all c).T n X r _ k j).1 (e.L n X r _ k d l) (f.L n X r _ k d m)) rfl
theorem Qn (d:Ss Κ Φ b):Ss Κ Φ (.bP t n b):=Ss.x (λq X r st k c h=>by obtain⟨a,h⟩:=aC h;obtain⟨⟨t,i,B,o⟩,e,f⟩:=aH h;obtain⟨p,rfl⟩:=sP e;obtain⟨g,j,l,m⟩:=bJ f;cases fQ m;obtain⟨hf,hn⟩:=Qi Κ Φ k j;exact zu4 c (k.calm a) hf (ua k g) (d.L q X r _ k c l) (wa hn _)) rfl
theorem Cok.iU {C:Addr}(k:Cok h Κ Φ X r)(nd:(h.N.set i "").Nodup)(b:l.cls=.ref C)(hm:X.mg c=some (.ref C)):Cok {h with N:=h.N.set i "",cm:=false,xc:=some (n,c),fns:=[]} Κ Φ (Mi.iU X i n a l) r where
 hN:=by show X.N.set i ""=h.N.set i "";rw[k.hN]
 hs:=k.hs
 nd:=nd
 fn:=k.fn
 kind:=k.kind
 free:=k.free
 fns:=λj f n e=>by simp at e
 cst:=k.cst
 nX:=λj f n e=>by simp at e
 room:=λz=>by cases z
 calm:=λz=>by cases z
 hu:=k.hu
 gZ:=k.gZ
 qT:=λz=>by cases z
 xc:=λd g z=>by cases z;exact⟨a,l,C,rfl,λ_ _ _ _ I=>(I.pin (a,l) (dk _ bj)).1,b,hm⟩
 xk:=⟨k.xk.sub,k.xk.rs,k.xk.fC⟩
theorem CB (e:Bj h=some v):∃a b,h=.ExceptHandler (some (.Name v.1 a)) (some v.2.1) v.2.2 b:=by
 unfold Bj at e;split at e
 ·obtain⟨x,c,rfl⟩:=bx.mp e;obtain⟨p,rfl⟩:=pB c;exact⟨_,_,rfl⟩
 ·cases e
theorem wg (e:vG s=some v):∃a b c,s=.Raise (some (.Call (.Name v.1 a) v.2 [] b)) none c:=by
 unfold vG at e;split at e
 ·obtain⟨q,p,rfl⟩:=hZ e;exact⟨_,_,_,rfl⟩
 ·cases e
theorem Qo (s:S):Ss Κ Φ s:=by
 induction s with
 |nil=>exact⟨λ_ _ _ _ _ _ h=>ff rfl h,λc X r st k d h=>by cases fQ h;exact Oc⟩
 |seq a b i f=>
  refine⟨λ_ _ _ _ _ _ h=>ff rfl h,λc X r st k d h=>?_⟩;cases st with
  |nil=>cases h
  |cons s st=>exact Od (i.R c X r _ k d (aC h).1) (f.L c X r _ k d (aC h).2)
 |bad=>
  refine Ss.x (λc X r st k d h=>?_) rfl
  rintro g s l H D I ⟨m,F,j,so,e,_⟩
  cases e
 |asg=>exact Qk
 |kG=>
  refine Ss.x (λc X r st k d h=>?_) rfl
  rintro g s l H D I ⟨m,F,j,so,e,_⟩
  cases e
 | «mut»=>exact zvb
 |drop=>exact Ql
 |ret=>exact Qm
 |bV _ _ _ i f=>exact Cz i f
 |bP _ _ _ f=>exact Qn f
theorem sL (Κ:List D)(Φ:List Fn)(s:S):∀a X r st,Cok a Κ Φ X r->ez (model X.prog X.w) X.A X.env X.xe->chkL a s st=true->PSs X st (tDS X.K (aU Κ Φ s)):=(Qo s).L
end
section
variable (Κ:List D)(Φ:List Fn)
variable {Κ Φ}
theorem Qp (h:Bi e=true):∃z k p,e=.Constant (.str z) k p:=by obtain⟨c,a,h⟩:=aH h;obtain⟨k,p,rfl⟩:=sM a;cases c<;>first|(cases h;done)|exact⟨_,_,_,rfl⟩
end
section
variable {P:cj}{w:World}{K:W.Frag}{mg:Str->Option Value}{base:Heap}
structure Dok (Γ:Gm)(Κ:List D)(Φ:List Fn)(P:cj)(w:World)(K:W.Frag)(mg:Str->Option Value)(base:Heap)(k:Nat):Prop where
 free:∀x,Γ.free.contains x=true->mg x=none
 fns:∀(j:Nat) f n,Γ.fns[j]?=some (f,n)->∃m k' ps,Φ[j]?=some m/\k'<=k/\Cal P w K mg base k' f ps (spD K n m)
 cst:∀(j:Nat) x,Γ.cst[j]?=some x->∃d a,Κ[j]?=some d/\mg x=some (.ref a)/\∀H B,B none->Rep K H B (.ref a) d
 nX:∀(j:Nat) f n,Γ.fns[j]?=some (f,n)->∃m k' ps,Φ[j]?=some m/\k'<=k/\mM P w K mg base k' f ps n m
 xk:qS Γ K mg
theorem Qq (r:Reps K H A l b):StOk K ⟨H,λa=>H a=none\/A (some a),λ_=>none,A none⟩ H (l.map some++ao (n-l.length) none) (b.map (λd=>some (.od,d))++ao (n-b.length) none) where
 ext:=Same.refl H
 aN:=λa e=>.inl e
 own:=λa i e=>by cases e
 len:=by have:=r.length;simp;omega
 sl:=λi g d e=>by
  rw[ki]at e;split at e
  ·rename_i m;rw[av]at e;cases c:b[i]? with
   |none=>rw[c]at e;cases e
   |some k=>
    rw[c]at e;cases e;obtain⟨v,f,j⟩:=Reps.get r c;refine⟨v,?_,?_⟩
    ·rw[ki,qt (by rw[am,r.length];rw[am]at m;exact m),av,f];rfl
    ·refine(Rep.there _ j).weak λa h=>?_;cases a with
     |none=>exact h.1
     |some a=>exact⟨λz=>h.2 z,.inr h.1⟩
  ·rw[cc]at e;split at e<;>cases e
theorem d_fn {st:Stmt}(C:Fun K x x st f fd)(i:FnScope Γ.N ps (z08 st))(hs:Γ.sc=z08 st)(L:Γ.blk=false)(j:Γ.xc=none)(c:Dok Γ Κ Φ P w K mg base k)(D:chkL Γ s (z0d st)=true):
  FnOk P w K mg base lU (k+1) f fd ps (spD K ps.length (bC Κ Φ Γ.N.length s)):=by
 refine C.ok i (λT H Q E h=>h.choose_spec.choose_spec.choose_spec.1) λl A outer s1 H T Q E t m=>?_;obtain⟨B,u,r,M,rs,e,q⟩:=m;refine⟨_,sL Κ Φ s Γ (gT lU P w K mg base Γ.N x (z08 st) f l A outer s1 H E).uL k _ ⟨rfl,hs.symm,i.nd,λ_ _=>rfl,by rw[hs];exact i.kind,c.free,c.fns,c.cst,c.nX,λ_=>t,λ_=>rfl,t.units,λ_=>⟨rfl,rfl⟩,λ_=>rfl,λ_ _ z=>(by rw[j]at z;cases z),c.xk⟩ PassesOwn.never D,?_⟩;unfold bC at e;have y:=Qq (n:=Γ.N.length) rs;generalize b:aU Κ Φ s (u.map (λd=>some (.od,d))++ao (Γ.N.length-u.length) none)=p at e
 match p,b,e with
 |.ok (.nx F),b,e=>cases e;refine⟨_,_,_,y,b,λG S O I R fr=>q .aK S (λa o e=>(fr a o e rfl).1) rfl⟩
 |.ok (.rt g d),b,e=>
  cases e;refine⟨_,_,_,y,b,λv S hk J=>q v S hk (J.weak λa h=>?_)⟩;cases g with
  |fr=>cases a<;>exact h
  |nu=>cases a<;>exact h
  |od=>cases a with
   |none=>exact .inr h
   |some a=>exact h.elim .inl λz=>.inr z
  |al=>cases a with
   |none=>exact .inr h
   |some a=>exact h.elim .inl λz=>.inr z
 |.exc _,b,e=>cases e
 |.no,b,e=>cases e
theorem zvr {st:Stmt}(d:Fun K x x st f fd)(g:FnScope y.N ps (z08 st))(hs:y.sc=z08 st)(n:y.blk=false)(i:y.xc=none)(o:Dok y Κ Φ P w K mg base k)(p:chkL y s (z0d st)=true):
  FnOk P w K mg base (CXE P w base) (k+1) f fd ps (Hi K mg ps.length (bC Κ Φ y.N.length s)):=by
 obtain⟨oc,od,kV,j,r,an,l,ct,m,rfl,lk,a⟩:=d.ex;refine zn9 lk a g (λz H Q E h=>h.choose_spec.choose_spec.choose_spec.1) λA outer s1 H z Q E t b=>?_;obtain⟨B,u,c,v,rs,e,q⟩:=b;unfold bC at e;split at e<;>cases e
theorem Qr {ns:List Int}(h:SqL K H a (ns.map V.int)):Reps K H (λ_=>True) [.ref a] [.list (ns.map .int)]:=by
 refine⟨_,_,rfl,⟨a,ns.map V.int,rfl,?_,?_⟩,rfl⟩
 ·rcases h with(h|h)|h
  ·exact .inl ⟨h,trivial⟩
  ·exact .inr ⟨.inl h,trivial⟩
  ·exact .inr ⟨.inr h,trivial⟩
 ·clear h
  induction ns with
  |nil=>rfl
  |cons n ns b=>exact⟨_,_,rfl,rfl,b⟩
end
abbrev hld (o:Obj):HO:=.eZ o (.own 0)
def Hs (mg:Str->Option Value)(c:Str)(j:Nat)(σ:L2.St)(H:Hp):Prop:=∃a oe C,σ[j]?=some (some (.ref a))/\H a=some (hld oe)/\oe.cls=.ref C/\mg c=some (.ref C)
structure Gd where
 kf:Nat
 args:C
 c:Str
 i:Nat
 j:Nat
 g:Str
 r:Bool
structure XR where
 c:Str
 cs:List (Str×Bool)
 B:Str
def XR.subs (r:XR):List (Str×Str×Bool):=(r.c,"ValueError",true)::r.cs.map λy=>(r.c,y.1,y.2)
def yL (K:W.Frag)(A:Addr):List (Str×Bool)->Prop
 | []=>True
 |y::l=>(∃D dd cd sl,W.nsIn K bo y.1=some (some (.ref D))/\K.lookup D=some ⟨.type "type",dd,.cls cd,sl⟩/\W.subIn K (.ref A) (.ref D)=some y.2)/\yL K A l
structure Kx (K:W.Frag)(r:XR)(A D:Addr):Prop where
 a:W.nsIn K bo r.c=some (some (.ref A))
 l:∃dd cd sl,K.lookup A=some ⟨.type "type",dd,.cls cd,sl⟩
 e:exV K A=true
 cl:W.findIn K (.ref A) "__class__"=some (some (.builtin "object.__class__"))
 ga:W.findIn K (.ref A) "__getattribute__"=some (some (.builtin "BaseException.__getattribute__"))
 gt:W.findIn K (.ref A) "__getattr__"=some none
 ob:W.subIn K (.ref A) (.type "object")=some true
 be:W.subIn K (.ref A) (.type "BaseException")=some true
 v:W.subIn K (.ref A) (.type "ValueError")=some true
 b:W.nsIn K bo r.B=some (some (.ref D))
 f:exV K D=true
 s:W.subIn K (.ref A) (.ref D)=some true
 cs:yL K A r.cs
def kxs (K:W.Frag):List XR->Prop
 | []=>True
 |r::l=>(∃A D,Kx K r A D)/\kxs K l
theorem yM {K:W.Frag}:∀{l:List XR} {r:XR},kxs K l->r∈l->∃A D,Kx K r A D
 | [],_,_,z=>nomatch z
 |_::_,_,h,.head _=>h.1
 |_::_,_,h,.tail _ z=>yM h.2 z
theorem Ht {K:W.Frag}:∀{l:List (Str×Bool)} {y:Str×Bool},yL K A l->y∈l->∃D a cd sl,W.nsIn K bo y.1=some (some (.ref D))/\K.lookup D=some ⟨.type "type",a,.cls cd,sl⟩/\W.subIn K (.ref A) (.ref D)=some y.2
 | [],_,_,z=>nomatch z
 |_::_,_,h,.head _=>h.1
 |_::_,_,h,.tail _ z=>Ht h.2 z
theorem yN {K:W.Frag}{D:Addr}(l:K.lookup D=some ⟨.type "type",a,.cls cd,sl⟩):W.typeIn K (.ref D)=some (.type "type")/\(W.clsIn K D).isSome=true:=by
 constructor
 ·show(K.lookup D).map (·.cls)=_;rw[l];rfl
 ·unfold W.clsIn;rw[l];rfl
theorem Qs {K:W.Frag}(X:K.In h)(G:h.Ns bo mg)(g:kxs K d)(o:d≠[]->mg "ValueError"=none)(p:i.sub=(d.map XR.subs).flatten)(t:i.rs=d.map (·.c))(u:i.fC=d.map λr=>(r.c,r.B)):qS i K mg:=by
 refine⟨λc C b z=>?_,λc z=>?_,λc B z=>?_⟩
 ·rw[p]at z;obtain⟨l,x,z⟩:=l8.mp (cf.mp z);obtain⟨r,hr,rfl⟩:=bp.mp x;obtain⟨A,D,k⟩:=yM g hr;obtain⟨M,cd,sl,j⟩:=k.l;have xa:XA K A:=⟨k.cl,k.ga,k.gt,k.ob,k.be,(yN j).1,(yN j).2,(yH k.e).1⟩;rcases ax.mp z with e|z
  ·cases e;exact⟨A,.ty "ValueError",.type "ValueError",W.mg_of X G k.a,xa,XV.val,k.v,rfl,λw q=>q,.inr ⟨o (λq=>by rw[q]at hr;cases hr),by decide+kernel,by decide⟩⟩
  ·obtain⟨y,E,e⟩:=bp.mp z;cases e;obtain⟨m,F,H,I,J,n,L⟩:=Ht k.cs E;exact⟨A,.ref m,.ref m,W.mg_of X G k.a,xa,XV.own (yN n).1 (yN n).2,L,rfl,λw q=>q,.inl (W.mg_of X G J)⟩
 ·rw[t]at z;obtain⟨r,hr,rfl⟩:=bp.mp (cf.mp z);obtain⟨A,D,k⟩:=yM g hr;exact⟨A,W.mg_of X G k.a,k.e⟩
 ·rw[u]at z;obtain⟨r,hr,e⟩:=bp.mp (cf.mp z);cases e;obtain⟨A,D,k⟩:=yM g hr;exact⟨A,D,W.mg_of X G k.a,W.mg_of X G k.b,(yH k.e).1,(yH k.f).1,k.s⟩
inductive Kd where
 |n
 |e (c:Str) (r:Bool)
 |g (d:Gd) (je:Nat)
structure aO where
 nm:Str
 st:Stmt
 N:List Str
 ps:List Str
 free:List Str
 fns:List Nat
 s:S
 F:Fn
 kd:Kd
 kc:List (Str×List Str):=[]
def cD (y:Str×List Str):D:=.tuple (y.2.map .str)
def sig (Rs:List aO)(j:Nat):Str×Nat:=match Rs[j]? with
 |some c=>(c.nm,c.ps.length)
 |none=>("",0)
def fnAt (Rs:List aO)(j:Nat):Fn:=match Rs[j]? with
 |some c=>c.F
 |none=>λ_=>.no
def aO.G (Rs:List aO)(xt:List XR)(r:aO):Gm:={N:=r.N,sc:=z08 r.st,free:=r.free,fns:=r.fns.map (sig Rs),cst:=r.kc.map (·.1),sub:=(xt.map XR.subs).flatten,rs:=xt.map (·.c),fC:=xt.map λr=>(r.c,r.B)}
def Kd.lD:Kd->Bool
 |.e _ _=>true
 |_=>false
def nE (Rs:List aO)(j:Nat):Bool:=match Rs[j]? with
 |some c=>!c.kd.lD
 |none=>true
def aO.part (Rs:List aO)(xt:List XR)(i:Nat)(r:aO):Bool:=match r.kd with
 |.n=>chkL (r.G Rs xt) r.s (z0d r.st)
 |.e _ _=>false
 |.g _ _=>false
def aO.ok (Rs:List aO)(xt:List XR)(fr:List Str)(i:Nat)(r:aO):Bool:=
 (decide ((z08 r.st).kind=.function)&& !(z08 r.st).isCoroutine&& !(z08 r.st).isGenerator&&decide r.N.Nodup&&decide (r.N.take r.ps.length=r.ps))&&
 (r.ps.all (λx=>(z08 r.st).names.lookup x==some .local||(z08 r.st).names.lookup x==some .cell)&&(z08 r.st).names.all (λy=>!(y.2==.free))&&r.free.all (λx=>fr.contains x)&&r.fns.all (λj=>decide (j<i)&&nE Rs j)&&r.part Rs xt i)
def ub (Rs:List aO)(xt:List XR)(fr:List Str):Nat->List aO->Bool
 |_,[]=>true
 |i,r::l=>r.ok Rs xt fr i&&ub Rs xt fr (i+1) l
def aO.CD (Rs:List aO)(r:aO):Prop:=match r.kd with
 |.n=>r.F=bC (r.kc.map cD) (r.fns.map (fnAt Rs)) r.N.length r.s
 |.e _ _=>True
 |.g _ _=>True
def pF (Rs:List aO):List aO->Prop
 | []=>True
 |r::l=>r.CD Rs/\pF Rs l
theorem CF:∀{l:List aO} {k i:Nat} {r:aO},ub Rs a fr k l=true->l[i]?=some r->r.ok Rs a fr (k+i)=true
 | [],_,i,_,_,e=>by simp at e
 |r::l,k,0,_,h,e=>by cases e;exact(aC h).1
 |r::l,k,i+1,_,h,e=>by
  have:=CF (aC h).2 e
  rwa [show k+(i+1)=k+1+i by omega]
theorem Hu:∀{l:List aO} {i:Nat} {r:aO},pF a l->l[i]?=some r->r.CD a
 | [],i,_,_,e=>by simp at e
 |r::l,0,_,h,e=>by cases e;exact h.1
 |r::l,i+1,_,h,e=>Hu h.2 e
section
variable {P:cj}{w:World}{K:W.Frag}{mg:Str->Option Value}{base:Heap}{Rs:List aO}{xt:List XR}{fr:List Str}
theorem wj {r:aO}(h:r.ok Rs xt fr i=true):FnScope (r.G Rs xt).N r.ps (z08 r.st)/\(∀x,r.free.contains x=true->fr.contains x=true)/\(∀j∈r.fns,j<i/\nE Rs j=true)/\r.part Rs xt i=true:=by
 obtain⟨d,e⟩:=aC h;obtain⟨f,g,k,l,m⟩:=dC d;obtain⟨n,o,p,b,s⟩:=dC e;refine⟨⟨qx f,cI g,cI k,qx l,qx m,λx a=>?_,λy t z=>?_⟩,λx a=>?_,λj c=>⟨qx (aC (b6.mp b j c)).1,(aC (b6.mp b j c)).2⟩,s⟩
 ·rcases d2.mp (b6.mp n x a)with q|q
  ·exact .inl (q8 q)
  ·exact .inr (q8 q)
 ·have :=cI (b6.mp o y t);rw[z]at this;cases this
 ·exact b6.mp p x (cf.mp a)
def mQ (P:cj)(w:World)(K:W.Frag)(mg:Str->Option Value)(base:Heap)(i:Nat)(r:aO):Prop:=match r.kd with
 |.e _ _=>True
 |_=>Cal P w K mg base (i+1) r.nm r.ps (spD K r.ps.length r.F)/\mM P w K mg base (i+1) r.nm r.ps r.ps.length r.F
theorem wm (h:mQ P w K mg base j c)(e:Rs[j]?=some c)(n:nE Rs j=true):Cal P w K mg base (j+1) c.nm c.ps (spD K c.ps.length c.F)/\mM P w K mg base (j+1) c.nm c.ps c.ps.length c.F:=by
 unfold nE at n;rw[e]at n;have n:(!c.kd.lD)=true:=n;unfold mQ at h;cases hk:c.kd with
 |n=>rw[hk]at h;exact h
 |g d a=>rw[hk]at h;exact h
 |e x b=>rw[hk]at n;cases n
def CG (K:W.Frag)(mg:Str->Option Value)(y:Str×List Str):Prop:=∃a,mg y.1=some (.ref a)/\∀H B,B none->Rep K H B (.ref a) (cD y)
theorem Qt (o:Rs[i]?=some r)(h:r.ok Rs xt fr i=true)(T:∀x∈fr,mg x=none)(xk:∀Γ:Gm,Γ.sub=(xt.map XR.subs).flatten->Γ.rs=xt.map (·.c)->(Γ.fC=xt.map λr=>(r.c,r.B))->qS Γ K mg)(s:∀y∈r.kc,CG K mg y)(p:∀j c,j<i->Rs[j]?=some c->mQ P w K mg base j c):Dok (r.G Rs xt) (r.kc.map cD) (r.fns.map (fnAt Rs)) P w K mg base i where
 free:=λx t=>T x (cf.mp ((wj h).2.1 x t))
 fns:=λj f n e=>by
  have e:(r.fns.map (sig Rs))[j]?=some (f,n):=e;rw[av]at e;obtain⟨b,l,e⟩:=bx.mp e;obtain⟨d,k⟩:=(wj h).2.2.1 b (aw l);have m:=(ba.mp o).1;have g:=ah (ky d m);unfold sig at e;rw[g]at e;cases e;refine⟨fnAt Rs b,b+1,Rs[b].ps,by rw[av,l];rfl,d,?_⟩;have:fnAt Rs b=Rs[b].F:=by unfold fnAt;rw[g]
  rw[this];exact(wm (p b _ d g) g k).1
 cst:=λj x e=>by have e:(r.kc.map (·.1))[j]?=some x:=e;rw[av]at e;obtain⟨y,q,rfl⟩:=bx.mp e;obtain⟨a,u,v⟩:=s y (aw q);exact⟨cD y,a,by rw[av,q];rfl,u,v⟩
 nX:=λj f n e=>by
  have e:(r.fns.map (sig Rs))[j]?=some (f,n):=e;rw[av]at e;obtain⟨b,l,e⟩:=bx.mp e;obtain⟨d,k⟩:=(wj h).2.2.1 b (aw l);have m:=(ba.mp o).1;have g:=ah (ky d m);unfold sig at e;rw[g]at e;cases e;refine⟨fnAt Rs b,b+1,Rs[b].ps,by rw[av,l];rfl,d,?_⟩;have:fnAt Rs b=Rs[b].F:=by unfold fnAt;rw[g]
  rw[this];exact(wm (p b _ d g) g k).2
 xk:=xk _ rfl rfl rfl
theorem Qu (hok:ub Rs xt fr 0 Rs=true)(s:pF Rs Rs)(T:∀x∈fr,mg x=none)(xk:∀Γ:Gm,Γ.sub=(xt.map XR.subs).flatten->Γ.rs=xt.map (·.c)->(Γ.fC=xt.map λr=>(r.c,r.B))->qS Γ K mg)(n:Nat)(t:∀r∈Rs,∀y∈r.kc,CG K mg y)(O:∀i r,i<n->Rs[i]?=some r->Own K mg r.nm r.st r.ps):∀i r,i<n->Rs[i]?=some r->mQ P w K mg base i r:=by
 intro i
 induction i using Nat.strongRecOn with
 |ind i k=>
  intro r C h
  have l:r.ok Rs xt fr i=true:=by
   have:=CF hok h
   rwa [Nat.zero_add]at this
  have k:=λj c o u=>k j o c (ky o C) u;have D:=Qt h l T xk (t r (aw h)) k;obtain⟨p,v,_,a⟩:=wj l;have hf:=Hu s h;obtain⟨f,fd,q,m,kp,b⟩:=O i r C h;unfold aO.CD at hf;unfold aO.part at a;unfold mQ;cases hk:r.kd with
  |n=>rw[hk]at hf a;rw[hf];exact⟨⟨f,fd,d_fn (Γ:=r.G Rs xt) q p rfl rfl rfl D a,m,kp,b⟩,⟨f,fd,zvr q p rfl rfl rfl D a,m,kp,b⟩⟩
  |e c z=>rw[hk]at a;cases a
  |g d A=>rw[hk]at a;cases a
end
def Kf (K:W.Frag)(r:aO)(f:Addr)(fd:dt):Prop:=W.nsIn K bo r.nm=some (some (.ref f))/\∃(oc:Value) (od an:Option Addr) (sl:Array (Option Value)) (kV dc pm cd ct:Value),fd=W.fnOf r.nm r.nm (z0j r.st) (z0d r.st) (z08 r.st) .none kV dc pm an cd ct/\K.lookup f=some ⟨oc,od,.func fd,sl⟩/\W.codeIn K cd r.nm=true/\W.keepIn K (.ref f)=true
def CH (r:aO):Prop:=∀(kV doc pm:Value) (an:Option Addr) (rV ct:Value) (us:List Value),us.length=r.ps.length->kb (W.fnOf r.nm r.nm (z0j r.st) (z0d r.st) (z08 r.st) .none kV doc pm an rV ct) ⟨us,[]⟩=pure (r.ps.zip us)
theorem iW (h:b.length=n+1):∃a l,b=a::l/\l.length=n:=by
 cases b with
 |nil=>cases h
 |cons a l=>exact⟨a,l,rfl,Nat.succ.inj h⟩
theorem CJ {P:List Value->Prop}(h:∀a,P [a])(b:List Value)(z:b.length=1):P b:=by obtain⟨a,l,rfl,y⟩:=iW z;cases List.eq_nil_of_length_eq_zero y;exact h a
theorem dW {P:List Value->Prop}(h:∀a b,P [a,b])(c:List Value)(z:c.length=2):P c:=by obtain⟨a,l,rfl,y⟩:=iW z;exact CJ (P:=λl=>P (a::l)) (h a) l y
theorem mR {P:List Value->Prop}(h:∀a b c,P [a,b,c])(d:List Value)(z:d.length=3):P d:=by obtain⟨a,l,rfl,y⟩:=iW z;exact dW (P:=λl=>P (a::l)) (h a) l y
theorem by4 {P:List Value->Prop}(h:∀a b c d,P [a,b,c,d])(e:List Value)(z:e.length=4):P e:=by obtain⟨a,l,rfl,y⟩:=iW z;exact mR (P:=λl=>P (a::l)) (h a) l y
theorem Hv {P:List Value->Prop}(h:∀a b c d e,P [a,b,c,d,e])(f:List Value)(z:f.length=5):P f:=by obtain⟨a,l,rfl,y⟩:=iW z;exact by4 (P:=λl=>P (a::l)) (h a) l y
theorem Qv {P:List Value->Prop}(h:∀a b c d e f,P [a,b,c,d,e,f])(g:List Value)(z:g.length=6):P g:=by obtain⟨a,l,rfl,y⟩:=iW z;exact Hv (P:=λl=>P (a::l)) (h a) l y
def kOks (K:W.Frag):List aO->Prop
 | []=>True
 |r::l=>((∃f fd,Kf K r f fd)/\CH r)/\kOks K l
theorem Hw {K:W.Frag}:∀{l:List aO} {i:Nat} {r:aO},kOks K l->l[i]?=some r->(∃f fd,Kf K r f fd)/\CH r
 | [],i,_,_,e=>by simp at e
 |r::l,0,_,h,e=>by cases e;exact h.1
 |r::l,i+1,_,h,e=>Hw h.2 e
def strOf:Value->Option Str
 |.str x _=>if PyData.strOk x then some x else none
 |_=>none
def Hx (K:W.Frag)(y:Str×List Str):Bool:=match W.nsIn K bo y.1 with
 |some (some (.ref a))=>(match K.lookup a with
  |some ⟨.type "tuple",none,.seq eI _,_⟩=>decide (eI.toList.map strOf=y.2.map some)&&decide (y.2.length<=1000)
  |_=>false)
 |_=>false
def qV (K:W.Frag)(r:aO):Option (dt×Bool):=match W.nsIn K bo r.nm with
 |some (some (.ref f))=>(match K.lookup f with
  |some ⟨_,_,.func fd,_⟩=>some (fd,W.codeIn K fd.code r.nm&&W.keepIn K (.ref f))
  |_=>none)
 |_=>none
def Hy (r:aO)(x:dt×Bool):dt×Bool:=(W.fnOf r.nm r.nm (z0j r.st) (z0d r.st) (z08 r.st) .none x.1.kwdefaults x.1.doc x.1.pyModule x.1.annotations x.1.code x.1.closureTuple,true)
def wo (K:W.Frag)(A:Addr):Bool:=match K.lookup A with
 |some ⟨.type "type",_,.cls _,_⟩=>true
 |_=>false
def Qw:List Value:=[.type "ValueError",.type "Exception",.type "BaseException",.type "object"]
def CK (K:W.Frag)(r:XR):Option (Bool×Bool×Option (Option Value)×Option (Option Value)×Option (Option Value)×Option Bool×Option Bool×Option Bool×Bool×Option Bool×List (Bool×Option Bool)):=match W.nsIn K bo r.c,W.nsIn K bo r.B with
 |some (some (.ref A)),some (some (.ref D))=>some (wo K A,exV K A,W.findIn K (.ref A) "__class__",W.findIn K (.ref A) "__getattribute__",W.findIn K (.ref A) "__getattr__",W.subIn K (.ref A) (.type "object"),W.subIn K (.ref A) (.type "BaseException"),W.subIn K (.ref A) (.type "ValueError"),exV K D,W.subIn K (.ref A) (.ref D),r.cs.map λy=>match W.nsIn K bo y.1 with
  |some (some (.ref E))=>(wo K E,W.subIn K (.ref A) (.ref E))
  |_=>(false,none))
 |_,_=>none
def CL (r:XR):Option (Bool×Bool×Option (Option Value)×Option (Option Value)×Option (Option Value)×Option Bool×Option Bool×Option Bool×Bool×Option Bool×List (Bool×Option Bool)):=some (true,true,some (some (.builtin "object.__class__")),some (some (.builtin "BaseException.__getattribute__")),some none,some true,some true,some true,true,some true,r.cs.map λy=>(true,some y.2))
theorem Hz {K:W.Frag}(h:wo K A=true):∃a cd sl,K.lookup A=some ⟨.type "type",a,.cls cd,sl⟩:=by
 unfold wo at h;split at h
 ·rename_i a cd sl e;simp_all
 ·cases h
theorem zc7 {K:W.Frag}:∀{l:List (Str×Bool)},(l.map fun y=>match W.nsIn K bo y.1 with
  |some (some (.ref E))=>(wo K E,W.subIn K (.ref A) (.ref E))
  |_=>(false,none))=(l.map λy=>(true,some y.2))->yL K A l
 | [],_=>trivial
 |y::l,h=>by
  have h:=List.cons.inj h;refine⟨?_,zc7 h.2⟩;have e:=h.1
  dsimp only at e
  split at e
  ·rename_i E a;have e:=qw e;obtain⟨b,cd,sl,q⟩:=Hz e.1;exact⟨E,b,cd,sl,a,q,e.2⟩
  ·cases(qw e).1
theorem Qx {K:W.Frag}(h:CK K r=CL r):∃A D,Kx K r A D:=by
 unfold CK CL at h;split at h
 ·rename_i A D k l;have h:=qw (qv h);have b:=qw h.2;have c:=qw b.2;have d:=qw c.2;have e:=qw d.2;have f:=qw e.2;have g:=qw f.2;have i:=qw g.2;have j:=qw i.2;have a:=qw j.2;exact⟨A,D,k,Hz h.1,b.1,c.1,d.1,e.1,f.1,g.1,i.1,l,j.1,a.1,zc7 a.2⟩
 ·cases h
theorem HB {K:W.Frag}:∀{l:List XR},(∀r∈l,∃A D,Kx K r A D)->kxs K l
 | [],_=>trivial
 |r::_,h=>⟨h r (.head _),HB λr a=>h r (.tail _ a)⟩
def KEq (K:d9->W.Frag)(Rs:List aO)(fr:List Str)(xt:List XR):Prop:=∀P,(Rs.map λr=>(qV (K P) r).isSome,Rs.map λr=>qV (K P) r,fr.map λn=>W.nsIn (K P) bo n,xt.map λr=>CK (K P) r,Rs.map λr=>r.kc.map λy=>Hx (K P) y)=(Rs.map λ_=>true,Rs.map λr=>(qV (K P) r).map (Hy r),fr.map λ_=>some none,xt.map CL,Rs.map λr=>r.kc.map λ_=>true)
theorem KEq_r:KEq=KEq:=rfl
theorem Qy {K:W.Frag}(h:(qV K r).isSome=true)(e:qV K r=(qV K r).map (Hy r)):∃f fd,Kf K r f fd:=by
 cases z:qV K r with
 |none=>rw[z]at h;cases h
 |some x=>
  rw[z]at e;have e:=qv e;unfold qV at z;split at z
  ·rename_i f hf;split at z
   ·rename_i oc od fd sl c;have z:=qv z;have d:=congrArg mh z;have a:=congrArg qq z;have g:=congrArg mh e;have i:=congrArg qq e;rw[i]at a;have b:=ar.mp a;subst d;exact⟨f,x.1,hf,oc,od,x.1.annotations,sl,x.1.kwdefaults,x.1.doc,x.1.pyModule,x.1.code,x.1.closureTuple,g,c,b.1,b.2⟩
   ·cases z
  ·cases z
theorem yO {K:d9->W.Frag}(h:KEq K g fr i)(P:d9):(∀r∈g,∃f fd,Kf (K P) r f fd)/\(∀n∈fr,W.nsIn (K P) bo n=some none)/\kxs (K P) i/\∀r∈g,∀y∈r.kc,Hx (K P) y=true:=by have a:=qw (h P);have b:=qw a.2;have c:=qw b.2;have d:=qw c.2;exact⟨λr e=>Qy (cy.mp a.1 r e) (cy.mp b.1 r e),λn hn=>cy.mp c.1 n hn,HB λr e=>Qx (cy.mp d.1 r e),λr e=>cy.mp (cy.mp d.2 r e)⟩
def sQ:List aO->Prop
 | []=>True
 |r::l=>CH r/\sQ l
theorem HE {K:W.Frag}:∀{l:List aO},(∀r∈l,∃f fd,Kf K r f fd)->sQ l->kOks K l
 | [],_,_=>trivial
 |r::_,h,b=>⟨⟨h r (.head _),b.1⟩,HE (λr a=>h r (.tail _ a)) b.2⟩
end Mi
name_quick tkeq for Mi.KEq by Mi.KEq_r
namespace Mk
open Mi
section
open PySem
abbrev P:=List (Str×Int)
def pr (p:Str×Int):D:=.tuple [.str p.1,.int p.2]
def pk (l:P):D:=.tuple (l.map pr)
def ep (p:Str×Int):D×D:=(.str p.1,.int p.2)
def en (l:P):aX:=l.map ep
def iA:P->Str->Option Int
 | [],_=>none
 |p::l,n=>if p.1=n then some p.2 else iA l n
def look (l:P)(n:Str):Int:=(iA l n).getD 0
def ks (l:P):List Str:=l.map (·.1)
def put:P->Str->Int->P
 | [],n,v=>[(n,v)]
 |p::l,n,v=>if p.1=n then(p.1,v)::l else p::put l n v
def sl (a b:Str):Prop:=a.cps.toList<b.cps.toList
theorem Qz (a:Str):¬sl a a:=List.lt_irrefl _
theorem QA (h:sl a b)(k:sl b c):sl a c:=List.lt_trans h k
theorem HF {b:Str}(h:a.cps.toList=b.cps.toList):a=b:=by cases a;cases b;simp at h;subst h;rfl
theorem QB (h:a≠b):sl a b\/sl b a:=by
 by_cases c:sl a b
 ·exact .inl c
 ·by_cases d:sl b a
  ·exact .inr d
  ·exact(h (HF (List.le_antisymm (List.not_lt.mp d) (List.not_lt.mp c)))).elim
theorem QC (h:sl a b):a≠b:=λe=>Qz b (e▸h)
theorem HG:∀{l:P},n∉ks l->iA l n=none
 | [],_=>rfl
 |p::l,h=>by simp only[ks,bn,ax,not_or]at h;rw[iA,qu (λe=>h.1 e.symm)];exact HG h.2
theorem CM:∀{l:P},iA l n=some v->(n,v)∈l
 | [],h=>by cases h
 |p::l,h=>by
  rw[iA]at h;split at h
  ·rename_i e;cases h;subst e;exact bj
  ·exact ay _ (CM h)
theorem HH:∀{l:P} {p:Str×Int},(ks l).Nodup->p∈l->iA l p.1=some p.2
 |q::l,p,nd,h=>by
  rw[ks,bn,du]at nd;rw[iA];rcases(ax.mp h)with rfl|h
  ·rw[qt rfl]
  ·rw[qu λe:q.1=p.1=>nd.1 (bp.mpr ⟨p,h,e.symm⟩)];exact HH nd.2 h
theorem QD (h:n∈ks l):∃v,iA l n=some v:=by
 cases e:iA l n with
 |some v=>exact⟨v,rfl⟩
 |none=>
  exfalso
  induction l with
  |nil=>cases h
  |cons p l a=>
   rw[iA]at e;split at e
   ·cases e
   ·rename_i hn;rcases ax.mp h with h|h
    ·exact hn h.symm
    ·exact a h e
theorem yP (a b:Str):eqK (.str a) (.str b)=decide (a=b):=by simp only[eqK]
theorem QE (a:Str):jH (.str a)=true:=by simp only[jH]
theorem HI (n:Str):∀l,z0e (en l) (.str n)=(iA l n).map .int
 | []=>rfl
 |p::l=>by
  have a:=HI n l;unfold z0e at a ⊢;rw[iA];show Option.map _ (match eqK (.str p.1) (.str n)with|true=>_|false=>_)=_;rw[yP];by_cases h:p.1=n
  ·rw[qt h];simp[h,ep]
  ·rw[qu h];simp only[h,decide_false];exact a
theorem CN (n:Str):∀l,((en l).any λe=>eqK e.1 (.str n))=true↔n∈ks l
 | []=>by simp[en,ks]
 |p::l=>by show(eqK (.str p.1) (.str n)||_)=true↔_;rw[yP,ko,ks];have:=CN n l;rw[en,ks]at this;rw[this];simp[eq_comm]
theorem HJ:∀{l:P},(ks l).Nodup->n∈ks l->(en l).map (λe=>if eqK e.1 (.str n)then(e.1,.int v)else e)=en (put l n v)
 |p::l,nd,h=>by
  rw[ks,bn,du]at nd;rw[put];show(if eqK (.str p.1) (.str n)=true then _ else _)::_=_;rw[yP];by_cases e:p.1=n
  ·have hn:∀q∈l,¬q.1=n:=λq a z=>nd.1 (bp.mpr ⟨q,a,z.trans e.symm⟩);rw[qt e,qt (by simpa using e)]
   congr 1
   rw[ge];apply kt;intro q a;show(if eqK (.str q.1) (.str n)=true then _ else _)=ep q;rw[yP,qu (by simpa using hn q a)]
  ·rw[qu e,qu (by simpa using e)]
   congr 1
   refine HJ nd.2 ?_;rcases ax.mp h with h|h
   ·exact(e h.symm).elim
   ·exact h
theorem CP:∀{l:P},n∉ks l->put l n v=l++[(n,v)]
 | [],_=>rfl
 |p::l,h=>by simp only[ks,bn,ax,not_or]at h;rw[put,qu λe=>h.1 e.symm,CP h.2];rfl
theorem QF (nd:(ks l).Nodup):dput (en l) (.str n) (.int v)=en (put l n v):=by
 unfold dput;by_cases h:n∈ks l
 ·rw[qt ((CN n l).mpr h)];exact HJ nd h
 ·rw[qu λz=>h ((CN n l).mp z),CP h];simp[en,ep]
theorem HK:∀l a,(ks (a++l)).Nodup->kF (en a) (l.map pr)=some (en (a++l))
 | [],a,_=>by simp[kF]
 |p::l,a,nd=>by
  have b:=nd;rw[ks,dh]at nd;have c:=λz=>by rw[j0]at nd;exact nd.2.2 _ z _ bj rfl
  show(if jH (.str p.1)then kF (dput (en a) (.str p.1) (.int p.2)) (l.map pr)else none)=_;rw[qt (QE _),QF (by rw[j0]at nd;exact nd.1),CP c,HK l (a++[(p.1,p.2)]) (by rw[i3];exact b),i3];rfl
theorem QG (nd:(ks l).Nodup):kF [] (l.map pr)=some (en l):=by have:=HK l [] (by simpa using nd);simpa[en]using this
theorem HL (l:P):cU (en l)=true:=by unfold cU;rw[b6];intro e a;obtain⟨p,_,rfl⟩:=bp.mp a;rfl
theorem uc (p:Str×Int):imm (pr p)=true:=rfl
theorem HM (l:P):imms (l.map pr)=true:=vg.mpr λx a=>by obtain⟨p,_,rfl⟩:=bp.mp a;rfl
theorem gP (l:P):imm (pk l)=true:=HM l
theorem QH (n:Nat)(p:Str×Int):bA (n+1) (pr p)=true:=by cases n<;>rfl
theorem HP (n:Nat)(l:P):bA (n+2) (pk l)=true:=by exact qA.mpr λx a=>by obtain⟨p,_,rfl⟩:=bp.mp a;exact QH n p
theorem QI (l:P):yl (l.map pr)=true:=by
 cases l with
 |nil=>rfl
 |cons p l=>
  unfold yl;have:((p::l).map pr).all (zav ([PyData.str p.1,PyData.int p.2].map tU))=true:=by rw[b6];intro x a;obtain⟨q,_,rfl⟩:=bp.mp a;rfl
  rw[ko];right;exact ar.mpr ⟨rfl,this⟩
theorem QJ (l:P):ym (l.map pr)=true:=by unfold ym;rw[QI];rfl
def lp (p q:Str×Int):Bool:=cR (pr p) (pr q)
def hF (x:Str×Int):P->P
 | []=>[x]
 |y::ys=>if lp y x then y::hF x ys else x::y::ys
def pG:P->P
 | []=>[]
 |x::xs=>hF x (pG xs)
theorem HQ (x:Str×Int):∀l,gU (pr x) (l.map pr)=(hF x l).map pr
 | []=>rfl
 |y::l=>by
  rw[bn,gU,hF,lp];split
  ·rw[HQ x l];rfl
  ·rfl
theorem HR:∀l,lX (l.map pr)=(pG l).map pr
 | []=>rfl
 |x::l=>by rw[bn,lX,HR l,HQ,pG]
theorem CQ (x:Str×Int):∀l,(hF x l).Perm (x::l)
 | []=>.refl _
 |y::l=>by
  rw[hF];split
  ·exact((CQ x l).cons y).trans (.swap x y l)
  ·exact .refl _
theorem CS:∀l,(pG l).Perm l
 | []=>.refl _
 |x::l=>(CQ x (pG l)).trans ((CS l).cons x)
theorem HS (h:p.1≠q.1):lp p q=true↔sl p.1 q.1:=by
 show cR (.tuple [.str p.1,.int p.2]) (.tuple [.str q.1,.int q.2])=true↔_;simp only[cR,bS];have:dZ (.str p.1) (.str q.1)=false:=by simp[dZ,PyData.eqv,h]
 rw[this];simp[sl]
def Sd (l:P):Prop:=l.Pairwise λp q=>sl p.1 q.1
theorem HU:∀{l:P},Sd l->x.1∉ks l->Sd (hF x l)
 | [],_,_=>mf _ _
 |y::l,h,b=>by
  have d:=ee.1 h;simp only[ks,bn,ax,not_or]at b;rw[hF];split
  ·rename_i f;have c:=(HS (λe=>b.1 e.symm)).mp f;refine ee.mpr ⟨λz a=>?_,HU d.2 b.2⟩;rcases ax.mp ((CQ x l).mem_iff.mp a)with rfl|a
   ·exact c
   ·exact d.1 z a
  ·rename_i f
   have c:sl x.1 y.1:=by
    rcases QB b.1 with z|z
    ·exact z
    ·exact(f ((HS (λe=>b.1 e.symm)).mpr z)).elim
   refine ee.mpr ⟨λz a=>?_,h⟩;rcases(ax.mp a)with rfl|a
   ·exact c
   ·exact QA c (d.1 z a)
theorem HV:∀{l:P},(ks l).Nodup->Sd (pG l)
 | [],_=>List.Pairwise.nil
 |x::l,nd=>by rw[ks,bn,du]at nd;exact HU (HV nd.2) λz=>nd.1 (((CS l).map (·.1)).mem_iff.mp z)
theorem QK (h:Sd l):(ks l).Nodup:=by unfold ks List.Nodup;rw[jx];exact List.Pairwise.imp (λz=>QC z) h
structure PK (l:P):Prop where
 sd:Sd l
 pos:∀p∈l,0<p.2
theorem PK.nd (h:PK l):(ks l).Nodup:=QK h.sd
theorem PK.pH (h:PK l)(n:Str):0<=look l n:=by
 unfold look;cases e:iA l n with
 |none=>exact qh _
 |some v=>exact Int.le_of_lt (h.pos _ (CM e))
theorem PK.hI (h:PK l)(a:p∈l):look l p.1=p.2:=by unfold look;rw[HH h.nd a];rfl
end
section
open PySem
theorem HW:aU Κ Φ (.seq p q) a=oQ (aU Κ Φ p a) (aU Κ Φ q):=rfl
theorem CT:aU Κ Φ (.asg (.nm i) t) a=(aL Κ Φ t a>>=λx=>.ok (.nx (a.set i (some (z1v x))))):=rfl
theorem CU:aU Κ Φ (.bV c p q) a=(eA Κ Φ c a>>=λk=>if k then aU Κ Φ p a else aU Κ Φ q a):=rfl
theorem HX:aU Κ Φ (.ret (.var i)) ρ=(match ρ[i]? with|some (some (g,d))=>.ok (.rt (if imm d then .fr else jJ g) d)|_=>.no):=rfl
theorem QL:aU Κ Φ (.mut m i a) e=(dM Κ Φ a e>>=λc=>match e[i]? with
 |some (some (.fr,.list d))=>lZ m d c>>=λb=>.ok (.nx ((e.set i (some (.fr,.list b))).map qD))
 |_=>.no):=rfl
theorem QM:aU Κ Φ (.bP d a p) e=(evF Κ Φ a e>>=λw=>cZ (λx b=>fB d (gJ x w.1,x) b>>=λc=>aU Κ Φ p c) w.2.1 w.2.2):=rfl
theorem QN:cZ f (x::xs) ρ=(match f x ρ with
 |.ok (.nx a)=>cZ f xs a
 |.ok (.rt g d)=>.ok (.rt g d)
 |.exc e=>.exc e
 |.no=>.no):=rfl
theorem QO:dM Κ Φ .nil a=.ok []:=rfl
theorem yQ:dM Κ Φ (.cons a b) d=(aL Κ Φ a d>>=λx=>dM Κ Φ b d>>=λc=>.ok (x::c)):=rfl
theorem CV:si Κ Φ (.tv a) ρ=(aL Κ Φ a ρ>>=λx=>sf x.2):=rfl
theorem wq:AZ Κ Φ (.tv a) b=(aL Κ Φ a b>>=λx=>z58 x.2>>=λp=>.ok (x.1,p)):=rfl
theorem CW:eA Κ Φ (.tv a) b=(aL Κ Φ a b>>=λx=>jI x.2):=rfl
theorem QP:eA Κ Φ (.and a b) d=(eA Κ Φ a d>>=λc=>if c then eA Κ Φ b d else .ok false):=rfl
theorem QQ:eA Κ Φ (.not a) b=(eA Κ Φ a b>>=λc=>.ok (!c)):=rfl
theorem CY:evW Κ Φ (.tv a) ρ=(aL Κ Φ a ρ>>=λx=>z8f x.2>>=λb=>.ok (x.1,b)):=rfl
theorem QR:evW Κ Φ (.fA a) d=(dM Κ Φ a d>>=λb=>iP (b.map (·.2))>>=λc=>.ok (.fr,c)):=rfl
theorem iX (h:aU Κ Φ a ρ=.ok (.nx c))(k:aU Κ Φ b c=r):aU Κ Φ (.seq a b) ρ=r:=by rw[HW,h];exact k
theorem dD (h:aU Κ Φ a ρ=.ok (.rt g d)):aU Κ Φ (.seq a b) ρ=.ok (.rt g d):=by rw[HW,h];rfl
theorem eV (h:aU Κ Φ s (a.map (λd=>some (.od,d))++ao (n-a.length) none)=.ok (.rt g d)):bC Κ Φ n s a=.ok (g,d):=by unfold bC;rw[h]
theorem HY {g:Type}{m:g->D}(I:List g->Rho->Prop):∀(d pre:List g) (q:Rho),(∀a x b q,pre++d=a++x::b->I a q->∃c,f (m x) q=.ok (.nx c)/\I (a++[x]) c)->I pre q->∃c,cZ f (d.map m) q=.ok (.nx c)/\I (pre++d) c
 | [],pre,q,_,h=>⟨q,rfl,by rw[dz];exact h⟩
 |x::d,pre,q,hf,h=>by
  obtain⟨i,e,l⟩:=hf pre x d q rfl h;have k:pre++[x]++d=pre++x::d:=by rw[i3];rfl
  obtain⟨j,n,o⟩:=HY I d (pre++[x]) i (λa y b q p=>hf a y b q (k▸p)) l;exact⟨j,by rw[bn,QN,e];exact n,k▸o⟩
theorem HZ {b:Type}{m:b->D}(g:b->Option D):∀(a:List b),(∀x∈a,f (m x)=.ok ((g x).map λd=>(.fr,d)))->kI f (a.map m)=.ok ((a.filterMap g).map λd=>(.fr,d))
 | [],_=>rfl
 |x::a,h=>by
  rw[bn,kI,h x bj,Res.aB,HZ g a λy c=>h y (ay _ c),Res.aB];cases e:g x with
  |none=>rw[lx e];rfl
  |some d=>rw[ly e];rfl
theorem QS (a:List D):qC (a.map λd=>(G.fr,d))=.fr:=by unfold qC;rw[qt];rw[List.all_map];exact b6.mpr λ_ _=>rfl
theorem QT (a:List D):cK (a.map λd=>(G.fr,d))=.fr:=by unfold cK;rw[qt];rw[b6];intro x b;obtain⟨d,_,rfl⟩:=bp.mp b;rfl
theorem CZ (a:List D):(a.map λd=>(G.fr,d)).map (λx=>x.2)=a:=by rw[ge];exact List.map_id _
theorem QU (a b:Int):hX "min" [.int a,.int b]=.ok (.int (min a b)):=rfl
theorem QV (l:P)(n:Str)(v:Int):mtD "get" (.dict (en l)) [.str n,.int v]=.ok (.int ((iA l n).getD v)):=by have:mtD "get" (.dict (en l)) [.str n,.int v]=.ok ((z0e (en l) (.str n)).getD (.int v)):=rfl;rw[this,HI];cases iA l n<;>rfl
theorem Ia (l:P)(n:Str):mtD "get" (.dict (en l)) [.str n,.int 0]=.ok (.int (look l n)):=QV l n 0
theorem Ib (b:Bool)(nd:(ks l).Nodup):aggD "dict" b (l.map pr)=.ok (.dict (en l)):=by show Res.eJ ((kF [] (l.map pr)).map PyData.dict)=_;rw[QG nd];rfl
def chr (z:Str)(i:Int):Str:=⟨#[z.cps.toList.getD i.toNat 0]⟩
theorem QW (a b:Str):(a++b).length=a.length+b.length:=by show Array.size (a.cps++b.cps)=_;rw[Array.size_append];rfl
theorem yR {b:Type}(a:List b)(i:Int)(d:b)(h0:0<=i)(c:i<a.length):cF a i=some (a.getD i.toNat d):=by
 unfold cF iL;rw[qt h0,qt c];show a[i.toNat]?=_;have:i.toNat<a.length:=by omega
 rw[ac,ah this];rfl
theorem Ar (h0:0<=i)(a:i<z.length)(b:z.length<=1000):gW (.str z) (.int i)=.ok (.str (chr z i)):=by show(if z.length<=aR then Res.eJ ((cF z.cps.toList i).map λc=>PyData.str ⟨#[c]⟩)else .no)=_;rw[qt (by unfold aR;omega),yR _ i 0 h0 (jb▸a)];rfl
theorem mS {ns:List Str}{i:Int}(h0:0<=i)(a:i<ns.length):gW (.list (ns.map .str)) (.int i)=.ok (.str (ns.getD i.toNat ⟨#[]⟩)):=by
 show Res.eJ (cF (ns.map PyData.str) i)=_;rw[yR _ i (.str ⟨#[]⟩) h0 (by rw[am];exact a)]
 congr 1
 have:i.toNat<ns.length:=by omega
 rw[ac,ac,av,ah this];rfl
theorem C1 {ns:List Int}{i:Int}(h0:0<=i)(a:i<ns.length):gW (.list (ns.map .int)) (.int i)=.ok (.int (ns.getD i.toNat 0)):=by
 show Res.eJ (cF (ns.map PyData.int) i)=_;rw[yR _ i (.int 0) h0 (by rw[am];exact a)]
 congr 1
 have:i.toNat<ns.length:=by omega
 rw[ac,ac,av,ah this];rfl
theorem getD_mem {a:Type}{ns:List a}{i:Int}{d:a}(h0:0<=i)(b:i<ns.length):ns.getD i.toNat d∈ns:=by grind
theorem add_str (h:a.length+b.length<=1000):dE .Add (.str a) (.str b)=.ok (.str (a++b)):=by show(if _ then _ else _)=_;rw[qt (by unfold aR;omega)]
theorem add_list (h:a.length+b.length<=1000):dE .Add (.list a) (.list b)=.ok (.list (a++b)):=by show(if _ then _ else _)=_;rw[qt (by unfold aR;omega)]
theorem wt (h:-(2 ^ 64)<b/\b<2 ^ 64):dE .Mult (.int a) (.int b)=.ok (.int (a*b)):=by show(if _ then _ else _)=_;rw[qt (.inr h)]
theorem C3 (h:-(2 ^ 64)<a/\a<2 ^ 64):dE .Mult (.int a) (.int b)=.ok (.int (a*b)):=by show(if _ then _ else _)=_;rw[qt (.inl h)]
theorem eL (h:0<b):dE .Mod (.int a) (.int b)=.ok (.int (a%b)):=by show(if _ then _ else _)=_;rw[qt h]
theorem QX:dE .Pow (.int 10) (.int 30)=.ok (.int 1000000000000000000000000000000):=rfl
theorem yS (h0:0<=n)(a:n<=1000):iP [.int n]=.ok ((cg n.toNat).map λ(i:Nat)=>.int i):=by show(if _ then _ else _)=_;rw[qt (by unfold aR;omega)]
theorem yi (h:z.length<=1000):oP (.str z) i j=.ok (.str (lE z i j)):=by show(if _ then _ else _)=_;rw[qt (by unfold aR;omega)]
theorem Ic (z:Str)(i j:Option Int):(lE z i j).length<=z.length:=by show(iu (cut z.cps.toList i j)).size<=z.cps.size;unfold cut;rw[bz,c9,j6,jb];omega
theorem Ie:∀ns,gX (ns.map .str)=some ns
 | []=>rfl
 |n::ns=>by rw[bn,gX,Ie ns];rfl
theorem QY:∀a,(∀s∈a,s.length=1)->(qF "" a).length=a.length
 | [],_=>rfl
 |x::r,h=>by
  show(iu (x.cps.toList++(r.map λp=>([]:List Nat)++p.cps.toList).flatten)).size=_;have b:=h x bj
  have c:∀(r:List Str),(∀s∈r,s.length=1)->((r.map λp=>([]:List Nat)++p.cps.toList).flatten).length=r.length:=by
   intro r
   induction r with
   |nil=>intro _;rfl
   |cons y r d=>intro h;have e:=h y bj;rw[bn,p4,bf,d λs hs=>h s (ay _ hs)];have:(([]:List Nat)++y.cps.toList).length=1:=e;rw[bh];omega
  rw[bz,bf,c r λs hs=>h s (ay _ hs)];have:x.cps.toList.length=1:=b;rw[bh];omega
theorem QZ (h:∀s∈a,s.length=1)(d:a.length<=1000):mtD "join" (.str "") [.list (a.map .str)]=.ok (.str (qF "" a)):=by
 have:mtD "join" (.str "") [.list (a.map .str)]=(match gX (a.map .str)with|some a=>if AY "" a<=aR then .ok (.str (qF "" a))else .no|none=>.no):=rfl;rw[this,Ie]
 dsimp only
 rw[qt];unfold AY;have h0:("":Str).length=0:=rfl
 have b:∀(r:List Str),(∀s∈r,s.length=1)->(r.map (·.length)).sum=r.length:=by
  intro r
  induction r with
  |nil=>intro _;rfl
  |cons y r c=>intro h;rw[bn,List.sum_cons,h y bj,c λs hs=>h s (ay _ hs),bh];omega
 rw[b a h,h0];unfold aR;omega
theorem Ig (a b:Int):dZ (.int a) (.int b)=decide (a=b):=by rfl
theorem wu:aL Κ Φ (.var i) ρ=(vh ρ[i]?):=rfl
theorem Q0:aL Κ Φ (.aK) a=(.ok (.fr,.none)):=rfl
theorem C4:aL Κ Φ (.bl b) a=(.ok (.fr,.bool b)):=rfl
theorem Q1:aL Κ Φ (.int i) a=(.ok (.fr,.int i)):=rfl
theorem Q3:aL Κ Φ (.str x) a=(.ok (.fr,.str x)):=rfl
theorem Ih:aL Κ Φ (.bin c a b) e=(aL Κ Φ a e>>=λx=>aL Κ Φ b e>>=λy=>dE c x.2 y.2>>=λd=>.ok (gN d (cK [x,y]),d)):=rfl
theorem Q4:aL Κ Φ (.cmp c a b) ρ=(aL Κ Φ a ρ>>=λx=>aL Κ Φ b ρ>>=λy=>cmpD c x.2 y.2>>=λb=>.ok (.fr,.bool b)):=rfl
theorem Q5:aL Κ Φ (.qB b a) c=(aL Κ Φ a c>>=λx=>.ok (.fr,.bool (match x.2 with|.none=>!b|_=>b))):=rfl
theorem Q6:aL Κ Φ (.and a b) d=(aL Κ Φ a d>>=λx=>match x.2 with|.bool c=>if c then aL Κ Φ b d else .ok (.fr,.bool false)|_=>.no):=rfl
theorem Ii:aL Κ Φ (.se c a b) ρ=(eA Κ Φ c ρ>>=λk=>if k then aL Κ Φ a ρ else aL Κ Φ b ρ):=rfl
theorem Ij:aL Κ Φ (.tup b) ρ=(dM Κ Φ b ρ>>=λa=>.ok (gJ (.tuple (a.map (·.2))) (cK a),.tuple (a.map (·.2)))):=rfl
theorem Q7:aL Κ Φ (.lst b) c=(dM Κ Φ b c>>=λa=>.ok (cK a,.list (a.map (·.2)))):=rfl
theorem C5:aL Κ Φ (.ix a b) c=(aL Κ Φ a c>>=λx=>aL Κ Φ b c>>=λy=>gW x.2 y.2>>=λd=>.ok (gJ d x.1,d)):=rfl
theorem wx:aL Κ Φ (.sl a c e) b=(aL Κ Φ a b>>=λx=>si Κ Φ c b>>=λl=>si Κ Φ e b>>=λh=>oP x.2 l h>>=λd=>.ok (gN d (cK [x]),d)):=rfl
theorem Ik:aL Κ Φ (.call k b args) c=(dM Κ Φ args c>>=λa=>match Φ[k]? with|some m=>m (a.map (·.2))>>=λr=>.ok (gJ r.2 (jJ r.1),r.2)|none=>.no):=rfl
theorem C6:aL Κ Φ (.bi f args) b=(dM Κ Φ args b>>=λa=>hX f (a.map (·.2))>>=λd=>.ok (gJ d .al,d)):=rfl
theorem Il:aL Κ Φ (.lC f a) ρ=(AZ Κ Φ a ρ>>=λw=>aggD f w.2.1 w.2.2>>=λd=>.ok (gJ d (if imms w.2.2 then .fr else agG w.1),d)):=rfl
theorem C7:aL Κ Φ (.mt m o args) b=(aL Κ Φ o b>>=λx=>dM Κ Φ args b>>=λa=>mtD m x.2 (a.map (·.2))>>=λd=>.ok (gJ d .al,d)):=rfl
theorem Q8 {a:C}:aL Κ Φ (.comp e f i g h a c) l=(evW Κ Φ h l>>=λw=>kI (λx=>fB g (gJ x w.1,x) (ao e none++f.map λj=>iN (l.getD j none))>>=λb=>eA Κ Φ a b>>=λk=>if k then aL Κ Φ c b>>=λy=>.ok (some y)else .ok none) w.2>>=λd=>.ok (qC d,.list (d.map (·.2)))):=rfl
def Ev (Κ:List D)(Φ:List Fn)(c:C)(ρ:Rho)(d:D):Prop:=∃g,aL Κ Φ c ρ=.ok (g,d)
def Vv (Κ:List D)(Φ:List Fn)(c:C)(ρ:Rho)(d:D):Prop:=aL Κ Φ c ρ=.ok (.fr,d)/\imm d=true
def Aa (Κ:List D)(Φ:List Fn)(c:C)(ρ:Rho)(ds:List D):Prop:=∃ys,dM Κ Φ c ρ=.ok ys/\ys.map (·.2)=ds
def Av (Κ:List D)(Φ:List Fn)(c:C)(ρ:Rho)(ds:List D):Prop:=dM Κ Φ c ρ=.ok (ds.map λd=>(.fr,d))/\imms ds=true
def Tt (Κ:List D)(Φ:List Fn)(c:C)(ρ:Rho)(k:Bool):Prop:=eA Κ Φ c ρ=.ok k
theorem Vv.e (h:Vv Κ Φ c ρ d):Ev Κ Φ c ρ d:=⟨_,h.1⟩
theorem Ev.of (h:aL Κ Φ c ρ=.ok (g,d)):Ev Κ Φ c ρ d:=⟨_,h⟩
theorem aD (h:ρ[i]?=some (some (g,d))):Ev Κ Φ (.var i) ρ d:=⟨_,by rw[wu];rw[h];rfl⟩
theorem v_var (h:ρ[i]?=some (some (g,d)))(hi:imm d=true):Vv Κ Φ (.var i) ρ d:=⟨by rw[wu];rw[h];show Res.ok (if imm d=true then _ else _,d)=_;rw[qt hi],hi⟩
theorem aM:Vv Κ Φ (.int i) ρ (.int i):=⟨by rw[Q1],rfl⟩
theorem gD:Vv Κ Φ (.str i) ρ (.str i):=⟨by rw[Q3],rfl⟩
theorem wy:Vv Κ Φ (.bl i) ρ (.bool i):=⟨by rw[C4],rfl⟩
theorem yT:Vv Κ Φ .aK a .none:=⟨by rw[Q0],rfl⟩
theorem mT (a:imm d=true):gJ d g=.fr:=by unfold gJ;rw[qt a]
theorem Im (hi:imm d=true):gN d g=.fr:=by cases d<;>first|exact mT hi|cases hi
theorem bL (c:Ev Κ Φ a ρ x)(e:Ev Κ Φ b ρ y)(h:dE op x y=.ok d)(g:imm d=true):Vv Κ Φ (.bin op a b) ρ d:=by obtain⟨f,c⟩:=c;obtain⟨g2,e⟩:=e;refine⟨?_,g⟩;rw[Ih];rw[c,Res.aB,e,Res.aB];dsimp only;rw[h,Res.aB,Im g]
theorem Io (c:Ev Κ Φ a ρ x)(d:Ev Κ Φ b ρ y)(h:dE e x y=.ok (.list xs))(g:imms xs=true):aL Κ Φ (.bin e a b) ρ=.ok (.fr,.list xs):=by obtain⟨f,c⟩:=c;obtain⟨g2,d⟩:=d;rw[Ih];rw[c,Res.aB,d,Res.aB];dsimp only;rw[h,Res.aB];show Res.ok (if imms xs=true then _ else _,_)=_;rw[qt g]
theorem hJ (c:Ev Κ Φ a ρ x)(d:Ev Κ Φ b ρ y)(h:cmpD op x y=.ok k):Vv Κ Φ (.cmp op a b) ρ (.bool k):=by obtain⟨e,c⟩:=c;obtain⟨g2,d⟩:=d;refine⟨?_,rfl⟩;rw[Q4];rw[c,Res.aB,d,Res.aB];dsimp only;rw[h];rfl
def C8:D->Bool
 |.none=>true
 |_=>false
theorem Q9 (b:Ev Κ Φ a e x):Vv Κ Φ (.qB c a) e (.bool (if C8 x then !c else c)):=by obtain⟨d,b⟩:=b;refine⟨?_,rfl⟩;rw[Q5];rw[b];cases x<;>rfl
theorem v_and (c:Ev Κ Φ a ρ (.bool k))(d:k=true->Vv Κ Φ b ρ (.bool e)):Vv Κ Φ (.and a b) ρ (.bool (k&&e)):=by
 obtain⟨f,c⟩:=c;refine⟨?_,rfl⟩;rw[Q6];rw[c];cases k with
 |true=>exact(d rfl).1
 |false=>rfl
theorem Ip (d:Tt Κ Φ c ρ k)(e:k=true->Vv Κ Φ a ρ x)(f:k=false->Vv Κ Φ b ρ y):Vv Κ Φ (.se c a b) ρ (if k then x else y):=by
 cases k with
 |true=>exact⟨by rw[Ii];rw[d];exact(e rfl).1,(e rfl).2⟩
 |false=>exact⟨by rw[Ii];rw[d];exact(f rfl).1,(f rfl).2⟩
theorem fE:Av Κ Φ .nil ρ []:=⟨rfl,rfl⟩
theorem bM (c:Vv Κ Φ a ρ x)(d:Av Κ Φ b ρ e):Av Κ Φ (.cons a b) ρ (x::e):=⟨by rw[yQ,c.1,Res.aB,d.1];rfl,by show(imm x&&imms e)=true;rw[c.2,d.2];rfl⟩
theorem bG:Aa Κ Φ .nil ρ []:=⟨[],rfl,rfl⟩
theorem aJ (c:Ev Κ Φ a ρ x)(d:Aa Κ Φ b ρ f):Aa Κ Φ (.cons a b) ρ (x::f):=by obtain⟨g,c⟩:=c;obtain⟨h,d,e⟩:=d;exact⟨_,by rw[yQ,c,d];rfl,by rw[bn,e]⟩
theorem mU (h:Av Κ Φ args ρ a):Vv Κ Φ (.tup args) ρ (.tuple a):=by refine⟨?_,h.2⟩;rw[Ij];rw[h.1,Res.aB,CZ,mT (d:=.tuple a) h.2]
theorem Ra (h:Aa Κ Φ args c a):Ev Κ Φ (.tup args) c (.tuple a):=by obtain⟨b,h,e⟩:=h;exact⟨_,by rw[Ij];rw[h,Res.aB,e]⟩
theorem mV (h:Av Κ Φ args ρ ds):aL Κ Φ (.lst args) ρ=.ok (.fr,.list ds):=by rw[Q7];rw[h.1,Res.aB,CZ,QT]
theorem aP (c:Ev Κ Φ a ρ x)(e:Ev Κ Φ b ρ y)(h:gW x y=.ok d)(g:imm d=true):Vv Κ Φ (.ix a b) ρ d:=by obtain⟨f,c⟩:=c;obtain⟨g2,e⟩:=e;refine⟨?_,g⟩;rw[C5];rw[c,Res.aB,e,Res.aB];dsimp only;rw[h,Res.aB,mT g]
def Oo (Κ:List D)(Φ:List Fn)(c:C)(ρ:Rho)(i:Option Int):Prop:=si Κ Φ c ρ=.ok i
theorem nU:Oo Κ Φ .nil ρ none:=rfl
theorem jO (h:Ev Κ Φ a ρ (.int i)):Oo Κ Φ (.tv a) ρ (some i):=by obtain⟨b,h⟩:=h;unfold Oo;rw[CV,h];rfl
theorem wz (e:Ev Κ Φ a ρ x)(f:Oo Κ Φ b ρ i)(g:Oo Κ Φ c ρ j)(h:oP x i j=.ok d)(l:imm d=true):Vv Κ Φ (.sl a b c) ρ d:=by obtain⟨k,e⟩:=e;unfold Oo at f g;refine⟨?_,l⟩;rw[wx];rw[e,Res.aB,f,Res.aB,g,Res.aB];dsimp only;rw[h,Res.aB,Im l]
theorem dP (a:Aa Κ Φ args ρ b)(hf:Φ[n]?=some m)(h:m b=.ok (g,d))(i:imm d=true):Vv Κ Φ (.call n f args) ρ d:=by obtain⟨c,a,e⟩:=a;refine⟨?_,i⟩;rw[Ik];rw[a,Res.aB,hf];dsimp only;rw[e,h,Res.aB,mT i]
theorem qW (a:Aa Κ Φ args i b)(hf:Φ[n]?=some m)(h:m b=.ok (g,d)):Ev Κ Φ (.call n f args) i d:=by obtain⟨c,a,e⟩:=a;exact⟨_,by rw[Ik];rw[a,Res.aB,hf];dsimp only;rw[e,h,Res.aB]⟩
theorem eW (a:Aa Κ Φ args ρ b)(h:hX f b=.ok d)(hi:imm d=true):Vv Κ Φ (.bi f args) ρ d:=by obtain⟨c,a,e⟩:=a;refine⟨?_,hi⟩;rw[C6];rw[a,Res.aB,e,h,Res.aB,mT hi]
theorem Iq (b:Ev Κ Φ a ρ x)(c:z58 x=.ok w)(h:aggD f w.1 w.2=.ok d)(g:imm d=true):Vv Κ Φ (.lC f (.tv a)) ρ d:=by obtain⟨e,b⟩:=b;refine⟨?_,g⟩;rw[Il];rw[wq,b,Res.aB];dsimp only;rw[c];simp only[Res.aB];rw[h,Res.aB,mT g]
theorem C9 (b:Ev Κ Φ a ρ x)(c:z58 x=.ok w)(h:aggD f w.1 w.2=.ok d)(g:imms w.2=true):aL Κ Φ (.lC f (.tv a)) ρ=.ok (.fr,d):=by obtain⟨e,b⟩:=b;rw[Il];rw[wq,b,Res.aB];dsimp only;rw[c];simp only[Res.aB];rw[h,Res.aB,qt g];unfold gJ;split<;>rfl
theorem sR (a:Ev Κ Φ o ρ x)(b:Aa Κ Φ args ρ c)(h:mtD m x c=.ok d)(i:imm d=true):Vv Κ Φ (.mt m o args) ρ d:=by obtain⟨f,a⟩:=a;obtain⟨g,b,e⟩:=b;refine⟨?_,i⟩;rw[C7];rw[a,Res.aB,b,Res.aB,e];dsimp only;rw[h,Res.aB,mT i]
theorem bU (h:Ev Κ Φ a ρ x)(b:jI x=.ok k):Tt Κ Φ (.tv a) ρ k:=by obtain⟨c,h⟩:=h;unfold Tt;rw[CW,h];exact b
theorem Rb (c:Tt Κ Φ a ρ k)(d:k=true->Tt Κ Φ b ρ k'):Tt Κ Φ (.and a b) ρ (k&&k'):=by
 unfold Tt at *
 rw[QP,c];cases k with
 |true=>exact d rfl
 |false=>rfl
theorem vM (b:Tt Κ Φ a ρ k):Tt Κ Φ (.not a) ρ (!k):=by
 unfold Tt at *
 rw[QQ,b];rfl
theorem z3l {b:Type}{cond:C}{m:b->D}{xs:List b}(p:b->Bool)(f:b->D)(c:evW Κ Φ it ρ=.ok w)(a:w.2=xs.map m)(r:b->Rho)
  (d:∀x∈xs,fB tg (gJ (m x) w.1,m x) (ao nt none++js.map λj=>iN (ρ.getD j none))=.ok (r x)) (g:∀x∈xs,Tt Κ Φ cond (r x) (p x)) (h:∀x∈xs,p x=true->Vv Κ Φ elt (r x) (f x)):
  aL Κ Φ (.comp nt js N' tg it cond elt) ρ=.ok (.fr,.list ((xs.filter p).map f)):=by
 rw[Q8];rw[c,Res.aB,a]
 rw[HZ (λx=>if p x then some (f x)else none) xs λx a=>by
  rw[d x a,Res.aB];have:=g x a;rw[this,Res.aB];cases e:p x with
  |true=>rw[qt rfl,(h x a e).1];rfl
  |false=>rfl]
 rw[Res.aB,QS,CZ]
 have:(xs.filterMap λx=>if p x=true then some (f x)else none)=(xs.filter p).map f:=by
  clear a d g h c
  induction xs with
  |nil=>rfl
  |cons x xs i=>
   cases e:p x with
   |true=>rw[ly (by rw[e];rfl),mi e,bn,i]
   |false=>rw[lx (by rw[e];rfl),mj (e▸dr),i]
 rw[this]
theorem iT (h:aL Κ Φ a ρ=.ok (g,x))(b:z8f x=.ok xs):evW Κ Φ (.tv a) ρ=.ok (g,xs):=by rw[CY,h,Res.aB];dsimp only;rw[b];rfl
theorem wB (h:Aa Κ Φ args ρ ds)(hw:iP ds=.ok xs):evW Κ Φ (.fA args) ρ=.ok (.fr,xs):=by obtain⟨ys,h,e⟩:=h;rw[QR,h,Res.aB,e,hw];rfl
theorem pI (h:Vv Κ Φ t ρ d):aU Κ Φ (.asg (.nm i) t) ρ=.ok (.nx (ρ.set i (some (.al,d)))):=by rw[CT,h.1];show Res.ok (Out.nx (ρ.set i (some (if imm d then(.al,d)else _))))=_;rw[qt h.2]
theorem wC (h:aL Κ Φ t ρ=.ok (.fr,.list xs))(a:imms xs=true):aU Κ Φ (.asg (.nm i) t) ρ=.ok (.nx (ρ.set i (some (.fr,.list xs)))):=by rw[CT,h,Res.aB];show Res.ok (Out.nx (ρ.set i (some (if imms xs then .fr else .nu,.list xs))))=_;rw[qt a]
theorem Ir (h:aL Κ Φ t ρ=.ok (.fr,.dict es))(a:cU es=true):aU Κ Φ (.asg (.nm i) t) ρ=.ok (.nx (ρ.set i (some (.fr,.dict es)))):=by rw[CT,h];show Res.ok (Out.nx (ρ.set i (some (if cU es then .fr else .nu,.dict es))))=_;rw[qt a]
theorem Iu (a:∀i,t≠.var i):aU Κ Φ (.ret t) b=(aL Κ Φ t b>>=λx=>.ok (.rt (jJ x.1) x.2)):=by cases t<;>first|exact absurd rfl (a _)|rfl
theorem eM (h:Vv Κ Φ t ρ d):aU Κ Φ (.ret t) ρ=.ok (.rt .fr d):=by
 by_cases e:∀i,t≠.var i
 ·rw[Iu e,h.1];rfl
 obtain⟨i,rfl⟩:∃i,t=.var i:=by cases t<;>first|exact⟨_,rfl⟩|exact(e λi z=>by cases z).elim
 have a:=h.1;rw[wu]at a;rw[HX];cases b:ρ[i]? with
 |none=>rw[b]at a;cases a
 |some o=>
  cases o with
  |none=>rw[b]at a;cases a
  |some f=>
   obtain⟨g,c⟩:=f;rw[b]at a;have:c=d:=by have:=congrArg (λr:Res GD=>match r with|.ok p=>p.2|_=>.none) a;exact this
   subst this;show Res.ok (Out.rt (if imm c=true then _ else _) c)=_;rw[qt h.2]
theorem Iv (a:∀i,t≠.var i)(h:aL Κ Φ t ρ=.ok (.fr,.list xs)):aU Κ Φ (.ret t) ρ=.ok (.rt .fr (.list xs)):=by rw[Iu a,h];rfl
theorem wD (a:Tt Κ Φ c ρ k)(b:k=true->aU Κ Φ p ρ=r)(d:k=false->aU Κ Φ q ρ=r):aU Κ Φ (.bV c p q) ρ=r:=by
 rw[CU,a,Res.aB];cases k with
 |true=>exact b rfl
 |false=>exact d rfl
theorem ud:aU Κ Φ .nil a=.ok (.nx a):=rfl
theorem Rc {y:GD}(h:imm y.2=true):okIn y=true:=by unfold okIn;rw[h];rfl
theorem Rf (c:Vv Κ Φ a f x)(d:f[i]?=some (some (.fr,.list b)))(e:b.length<1000):aU Κ Φ (.mut "append" i (.cons a .nil)) f=.ok (.nx ((f.set i (some (.fr,.list (b++[x])))).map qD)):=by
 rw[QL,yQ,c.1,Res.aB,QO,Res.aB,Res.aB,d]
 dsimp only
 have:lZ "append" b [(.fr,x)]=.ok (b++[x]):=by show(if(okIn (G.fr,x)&&decide (b.length<aR))=true then _ else _)=_;rw[qt];rw[Rc c.2,Bool.true_and];refine qy ?_;unfold aR;omega
 rw[this];rfl
theorem Iw (h:Aa Κ Φ args ρ a)(b:iP a=.ok c):evF Κ Φ (.fA args) ρ=.ok (.fr,c,ρ):=by show vq Κ Φ (.fA args) ρ=_;unfold vq;rw[wB h b];rfl
theorem Rg {x:GD}(b:aL Κ Φ a ρ=.ok x)(c:yo x=true)(d:seqR x.2=.ok f):evF Κ Φ (.enum a) ρ=.ok (.al,z29 0 f,ρ):=by
 have e:dM Κ Φ (.cons a .nil) ρ=.ok [x]:=by rw[yQ,b];rfl
 show(dM Κ Φ (.cons a .nil) ρ>>=λg=>oS g ρ)=_;rw[e,Res.aB];unfold oS
 dsimp only
 rw[c,d];rfl
theorem Rh (b:a.length<=1000):seqR (.list a)=.ok a:=by show(if decide (a.length<=aR)=true then Res.ok a else .no)=_;rw[qy (show a.length<=aR by unfold aR;omega)];rfl
theorem Ri (h:imms xs=true)(a:xs.length<=1000):seqR (.list xs)=.ok xs:=Rh a
theorem Iy (a:imm x=true)(b:imm y=true):fB (.tp [i,j]) (gJ (.tuple [x,y]) g,.tuple [x,y]) ρ=.ok ((ρ.set i (some (.al,x))).set j (some (.al,y))):=by show Res.eJ (some ((ρ.set i (some (z1d (gJ x _,x)))).set j (some (z1d (gJ y _,y)))))=_;rw[mT a,mT b];rfl
theorem Dc (h:evF Κ Φ c ρ=.ok w)(k:cZ (λx a=>fB d (gJ x w.1,x) a>>=λb=>aU Κ Φ p b) w.2.1 w.2.2=r):aU Κ Φ (.bP d c p) ρ=r:=by rw[QM,h];exact k
theorem wF (a:Tt Κ Φ c ρ k)(hk:k=true)(h:aU Κ Φ p ρ=.ok (.rt g d)):aU Κ Φ (.seq (.bV c p q) rest) ρ=.ok (.rt g d):=dD (wD a (λ_=>h) λz=>by rw[hk]at z;cases z)
theorem wG (a:Tt Κ Φ c ρ k)(hk:k=false)(h:aU Κ Φ rest ρ=r):aU Κ Φ (.seq (.bV c p .nil) rest) ρ=r:=iX (wD a (λz=>by rw[hk]at z;cases z) λ_=>ud) h
theorem zfb (h:ρ[i]?=some (some (.fr,.list a))):aU Κ Φ (.ret (.var i)) ρ=.ok (.rt .fr (.list a)):=by rw[HX,h];rfl
theorem fJ {Q:Res Out->Prop}(h:aU Κ Φ p ρ=.ok (.nx a))(k:Q (aU Κ Φ q a)):Q (aU Κ Φ (.seq p q) ρ):=by rw[iX h rfl];exact k
theorem Dd {Q:Res Out->Prop}(h:aU Κ Φ p ρ=.ok (.rt g d))(k:Q (.ok (.rt g d))):Q (aU Κ Φ (.seq p q) ρ):=by rw[dD h];exact k
theorem ztx {Q:Res Out->Prop}{k:Type}{m:k->D}{j:List k}(h:evF Κ Φ n o=.ok (g,j.map m,b))(I:List k->Rho->Prop)(h0:I [] b)
  (hf:∀pre x d o,j=pre++x::d->I pre o->∃a,(fB l (gJ (m x) g,m x) o>>=λc=>aU Κ Φ p c)=.ok (.nx a)/\I (pre++[x]) a) (hk:∀a,I j a->Q (aU Κ Φ rest a)):Q (aU Κ Φ (.seq (.bP l n p) rest) o):=by
 obtain⟨a,e,i⟩:=HY (f:=λx b=>fB l (gJ x g,x) b>>=λc=>aU Κ Φ p c) I j [] b hf h0;rw[iX (Dc h e) rfl];exact hk a i
theorem zso {Q:Res Out->Prop}{d:Type}{m:d->D}{e:List d}(h:evF Κ Φ i ρ=.ok (g,e.map m,f))(I:List d->Rho->Prop)(h0:I [] f)
  (hf:∀pre x b ρ,e=pre++x::b->I pre ρ->∃c a,fB j (gJ (m x) g,m x) ρ=.ok c/\aU Κ Φ p c=.ok (.nx a)/\I (pre++[x]) a) (hk:∀a,I e a->Q (aU Κ Φ rest a)):Q (aU Κ Φ (.seq (.bP j i p) rest) ρ):=
 ztx h I h0 (λpre x b ρ k l=>by obtain⟨c,a,n,o,q⟩:=hf pre x b ρ k l;exact⟨a,by rw[n,Res.aB,o],q⟩) hk
theorem Iz {Q:Res Out->Prop}(a:Tt Κ Φ c b k)(hk:k=false)(h:Q (aU Κ Φ rest b)):Q (aU Κ Φ (.seq (.bV c p .nil) rest) b):=by rw[wG a hk rfl];exact h
end
end Mk
namespace Mi
open PySem PySem.Spec PyProof.Rows L2
section
open PySem.SeqAt
end
open PySem.W
section
open PySem.SeqAt
def Rj (d:Addr):Obj:={cls:=.type "dict_values",data:=.fields #[.ref d]}
def vw (v d:Addr):HO:=.ext λh=>h.get? v=some (Rj d)
end
def De (K:W.Frag)(en:Bool)(R:It->Hp->Prop)(v:V)(H1:Hp):Prop:=∃B d xs,Rep K H1 B v d/\(if en then seqR d else z8f d)=.ok xs/\∀J,Walk K J B H1 (if en then z29 0 xs else xs)->R J H1
def yU (K:W.Frag)(en:Bool)(t:TE):TI:=λσ H R=>t σ H (De K en R)
theorem Rk (c:PE X a t):PI X tg a (yU X.K false t):=by intro b s f H R I h;exact aI (c b s f H _ I h) λv k ⟨y,H1,g,i,B,d,l,j,e,q⟩=>z2u g i j e q
theorem Rl (hm:X.mg "enumerate"=none)(g:Gl X "enumerate")(hs:isStar a=false)(i:PE X a t):PI X (.Tuple f o tp) (.Call (.Name "enumerate" p) [a] [] pos) (yU X.K true t):=by
 intro b s j H R I h;refine Call_ (z2k I g hm Cb (PyProof.Rows.callWith_type1 (aI (dQ i jF hs pos b s j H (λc H1=>match c with| [v]=>De X.K true R v H1|_=>False) I h) ?_) (eS hs) rfl))
 rintro r x ⟨c,H1,k,l,z⟩
 rcases c with _|⟨v,_|⟨w,c⟩⟩
 ·exact z.elim
 ·obtain⟨u,rfl,m⟩:=vals1 l;obtain⟨B,d,y,n,e,q⟩:=z;exact z49 k m n e q
 ·exact z.elim
def yV:V->List V->Hp->VK->Prop:=λx xs H Q=>∃d kvs,x=.ref d/\xs=[]/\H d=some (.dK kvs)/\∀p,H p=none->Q (.ref p) (upd H p (.ext λh=>h.IsItemsView p d))
theorem Rm:MtR X "dict.items" yV:=by
 rintro c s j H x l v m Q I e f ⟨d,kvs,rfl,rfl,hd,q⟩
 cases e;cases f;obtain⟨_,a,g,rel,b⟩:=ye I.hok hd;refine pp PySem.F.slot_dict_items b.typeIs PySem.F.entry_dict_items (PySem.F.args_dict_items_1 _) (meets_dict_items (gQ X.prog X.w) d a) ⟨⟨g,b⟩,?_⟩;exact⟨.ref s.heap.objs.size,_,I.laid (o:=.ext λh=>h.IsItemsView s.heap.objs.size d) (λ_ _ q=>ak _ q) (ae _) ⟨⟨_,bt _ rfl,rfl,rfl⟩,⟨_,bt _ rfl⟩,λn p ⟨o,i,r⟩ k=>⟨o,k o i,r⟩⟩,rfl,q _ (I.hok.fresh (ae _))⟩
def yW (K:W.Frag):List V->Hp->VK->Prop:=λxs H Q=>∃p d kvs es,xs=[.ref p]/\H p=some (.ext λh=>h.IsItemsView p d)/\H d=some (.dK kvs)/\aS K H (λ_=>False) kvs es/\∀w H',Same H H'->Rep K H' (nw H) w (.list (es.map ent))->Q w H'
theorem Rn (Y:X.calm=true):CallR X (.type "list") (yW X.K):=by
 rintro w s σ H xs us Q I r ⟨p,d,kvs,es,rfl,hp,hd,rs,q⟩
 obtain⟨u,rfl,rfl⟩:=vals1 r;obtain⟨m,_,_⟩:=I.hok p _ hp;obtain⟨F,R,vs,rel,o,M,ep,ho,N,y,r3⟩:=ye I.hok hd;have lk:=rel.length;have le:=rs.length;refine kdx_call (I.ok.hd Y) m ⟨o,M,ho,N,y,r3⟩ (by omega) λh' tk acc c as hk hS hl G A=>?_;have I1:Inv X w σ H {s with heap:=h',toks:=tk}:=I.kept hk;have lz:as.length=kvs.length:=by omega
 have S:((as.zip (kvs.map λg=>[kV g.1,g.2])).map (·.1))=as:=List.map_fst_zip (by grind)
 have l:∀z∈as.zip (kvs.map λg=>[kV g.1,g.2]),∃j k v,as[j]?=some z.1/\kvs[j]?=some (k,v)/\z.2=[kV k,v]:=λz O=>by
  obtain⟨j,hj,T⟩:=on O;have hj':j<as.length/\j<kvs.length:=by rw[List.length_zip]at hj;omega
  refine⟨j,(kvs[j]'hj'.2).1,(kvs[j]'hj'.2).2,?_,ah hj'.2,?_⟩
  ·rw[<-T,List.getElem_zip];exact ah hj'.1
  ·rw[<-T];simp
 obtain⟨H1,I2,U,ht,hr⟩:=z7m (as.zip (kvs.map λg=>[kV g.1,g.2])) I1 (by rw[S];exact G.rise.imp λh=>cb h)
  (λz F=>by obtain⟨j,k,v,t,_,_⟩:=l z F;have B:=G.above z.1 (aw t);exact I.gA (gv B) (I.hok.fresh (gv B)))
  (λz F=>by obtain⟨j,k,v,t,J,h3⟩:=l z F;obtain⟨P,k',x,W,g2,g3⟩:=G.pairs j z.1 t;obtain⟨u,g4,ru⟩:=OY rel J;rw[g4]at W;cases W;rw[h3];exact⟨by rw[c8];simp,[P,_],.cons (OZ g2) (.cons ru .nil),0,g3⟩)
 have n:=I.hok.fresh (ae _);have L:H1 s.heap.objs.size=none:=by rw[hr,n];rw[S];exact λz=>cu _ (G.above _ z)
 refine⟨.ref s.heap.objs.size,_,I2.qP (u:=.lst (as.map V.ref)) ((I.gA (ae _) n) |> λf=>⟨L,f.2⟩) ⟨by rw[am];omega,as.map Value.ref,c,G5 as,by rw[<-A];exact hS⟩,rfl,q _ _ (U.trans (Same.upd L)) ⟨_,as.map V.ref,rfl,.inl ⟨bI,n⟩,?_⟩⟩;refine B8 (by grind) λi v dd t J=>?_;rw[av]at t J;obtain⟨a,B,rfl⟩:=bx.mp t;obtain⟨ev,C,rfl⟩:=bx.mp J;have hi:i<kvs.length:=lz▸(ba.mp B).1;have D:kvs[i]?=some (kvs[i].1,kvs[i].2):=by simp[hi]
 obtain⟨dv,h4,ok,rv⟩:=aS.at rs D;rw[h4]at C;cases C;have E:=ht (a,[kV kvs[i].1,kvs[i].2]) (by refine ce.mpr ⟨i,?_⟩;rw[List.getElem?_zip_eq_some];exact⟨B,by rw[av,D];rfl⟩);refine⟨a,_,rfl,cA.of (by rw[aE (bQ E L)];exact E),Reps.cons (O0 ok) (Reps.cons ?_ rfl)⟩;exact Rep.keep (λb u e f=>(U.trans (Same.upd L)) b u e) (λ_ z=>z.elim) dv rv
inductive W where
 |aV (c:C)|raw (i:Nat)|cmp (op:CmpOp) (a b:W)|and (a b:W)|tup (xs:W)|lst (xs:W)|gC|ix (a b:W)|len (a:W)|iB (o:W) (f:Str)|fR (j:Nat) (as:W)|cL (o:W) (j:Nat) (as:W)|mk (j:Nat) (as:W)|tp (c:C)|tc (op:CmpOp) (a b:W)|ti (ng:Bool) (a:W)|iC (a:W)|not (a:W)|fK (a b:W)|yX (a b:W)|iJ (f:Str)|nY (a b:W)|kS (o:W) (j:Nat) (as:W)|yY (a:W)|lit (o:W)|lc (nt:Nat) (js:List Nat) (N':List Str) (t:Tg) (en:Bool) (it c e:W)|yZ (op sS:CmpOp) (a b c:W)|sT (o:W) (j:Nat) (as k:W)|ue (a:W)|nil|cons (a r:W)
 deriving Inhabited
structure Wc where
 K:W.Frag
 mg:Str->Option Value
 Κ:List D
 Φ:List Fn
 E:XK
 fn:List Sp
 me:List (Addr×Str×Sp)
 cl:List (Addr×Sp)
 xf:Option V:=none
 gi:List Int:=[]
 hf:List (Addr×Sp):=[]
 md:List (Addr×Str×Sp):=[]
 mq:List (Addr×Str×Sp):=[]
structure Gw where
 g:Gm
 fn:List (Str×Nat)
 me:List (Str×Nat)
 cl:List (Str×Nat)
 xf:Option Str:=none
 gi:List Str:=[]
 fld:List (Str×Str):=[]
 hf:List (Str×Nat):=[]
 md:List (Str×Nat):=[]
 mq:List (Str×Str):=[]
def kwG {α:Type}(us:List α):List α->List α
 | [w]=>us++[w]
 |_=>[]
def wH (C:Addr)(m:Str)(sp:Sp)(E:XK)(ta:TE)(t:TA)(tk:TE):TE:=λσ H Q=>ta σ H λx H1=>∃a dx fs,x=.ref a/\H1 a=some (.ins C dx fs)/\fs.lookup m=none/\t σ H1 λvs H2=>tk σ H2 λz H3=>sp (x::(vs++[z])) H3 Q E
def dF:TE:=λ_ _ _=>False
def Df (K:W.Frag)(t:TE):TT:=λσ H Q=>t σ H λx H'=>∃k,jV K x H' k/\Q k H'
mutual
def wE:Wc->W->TE
 |Z,.aV c=>tD Z.K (aL Z.Κ Z.Φ c)
 |Z,.raw i=>rD i
 |Z,.cmp op a b=>jE (jM Z.K (mB (cmpD op))) (wE Z a) (wE Z b)
 |Z,.and a b=>EL (wE Z a) (wE Z b)
 |Z,.tup xs=>uT (wA Z xs)
 |Z,.lst xs=>uU (wA Z xs)
 |Z,.gC=>Fj
 |Z,.ix a b=>jE (iS Z.K) (wE Z a) (wE Z b)
 |Z,.len a=>jX (z59 Z.K (hX "len")) (lT (wE Z a) eE)
 |Z,.iB o f=>rL Z.K (wE Z o) f
 |Z,.fR j as=>match Z.fn[j]? with|some sp=>hW sp [] Z.E (wA Z as)|none=>dF
 |Z,.cL o j as=>match Z.me[j]? with|some r=>jG r.1 r.2.1 r.2.2 [] Z.E (wE Z o) (wA Z as)|none=>dF
 |Z,.mk j as=>match Z.cl[j]? with|some r=>uV r.1 r.2 [] Z.E (wA Z as)|none=>dF
 |Z,.iJ _=>match Z.xf with|some v=>λ_ H Q=>Q v H|none=>dF
 |Z,.nY a b=>jE (uZ Z.K) (wE Z a) (wE Z b)
 |Z,.kS o j as=>match Z.md[j]? with|some r=>jG r.1 r.2.1 r.2.2 [.aK] Z.E (wE Z o) (wA Z as)|none=>dF
 |Z,.sT o j as k=>match Z.mq[j]? with|some r=>wH r.1 r.2.1 r.2.2 Z.E (wE Z o) (wA Z as) (wE Z k)|none=>dF
 |Z,.ue a=>jX (z59 Z.K (hX "int")) (lT (wE Z a) eE)
 |Z,.yY a=>jX (rAgg Z.K "list") (lT (wE Z a) eE)
 |Z,.lit o=>jX (yW Z.K) (lT (rS Z.K "dict" yV (wE Z o)) eE)
 |Z,.lc nt js _ t en it c e=>vb (yU Z.K en (wE Z it)) (tDG Z.K t) (wT {Z with E:=λ_ _ _=>False,xf:=none} c) (wE {Z with E:=λ_ _ _=>False,xf:=none} e) (eR nt js)
 |_,_=>dF
def wA:Wc->W->TA
 |Z,.nil=>eE
 |Z,.cons a r=>lT (wE Z a) (wA Z r)
 |_,_=>λ_ _ _=>False
def wT:Wc->W->TT
 |Z,.tp c=>dN Z.K (eA Z.Κ Z.Φ c)
 |Z,.tc op a b=>pY (jE (jM Z.K (mB (cmpD op))) (wE Z a) (wE Z b))
 |Z,.ti ng a=>pY (if ng then zZ (wE Z a)else rE (wE Z a))
 |Z,.iC a=>Df Z.K (wE Z a)
 |Z,.not a=>uK (wT Z a)
 |Z,.fK a b=>uJ (wT Z a) (wT Z b)
 |Z,.yX a b=>EH (wT Z a) (wT Z b)
 |Z,.yZ op sS a b c=>pY (Al (jM Z.K (mB (cmpD op))) (jM Z.K (mB (cmpD sS))) (wE Z a) (wE Z b) (wE Z c))
 |_,.nil=>u9
 |_,_=>λ_ _ _=>False
end
def y4 (Γ:Gw)(scope:Scope)(N':List Str):Gw:={Γ with g:={Γ.g with N:=N',sc:=yp scope Γ.g.sc,blk:=true,xc:=none},xf:=none}
def Ro:W->Bool
 |.nil=>true
 |_=>false
mutual
def bK:Gw->W->Expr->Bool
 |Γ,.aV c,e=>chkE Γ.g c e
 |Γ,.raw i,e=>kL (l' Γ.g i) e
 |Γ,.cmp op a b,e=>(nT e).any λv=>decide (v.2.1=[op])&&(bF v.2.2).any λr=>z42 op&& !(dw op r)&&bK Γ a v.1&&bK Γ b r
 |Γ,.and a b,e=>(qG e).any λv=>decide (v.1=.And)&&qH (λx=>bK Γ a x) (λx=>bK Γ b x) .And v.2.2 v.2.1
 |Γ,.tup xs,e=>(oT e).any λes=>kT Γ xs es
 |Γ,.lst xs,e=>(sr e).any λes=>kT Γ xs es
 |Γ,.gC,e=>(Ba e).any λv=>v.1.isEmpty&&v.2.isEmpty
 |Γ,.ix a b,e=>(kK e).any λv=>z4c v.2&&bK Γ a v.1&&bK Γ b v.2
 |Γ,.len a,e=>(hY e).any λv=>(v.1==("len":Str))&&cV Γ.g v.1&&(bF v.2).any λy=>!isStar y&&bK Γ a y
 |Γ,.iB o f,e=>(sx e).any λv=>(v.2.1==f)&&z0n v.1&&bK Γ o v.1
 |Γ,.fR j as,e=>(hY e).any λv=>lF Γ.g v.1&&(Γ.fn[j]?==some (v.1,v.2.length))&&kT Γ as v.2&&(Γ.g.cm&& !v.2.isEmpty)
 |Γ,.cL o j as,e=>Γ.g.cm&&(sy e).any λv=>(z0n v.1&&v.2.2.2&&decide (v.2.2.1.length<20))&&(Γ.me[j]?==some (v.2.1,v.2.2.1.length))&&bK Γ o v.1&&kT Γ as v.2.2.1
 |Γ,.mk j as,e=>(hY e).any λv=>lF Γ.g v.1&&(Γ.cl[j]?==some (v.1,v.2.length))&&kT Γ as v.2&&(Γ.g.cm&& !v.2.isEmpty)
 |Γ,.iJ f,e=>(sx e).any λv=>(v.2.1==f)&&z0n v.1&&(kL (λx=>Γ.g.xc.any λu=>u.1==x) v.1)&&(Γ.xf==some f)
 |Γ,.nY a b,e=>(kK e).any λv=>z4c v.2&&bK Γ a v.1&&bK Γ b v.2
 |Γ,.kS o j as,e=>Γ.g.cm&&(sy e).any λv=>(z0n v.1&&v.2.2.2&&decide (v.2.2.1.length<20))&&(Γ.md[j]?==some (v.2.1,v.2.2.1.length))&&bK Γ o v.1&&(kT Γ as v.2.2.1&& !v.2.2.1.isEmpty)
 |Γ,.sT o j as k,e=>Γ.g.cm&&(yq e).any λv=>(sx v.1).any λu=>(bF v.2.2.1).any λkw=>(z0n u.1&&(u.2.2.endLine==v.2.2.2.line)&&decide (v.2.1.length<20))&&(kw.arg.any λkn=>Γ.mq[j]?==some (u.2.1,kn))&&bK Γ o u.1&&(kT Γ as v.2.1&& !v.2.1.isEmpty)&&bK Γ k kw.value
 |Γ,.ue a,e=>(hY e).any λv=>(v.1==("int":Str))&&cV Γ.g v.1&&(bF v.2).any λy=>!isStar y&&bK Γ a y
 |Γ,.yY a,e=>(hY e).any λv=>(v.1==("list":Str))&&cV Γ.g v.1&&(bF v.2).any λy=>!isStar y&&bK Γ a y
 |Γ,.lit o,e=>Γ.g.cm&&(hY e).any λv=>(v.1==("list":Str))&&cV Γ.g v.1&&(bF v.2).any λy=>(sy y).any λm=>((m.2.1==("items":Str))&&z0n m.1&&m.2.2.2)&&bK Γ o m.1&&m.2.2.1.isEmpty
 |Γ,.lc nt js N' t en it c x,e=>Γ.g.cm&&(Bb e).any λv=>(bF v.2.1).any λg=>((g.is_async==0)&&oI Γ.g.N Γ.g.sc v.2.2 N' nt js&&decide N'.Nodup&&sm g.iter)&&(if en then isTup g.target&&(hY g.iter).any λu=>(u.1==("enumerate":Str))&&cV Γ.g u.1&&(bF u.2).any λy=>!isStar y&&bK Γ it y else bK Γ it g.iter)&&qI (y4 Γ v.2.2 N').g t g.target&&(match g.ifs with| []=>Ro c| [y]=>mW (y4 Γ v.2.2 N') c y|_=>false)&&bK (y4 Γ v.2.2 N') x v.1
 |_,_,_=>false
def kT:Gw->W->List Expr->Bool
 |Γ,.nil,es=>es.isEmpty
 |Γ,.cons a r,es=>match es with|e::es=>!isStar e&&bK Γ a e&&kT Γ r es|_=>false
 |_,_,_=>false
def mW:Gw->W->Expr->Bool
 |Γ,.tp c,e=>eF Γ.g c e
 |Γ,.tc op a b,e=>(nT e).any λv=>decide (v.2.1=[op])&&(bF v.2.2).any λr=>z42 op&& !(dw op r)&&bK Γ a v.1&&bK Γ b r
 |Γ,.ti ng a,e=>(nT e).any λv=>decide (v.2.1=[if ng then .IsNot else .Is])&&(bF v.2.2).any λr=>decide (fI r=some .none)&&bK Γ a v.1
 |Γ,.iC a,e=>plainT e&&bK Γ a e
 |Γ,.not a,e=>(vy e).any λv=>decide (v.1=.Not)&&mW Γ a v.2
 |Γ,.fK a b,e=>(qG e).any λv=>decide (v.1=.And)&&qH (λx=>mW Γ a x) (λx=>mW Γ b x) .And v.2.2 v.2.1
 |Γ,.yX a b,e=>(qG e).any λv=>decide (v.1=.Or)&&qH (λx=>mW Γ a x) (λx=>mW Γ b x) .Or v.2.2 v.2.1
 |Γ,.yZ op sS a b c,e=>(nT e).any λv=>decide (v.2.1=[op,sS])&&(oU v.2.2).any λr=>z42 op&&z42 sS&& !(lastMarks [op,sS] [r.1,r.2])&&bK Γ a v.1&&(bK Γ b r.1&&bK Γ c r.2)
 |_,_,_=>false
end
structure Zok (Γ:Gw)(Z:Wc)(CX:CXT)(P:cj)(w:World)(K:W.Frag)(mg:Str->Option Value)(base:Heap)(r:Nat):Prop where
 kk:Z.K=K
 mm:Z.mg=mg
 fn:∀(j:Nat) x n,Γ.fn[j]?=some (x,n)->∃sp f fd ps k,Z.fn[j]?=some sp/\k<=r/\FnOk P w K mg base CX k f fd ps sp/\mg x=some (.ref f)/\W.keepIn K (.ref f)=true/\Binds K fd ps []
 me:∀(j:Nat) m n,Γ.me[j]?=some (m,n)->∃C sp f fd ps k,Z.me[j]?=some (C,m,sp)/\k<=r/\FnOk P w K mg base CX k f fd ps sp/\Cls K C/\Meth K C m f/\Binds K fd ps []
 cl:∀(j:Nat) x n,Γ.cl[j]?=some (x,n)->∃C sp f fd ps k,Z.cl[j]?=some (C,sp)/\k+1<=r/\FnOk P w K mg base CX k f fd ps sp/\Mk K C f/\mg x=some (.ref C)/\Binds K fd ps []
 gi:∀(j:Nat) x,Γ.gi[j]?=some x->∃n t,Z.gi[j]?=some n/\mg x=some (.int n t)
 hf:∀(j:Nat) x n,Γ.hf[j]?=some (x,n)->∃sp f fd ps k,Z.hf[j]?=some (f,sp)/\k<=r/\FnOk P w K mg base CX k f fd ps sp/\mg x=some (.ref f)/\W.keepIn K (.ref f)=true/\Binds K fd ps []
 md:∀(j:Nat) m n,Γ.md[j]?=some (m,n)->∃C sp f fd ps k,Z.md[j]?=some (C,m,sp)/\k<=r/\FnOk P w K mg base CX k f fd ps sp/\Cls K C/\Meth K C m f/\Binds K fd ps [.none]
 mq:∀(j:Nat) m kn,Γ.mq[j]?=some (m,kn)->∃C sp f fd ps k,Z.mq[j]?=some (C,m,sp)/\k<=r/\FnOk P w K mg base CX k f fd ps sp/\Cls K C/\Meth K C m f/\KBinds K fd ps [kn] kwG kwG
structure Wok (Γ:Gw)(Z:Wc)(CX:CXT)(X:Cx)(r:Nat):Prop extends Zok Γ Z CX X.prog X.w X.K X.mg X.base r where
 ck:Cok Γ.g Z.Κ Z.Φ X r
 room:Γ.g.cm=true->Room r X.A
 px:z1w CX X Z.E
 xf:∀f,Γ.xf=some f->∃v,Z.xf=some v/\∀n c,Γ.g.xc=some (n,c)->∀p q,z0n (.Name n p)=true->PE X (.Attribute (.Name n p) f q) (λ_ H Q=>Q v H)
 IA:∀outer H s e s',¬CX outer H s (λ_ _ _=>False) e s'
section
variable {X:Cx}
theorem z6g {C:Addr}(v:PE X o y)(c:Cls X.K C)(hm:Meth X.K C m f)
  (n:z0n o=true) (p:(es.all λe=>!isStar e)=true) (z:es.length<20) (g:(k.endLine==b.line)=true)
  (go:∀d s j H Q a,Inv X d j H s->(t j H λvs B=>sp (.ref a::(vs++dvs)) B Q E)->wpAny (model X.prog X.w) X.A (callWith b (.ref f) [.ref a] (iz b (cx es X.env)) (l4 b (jr [] X.env))) (EP X d j Q) X.xe s):
  PE X (.Call (.Attribute o m k) es [] b) (jG C m sp dvs E y t):=by
 intro d s j H Q I h;rw[arm_eval_Call,nR n];refine aa (aI (v d s j H _ I h) ?_)
 rintro u D ⟨x,H1,r,F,a,dx,fs,ex,G,l,q⟩
 subst ex;obtain rfl:u=Value.ref a:=F;refine aa (gf ?_);have i:n9 (es.length+([]:List kx).length) (iz b (cx es X.env)) (l4 b (jr [] X.env))=true:=zai p z;unfold methodCall;rw[i];refine aa (ej (z5e r G c hm l ?_));exact aa (wpAny_of_eq (by unfold o7;simp[g]) (go d D j H1 Q a r q))
variable {CX:CXT}{k:Nat}{f C:Addr}{fd:dt}{ps:List Str}{sp:Sp}{E:XK}{m:Str}{apos bD:Pos}{o e:Expr}{es:List Expr}{ta:TE}{t:TA}
theorem zfm (i:PE X o ta)(c:Cls X.K C)(hm:Meth X.K C m f)(F:FnOk X.prog X.w X.K X.mg X.base CX k f fd ps sp)(j:Room k X.A)(l:Binds X.K fd ps [])(n:z1w CX X E)(p:PA X (e::es) t)
  (g:z0n o=true) (b:((e::es).all λe=>!isStar e)=true) (u:(e::es).length<20) (d:(apos.endLine==bD.line)=true):
  PE X (.Call (.Attribute o m apos) (e::es) [] bD) (jG C m sp [] E ta t):=
 z6g i c hm g b u d λpins s σ H Q a I q=>by rw[ci,bv]at b;refine W.callWith_K I.ok.mod.pV hm.kp (aI (p bD pins s σ H _ I q) λus x ⟨vs,y,h,r,v⟩=>⟨h.cH,?_⟩) (eS (by simpa using b.1)) (kZ b.2);exact za9 (vs:=.ref a::vs) F j l .nil n h (.cons rfl r) v
theorem zgf (l:PE X o ta)(c:Cls X.K C)(hm:Meth X.K C m f)(F:FnOk X.prog X.w X.K X.mg X.base CX k f fd ps sp)(hr:Room k X.A)(n:Binds X.K fd ps [.none])(p:z1w CX X E)(u:PA X (e::es) t)
  (h:z0n o=true) (b:((e::es).all λe=>!isStar e)=true) (v:(e::es).length<20) (d:(apos.endLine==bD.line)=true):
  PE X (.Call (.Attribute o m apos) (e::es) [] bD) (jG C m sp [.aK] E ta t):=
 z6g l c hm h b v d λg s x H Q a I q=>by rw[ci,bv]at b;refine W.callWith_K I.ok.mod.pV hm.kp (aI (u bD g s x H _ I q) λz B ⟨i,D,j,r,y⟩=>⟨j.cH,?_⟩) (eS (by simpa using b.1)) (kZ b.2);exact za9 (vs:=.ref a::i) (dvs:=[.aK]) F hr n (.cons rfl .nil) p j (.cons rfl r) y
theorem zhp (M:PE X o ta)(c:Cls X.K C)(hm:Meth X.K C m f)(F:FnOk X.prog X.w X.K X.mg X.base CX k f fd ps sp)(hr:Room k X.A)(N:KBinds X.K fd ps [p] kwG kwG)(O:z1w CX X E)(P:PA X (e::es) t)(R:PE X v tk)
  (y:z0n o=true) (d:((e::es).all λe=>!isStar e)=true) (hl:(e::es).length<20) (g:(apos.endLine==bD.line)=true):
  PE X (.Call (.Attribute o m apos) (e::es) [⟨some p,v,kp⟩] bD) (wH C m sp E ta t tk):=by
 intro b s z H Q I h;rw[arm_eval_Call,nR y];refine aa (aI (M b s z H _ I h) ?_)
 rintro u S ⟨x,H1,B,T,a,dx,fs,ex,U,l,q⟩
 subst ex;obtain rfl:u=Value.ref a:=T;refine aa (gf ?_);have i:n9 ((e::es).length+ [(⟨some p,v,kp⟩:kx)].length) (iz bD (cx (e::es) X.env)) (l4 bD (jr [⟨some p,v,kp⟩] X.env))=true:=by unfold n9;rw[BK d];show(true&&true&&decide ((e::es).length+1+1<30))=true;rw[qy (by omega)];rfl
 have j:o7 true o X.env apos bD=pure bD:=by unfold o7;simp[g]
 unfold methodCall;rw[i];refine aa (ej (z5e B U c hm l ?_));refine aa (wpAny_of_eq j ?_);have n:=d;rw[ci,bv]at d;refine W.callWith_KW B.ok.mod.pV hm.kp rfl (aI (P bD b S z H1 _ B q) ?_) (by rw[Bool.or_eq_false_iff];exact⟨kZ n,rfl⟩) (eS (by simpa using d.1))
 rintro us V ⟨D,Y,I2,r,q2⟩
 refine aI (LL R LK bD b V z Y (λG J=>sp (kwG (.ref a::D) G) J Q E) I2 q2) λws s3 ⟨G,J,L,rz,q3⟩=>⟨L.cH,?_⟩;exact zl5 (vs:=.ref a::D) F hr N O L (.cons rfl r) rz q3
theorem zd1 (e:PE X o ta)(c:Cls X.K C)(hm:Meth X.K C m f)(F:FnOk X.prog X.w X.K X.mg X.base CX k f fd ps sp)(g:Room k X.A)(h:Binds X.K fd ps [])(i:z1w CX X E)
  (d:z0n o=true) (b:(apos.endLine==bD.line)=true):
  PE X (.Call (.Attribute o m apos) [] [] bD) (jG C m sp [] E ta eE):=
 z6g e c hm d rfl dc b λj s l H Q a I q=>W.callWith_K0 I.cH hm.kp (za9 (vs:=[.ref a]) F g h .nil i I (.cons rfl .nil) q)
end
section
variable {Γ:Gw}{Z:Wc}{CX:CXT}{X:Cx}{r:Nat}
structure We (w:W):Prop where
 E:∀(Γ:Gw) (Z:Wc) (CX:CXT) (X:Cx) (r:Nat) (e:Expr),Wok Γ Z CX X r->bK Γ w e=true->PE X e (wE Z w)
 A:∀(Γ:Gw) (Z:Wc) (CX:CXT) (X:Cx) (r:Nat) (es:List Expr),Wok Γ Z CX X r->kT Γ w es=true->PA X es (wA Z w)
 T:∀(Γ:Gw) (Z:Wc) (CX:CXT) (X:Cx) (r:Nat) (e:Expr),Wok Γ Z CX X r->mW Γ w e=true->PT X e (wT Z w)/\((∃o l p,e=.BoolOp o l p)->PW X e (wT Z w))
theorem We.x (h:∀(Γ:Gw) (Z:Wc) (CX:CXT) (X:Cx) (r:Nat) (e:Expr),Wok Γ Z CX X r->bK Γ w e=true->PE X e (wE Z w))(a:∀Γ es,kT Γ w es=false)(b:∀Γ e,mW Γ w e=false):We w where
 E:=h
 A:=λΓ Z CX X r es k z=>ff (a Γ es) z
 T:=λΓ Z CX X r e k z=>ff (b Γ e) z
theorem We.t (h:∀Γ Z CX X r e,Wok Γ Z CX X r->mW Γ w e=true->PT X e (wT Z w)/\((∃o l p,e=.BoolOp o l p)->PW X e (wT Z w)))(a:∀Γ e,bK Γ w e=false)(b:∀Γ c,kT Γ w c=false):We w where
 E:=λΓ Z CX X r e k z=>ff (a Γ e) z
 A:=λΓ Z CX X r c k z=>ff (b Γ c) z
 T:=h
theorem wI {w:W}:∀{d:List Expr},kT Γ w d=true->(d.all λe=>!isStar e)=true:=by
 induction w with
 |nil=>intro d h;cases fQ h;rfl
 |cons a r _ i=>
  intro d h;cases d with
  |nil=>cases h
  |cons e d=>obtain⟨b,_,c⟩:=aQ h;rw[ci,b,i c];rfl
 |_=>exact λh=>ff rfl h
theorem Wok.rm (k:Wok Γ Z CX X r)(a:Γ.g.cm=true)(h:j<=r):Room j X.A:=(k.room a).mono h
theorem eqB {c:Type} [BEq c] [LawfulBEq c] {a b:c}(h:(a==b)=true):a=b:=eq_of_beq h
theorem IB (h:((nT e).any λv=>decide (v.2.1=[c])&&(bF v.2.2).any λr=>z42 c&& !(dw c r)&&bK Γ a v.1&&bK Γ b r)=true):∃l r p,e=.Compare l [c] [r] p/\z42 c=true/\dw c r=false/\bK Γ a l=true/\bK Γ b r=true:=by obtain⟨⟨l,o,rs⟩,g,i⟩:=aH h;obtain⟨p,rfl⟩:=mO g;obtain⟨j,d⟩:=aC i;obtain⟨r,k,f⟩:=aH d;cases qx j;cases eU k;obtain⟨d,f,m,n⟩:=bJ f;exact⟨l,r,p,rfl,d,cI f,m,n⟩
theorem Rp {d:Bool}(h:((nT e).any λv=>decide (v.2.1=[if d then .IsNot else .Is])&&(bF v.2.2).any λr=>decide (fI r=some .none)&&bK Γ a v.1)=true):∃l j b p,e=.Compare l [if d then .IsNot else .Is] [.Constant .none j b] p/\bK Γ a l=true:=by obtain⟨⟨l,o,rs⟩,f,g⟩:=aH h;obtain⟨p,rfl⟩:=mO f;obtain⟨i,k⟩:=aC g;obtain⟨r,hr,c⟩:=aH k;cases qx i;cases eU hr;obtain⟨c,m⟩:=aC c;obtain⟨j,b,rfl⟩:=sM (qx c);exact⟨l,j,b,p,rfl,m⟩
theorem Dg (h:bK Γ (.cL o j f) e=true):Γ.g.cm=true/\∃b m a v c,e=.Call (.Attribute b m a) v [] c/\(a.endLine==c.line)=true/\z0n b=true/\v.length<20/\Γ.me[j]?=some (m,v.length)/\bK Γ o b=true/\kT Γ f v=true:=by obtain⟨d,h⟩:=aC h;obtain⟨⟨x,n,v,b⟩,i,k⟩:=aH h;obtain⟨a,c,rfl,l⟩:=kQ i;obtain⟨h0,p,q,r⟩:=bJ k;obtain⟨s,t,u⟩:=aQ h0;exact⟨d,x,n,a,v,c,rfl,l.symm.trans t,s,qx u,eqB p,q,r⟩
theorem Dh (u:We it)(F:We c)(G:We x):∀Γ Z CX X r e,Wok Γ Z CX X r->bK Γ (.lc J L g t en it c x) e=true->PE X e (wE Z (.lc J L g t en it c x)):=by
 intro Γ Z CX X r e k h;obtain⟨n,h⟩:=aC h;obtain⟨⟨el,gs,a⟩,M,i⟩:=aH h;obtain⟨pos,rfl⟩:=vZ M;obtain⟨⟨v,j,m,ka⟩,N,i⟩:=aH i;cases eU N;obtain⟨h0,d,O,o,i⟩:=dC i;obtain⟨P,Q,R,S⟩:=bJ h0;cases q8 P;have w:=FH k.ck.hN k.ck.hs Q;have A:=λC b s H=>k.ck.blk w.kind (qx R) C b s H;have B:∀C b s H,Wok (y4 Γ a g) {Z with E:=λ_ _ _=>False,xf:=none} CX (blk X a g C b s H) r:=λC b s H=>⟨⟨k.kk,k.mm,k.fn,k.me,k.cl,k.gi,k.hf,k.md,k.mq⟩,A C b s H,k.room,λD σ H s e s' I z=>(k.IA _ _ _ _ _ z).elim,λf z=>(by cases z),k.IA⟩
 have U:PI X v j (yU X.K en (wE Z it)):=by
  cases en with
  |false=>exact Rk (u.E Γ Z CX X r _ k d)
  |true=>obtain⟨t1,d⟩:=aC d;obtain⟨⟨f,es⟩,hf,d⟩:=aH d;obtain⟨_,_,rfl⟩:=hZ hf;obtain⟨p,V,W⟩:=aQ d;obtain⟨y,Y,u5⟩:=aH W;cases eU Y;obtain⟨u6,u4⟩:=aC u5;have p:=eqB p;subst p;obtain⟨_,_,_,rfl⟩:=Cs t1;obtain⟨g1,g2,g3,g4⟩:=k.ck.blt V;exact Rl g2 g1 (cI u6) (u.E Γ Z CX X r _ k u4)
 have ht:∀C b s H,oJ (blk X a g C b s H) m (wT {Z with E:=λ_ _ _=>False,xf:=none} c):=λC b s H=>by
  rcases m with _|⟨y,_|⟨z,l⟩⟩
  ·have :c=.nil:=by cases c<;>first|rfl|cases o
   subst this;exact FI
  ·exact FJ (F.T _ _ CX _ r _ (B C b s H) o).1
  ·cases o
 have q:∀C b s H,PG (blk X a g C b s H) v (tDG X.K t):=λC b s H=>ua (A C b s H) O;have hh:=z9u (pos:=pos) (k.ck.calm n) w U q ht (λC b s H=>G.E _ _ CX _ r _ (B C b s H) i) (wa S _);rw[<-k.kk]at hh;exact hh
theorem cW (w:W):We w:=by
 induction w with
 |aV c=>exact We.x (λΓ Z CX X r e k h=>by show PE X e (tD Z.K (aL Z.Κ Z.Φ c));rw[k.kk];exact(all c).E Γ.g X r e k.ck h) (λ_ _=>rfl) λ_ _=>rfl
 |raw i=>exact We.x (λΓ Z CX X r e k h=>by obtain⟨x,p,rfl,h⟩:=kR h;obtain⟨d,u,s,B⟩:=k.ck.aN h;exact uI d u s B) (λ_ _=>rfl) λ_ _=>rfl
 |cmp op a b D M=>exact We.x (λΓ Z CX X r e k h=>by obtain⟨_,_,_,rfl,u,s,B,L⟩:=IB h;show PE X _ (jE (jM Z.K (mB (cmpD _))) _ _);rw[k.kk];exact EY (tW k.ck.hu _ u) (D.E Γ Z CX X r _ k B) (M.E Γ Z CX X r _ k L) s) (λ_ _=>rfl) λ_ _=>rfl
 |and a b D M=>exact We.x (λΓ Z CX X r e k h=>by
  obtain⟨⟨o,xs,p⟩,G,I⟩:=aH h;cases iV G;obtain⟨d,u⟩:=aC I;cases qx d;rcases sO u with⟨x,y,rfl,s,B⟩|⟨x,y,z,t,rfl,s,B⟩
  ·exact z7 (D.E Γ Z CX X r _ k s) (z6 (M.E Γ Z CX X r _ k B))
  ·exact z7 (D.E Γ Z CX X r _ k s) (M.E Γ Z CX X r _ k B)) (λ_ _=>rfl) λ_ _=>rfl
 |tup xs D=>exact We.x (λΓ Z CX X r e k h=>by obtain⟨v,G,I⟩:=aH h;obtain⟨_,_,rfl⟩:=yJ G;exact E6 (D.A Γ Z CX X r _ k I)) (λ_ _=>rfl) λ_ _=>rfl
 |lst xs D=>exact We.x (λΓ Z CX X r e k h=>by obtain⟨v,G,I⟩:=aH h;obtain⟨_,rfl⟩:=Hk G;exact E7 (D.A Γ Z CX X r _ k I)) (λ_ _=>rfl) λ_ _=>rfl
 |gC=>exact We.x (λΓ Z CX X r e k h=>by obtain⟨⟨a,b⟩,G,I⟩:=aH h;obtain⟨_,rfl⟩:=vX G;obtain⟨d,u⟩:=aC I;cases fQ d;cases fQ u;exact Fo) (λ_ _=>rfl) λ_ _=>rfl
 |ix a b D M=>exact We.x (λΓ Z CX X r e k h=>by obtain⟨v,G,I⟩:=aH h;obtain⟨_,rfl⟩:=vY G;obtain⟨d,u,s⟩:=aQ I;show PE X _ (jE (iS Z.K) _ _);rw[k.kk];exact Aq (Gg k.ck.hu) (D.E Γ Z CX X r _ k u) (M.E Γ Z CX X r _ k s) (Bz d)) (λ_ _=>rfl) λ_ _=>rfl
 |len a D=>exact We.x (λΓ Z CX X r e k h=>by obtain⟨⟨x,es⟩,G,I⟩:=aH h;obtain⟨_,_,rfl⟩:=hZ G;obtain⟨d,u,s⟩:=aQ I;obtain⟨y,hy,B⟩:=aH s;cases eU hy;obtain⟨B,L⟩:=aC B;have d:x=("len":Str):=eqB d;subst d;obtain⟨O,P,g3,g4⟩:=k.ck.blt u;show PE X _ (jX (z59 Z.K (hX "len")) _);rw[k.kk];exact yj Gi P (show c7 "len"=_ by decide+kernel) (dQ (D.E Γ Z CX X r _ k L) jF (cI B)) (by rw[ci,B];rfl) O g4 g3) (λ_ _=>rfl) λ_ _=>rfl
 |iB o f io=>exact We.x (λΓ Z CX X r e k h=>by obtain⟨⟨x,n,p⟩,G,I⟩:=aH h;cases kP G;obtain⟨d,u,s⟩:=aQ I;have d:n=f:=eqB d;subst d;show PE X _ (rL Z.K _ _);rw[k.kk];exact LG (io.E Γ Z CX X r _ k s) (nR u)) (λ_ _=>rfl) λ_ _=>rfl
 |fR j as D=>exact We.x (λΓ Z CX X r e k h=>by
  obtain⟨⟨x,es⟩,G,I⟩:=aH h;obtain⟨_,_,rfl⟩:=hZ G;obtain⟨d,u,s,B⟩:=bJ I;obtain⟨J,B⟩:=aC B;obtain⟨y,es,rfl⟩:=nW B;obtain⟨O,P⟩:=k.ck.gl d;obtain⟨R,f,fd,ps,n,c1,c2,V,Y,c5,c6⟩:=k.fn j _ _ (eqB u);obtain⟨s1,s2⟩:=ci.symm.trans (wI s) |> ar.mp;have S:wE Z (.fR j as)=hW R [] Z.E (wA Z as):=by show(match Z.fn[j]? with|some R=>hW R [] Z.E (wA Z as)|none=>dF)=_;rw[c1]
  rw[S];exact zcx V (k.rm J c2) O Y c5 c6 .nil k.px (D.A Γ Z CX X r _ k s) P (eS (cI s1)) (kZ s2)) (λ_ _=>rfl) λ_ _=>rfl
 |cL o j as io D=>exact We.x (λΓ Z CX X r e k h=>by
  obtain⟨J,b,m,ap,es,cp,rfl,d,u,s,B,L,N⟩:=Dg h;obtain⟨C,R,f,fd,ps,n,c1,c2,V,Y,c5,c6⟩:=k.me j _ _ B;have S:wE Z (.cL o j as)=jG C m R [] Z.E (wE Z o) (wA Z as):=by show(match Z.me[j]? with|some r=>jG r.1 r.2.1 r.2.2 [] Z.E (wE Z o) (wA Z as)|none=>dF)=_;rw[c1]
  rw[S];have ho:=io.E Γ Z CX X r _ k L;have ha:=D.A Γ Z CX X r _ k N;have hs:=wI N;cases es with
  |nil=>
   refine PE.imp (zd1 ho Y c5 V (k.rm J c2) c6 k.px u d) λσ H Q q=>?_;have:wA Z as=eE:=by cases as<;>first|rfl|(cases N;done)
   rw[this]at q;exact q
  |cons y es=>exact zfm ho Y c5 V (k.rm J c2) c6 k.px ha u hs s d) (λ_ _=>rfl) λ_ _=>rfl
 |mk j as D=>exact We.x (λΓ Z CX X r e k h=>by
  obtain⟨⟨x,es⟩,G,I⟩:=aH h;obtain⟨_,_,rfl⟩:=hZ G;obtain⟨d,u,s,B⟩:=bJ I;obtain⟨J,B⟩:=aC B;obtain⟨y,es,rfl⟩:=nW B;obtain⟨O,P⟩:=k.ck.gl d;obtain⟨C,R,f,fd,ps,n,c1,c2,V,Y,c5,c6⟩:=k.cl j _ _ (eqB u);obtain⟨s1,s2⟩:=ci.symm.trans (wI s) |> ar.mp;have S:wE Z (.mk j as)=uV C R [] Z.E (wA Z as):=by show(match Z.cl[j]? with|some r=>uV r.1 r.2 [] Z.E (wA Z as)|none=>dF)=_;rw[c1]
  rw[S];exact zmt Y V ((k.room J).mono c2) O c5 c6 .nil k.px (D.A Γ Z CX X r _ k s) P (eS (cI s1)) (kZ s2)) (λ_ _=>rfl) λ_ _=>rfl
 |tp c=>exact We.t (λΓ Z CX X r e k h=>by show PT X e (dN Z.K (eA Z.Κ Z.Φ c))/\(_->PW X e (dN Z.K (eA Z.Κ Z.Φ c)));rw[k.kk];exact(all c).T Γ.g X r e k.ck h) (λ_ _=>rfl) λ_ _=>rfl
 |tc op a b D M=>exact We.t (λΓ Z CX X r e k h=>by obtain⟨_,_,_,rfl,u,s,B,L⟩:=IB h;refine⟨?_,λ⟨_,_,_,z⟩=>by cases z⟩;show PT X _ (pY (jE (jM Z.K (mB (cmpD _))) _ _));rw[k.kk];exact EZ (tW k.ck.hu _ u) (D.E Γ Z CX X r _ k B) (M.E Γ Z CX X r _ k L) s) (λ_ _=>rfl) λ_ _=>rfl
 |ti ng a D=>exact We.t (λΓ Z CX X r e k h=>by
  obtain⟨_,_,_,_,rfl,u⟩:=Rp h;have ha:=D.E Γ Z CX X r _ k u;refine⟨?_,λ⟨_,_,_,z⟩=>by cases z⟩;cases ng with
  |true=>exact x4 (z1 ha)
  |false=>exact x4 (z0 ha)) (λ_ _=>rfl) λ_ _=>rfl
 |iC a D=>exact We.t (λΓ Z CX X r e k h=>by have h:(plainT e&&bK Γ a e)=true:=h;obtain⟨d,u⟩:=aC h;refine⟨?_,λ⟨_,_,_,z⟩=>by subst z;cases d⟩;show PT X _ (Df Z.K _);rw[k.kk];exact za6 (D.E Γ Z CX X r _ k u) (Hm d _)) (λ_ _=>rfl) λ_ _=>rfl
 |not a D=>exact We.t (λΓ Z CX X r e k h=>by obtain⟨⟨o,x⟩,G,I⟩:=aH h;obtain⟨p,rfl⟩:=pC G;obtain⟨d,u⟩:=aC I;cases qx d;exact⟨EK (D.T Γ Z CX X r _ k u).1,λ⟨_,_,_,z⟩=>by cases z⟩) (λ_ _=>rfl) λ_ _=>rfl
 |fK a b D M=>exact We.t (λΓ Z CX X r e k h=>by
  obtain⟨⟨o,xs,p⟩,G,I⟩:=aH h;cases iV G;obtain⟨d,u⟩:=aC I;cases qx d;rcases sO u with⟨x,y,rfl,s,B⟩|⟨x,y,z,t,rfl,s,B⟩
  ·have w:=z3 (pos:=p) (D.T Γ Z CX X r _ k s).1 (EI (M.T Γ Z CX X r _ k B).1);exact⟨w.pt,λ_=>w⟩
  ·have w:=z3 (pos:=p) (D.T Γ Z CX X r _ k s).1 ((M.T Γ Z CX X r _ k B).2 ⟨_,_,_,rfl⟩);exact⟨w.pt,λ_=>w⟩) (λ_ _=>rfl) λ_ _=>rfl
 |yX a b D M=>exact We.t (λΓ Z CX X r e k h=>by
  obtain⟨⟨o,xs,p⟩,G,I⟩:=aH h;cases iV G;obtain⟨d,u⟩:=aC I;cases qx d;rcases sO u with⟨x,y,rfl,s,B⟩|⟨x,y,z,t,rfl,s,B⟩
  ·have w:=z4 (pos:=p) (D.T Γ Z CX X r _ k s).1 (EJ (M.T Γ Z CX X r _ k B).1);exact⟨w.pt,λ_=>w⟩
  ·have w:=z4 (pos:=p) (D.T Γ Z CX X r _ k s).1 ((M.T Γ Z CX X r _ k B).2 ⟨_,_,_,rfl⟩);exact⟨w.pt,λ_=>w⟩) (λ_ _=>rfl) λ_ _=>rfl
 |iJ f=>exact We.x (λΓ Z CX X r e k h=>by
  obtain⟨⟨x,n,p⟩,G,I⟩:=aH h;cases kP G;obtain⟨d,h0,u,s⟩:=bJ I;have d:n=f:=eqB d;subst d;obtain⟨y,q,rfl,B⟩:=kR u;obtain⟨⟨m,c⟩,L,N⟩:=aH B;have N:m=y:=eqB N;subst N;obtain⟨v,e1,e2⟩:=k.xf n (eqB s);have S:wE Z (.iJ n)=λ_ H Q=>Q v H:=by show(match Z.xf with|some v=>(λ_ H Q=>Q v H:TE)|none=>dF)=_;rw[e1]
  rw[S];exact e2 m c L _ _ h0) (λ_ _=>rfl) λ_ _=>rfl
 |nY a b D M=>exact We.x (λΓ Z CX X r e k h=>by obtain⟨v,G,I⟩:=aH h;obtain⟨_,rfl⟩:=vY G;obtain⟨d,u,s⟩:=aQ I;show PE X _ (jE (uZ Z.K) _ _);rw[k.kk];exact Aq Fx (D.E Γ Z CX X r _ k u) (M.E Γ Z CX X r _ k s) (Bz d)) (λ_ _=>rfl) λ_ _=>rfl
 |kS o j as io D=>exact We.x (λΓ Z CX X r e k h=>by
  obtain⟨J,h⟩:=aC h;obtain⟨⟨b,m,es,l⟩,G,I⟩:=aH h;obtain⟨ap,cp,rfl,hb⟩:=kQ G;obtain⟨h0,N,h7,h8⟩:=bJ I;obtain⟨d,u,s⟩:=aQ h0;obtain⟨h8,U⟩:=aC h8;obtain⟨C,R,f,fd,ps,n,c1,c2,V,Y,c5,c6⟩:=k.md j _ _ (eqB N);have S:wE Z (.kS o j as)=jG C m R [.aK] Z.E (wE Z o) (wA Z as):=by show(match Z.md[j]? with|some r=>jG r.1 r.2.1 r.2.2 [.aK] Z.E (wE Z o) (wA Z as)|none=>dF)=_;rw[c1]
  rw[S];obtain⟨y,es,rfl⟩:=nW U;exact zgf (io.E Γ Z CX X r _ k h7) Y c5 V (k.rm J c2) c6 k.px (D.A Γ Z CX X r _ k h8) d (wI h8) (qx s) (hb.symm.trans u)) (λ_ _=>rfl) λ_ _=>rfl
 |sT o j as kv io D ik=>exact We.x (λΓ Z CX X r e k h=>by
  obtain⟨J,h⟩:=aC h;obtain⟨⟨f0,es,yb,cp⟩,G,I⟩:=aH h;cases sN G;obtain⟨⟨b,m,ap⟩,hu,h8⟩:=aH I;cases kP hu;obtain⟨⟨ka,ke,kp⟩,hw,h7⟩:=aH h8;cases eU hw;obtain⟨h0,d,u,s,B⟩:=dC h7;obtain⟨a1,a2,a3⟩:=aQ h0;obtain⟨kn,Di,L⟩:=aH d;have Di:ka=some kn:=Di;subst Di;obtain⟨s,U⟩:=aC s;obtain⟨C,R,f,fd,ps,n,c1,c2,V,Y,c5,c6⟩:=k.mq j _ _ (eqB L);have S:wE Z (.sT o j as kv)=wH C m R Z.E (wE Z o) (wA Z as) (wE Z kv):=by show(match Z.mq[j]? with|some r=>wH r.1 r.2.1 r.2.2 Z.E (wE Z o) (wA Z as) (wE Z kv)|none=>dF)=_;rw[c1]
  rw[S];obtain⟨y,es,rfl⟩:=nW U;exact zhp (io.E Γ Z CX X r _ k u) Y c5 V (k.rm J c2) c6 k.px (D.A Γ Z CX X r _ k s) (ik.E Γ Z CX X r _ k B) a1 (wI s) (qx a3) a2) (λ_ _=>rfl) λ_ _=>rfl
 |yZ op sS a b c D M ic=>exact We.t (λΓ Z CX X r e k h=>by obtain⟨⟨l,o,rs⟩,G,I⟩:=aH h;obtain⟨p,rfl⟩:=mO G;obtain⟨d,u⟩:=aC I;obtain⟨⟨r1,r2⟩,hr,s⟩:=aH u;cases qx d;cases Cg hr;obtain⟨u,s,B,L,N⟩:=dC s;obtain⟨N,h7⟩:=aC N;refine⟨?_,λ⟨_,_,_,z⟩=>by cases z⟩;show PT X _ (pY (Al (jM Z.K (mB (cmpD _))) (jM Z.K (mB (cmpD _))) _ _ _));rw[k.kk];exact zgz (tW k.ck.hu _ u) (tW k.ck.hu _ s) (D.E Γ Z CX X r _ k L) (M.E Γ Z CX X r _ k N) (ic.E Γ Z CX X r _ k h7) (cI B)) (λ_ _=>rfl) λ_ _=>rfl
 |ue a D=>exact We.x (λΓ Z CX X r e k h=>by obtain⟨⟨x,es⟩,G,I⟩:=aH h;obtain⟨_,_,rfl⟩:=hZ G;obtain⟨d,u,s⟩:=aQ I;obtain⟨y,hy,B⟩:=aH s;cases eU hy;obtain⟨B,L⟩:=aC B;have d:x=("int":Str):=eqB d;subst d;obtain⟨O,P,g3,g4⟩:=k.ck.blt u;show PE X _ (jX (z59 Z.K (hX "int")) _);rw[k.kk];exact vf G6 P (show c7 "int"=_ by decide+kernel) (dQ (D.E Γ Z CX X r _ k L) jF (cI B)) (by rw[ci,B];rfl) O g4 g3) (λ_ _=>rfl) λ_ _=>rfl
 |yY a D=>exact We.x (λΓ Z CX X r e k h=>by obtain⟨⟨x,es⟩,G,I⟩:=aH h;obtain⟨_,_,rfl⟩:=hZ G;obtain⟨d,u,s⟩:=aQ I;obtain⟨y,hy,B⟩:=aH s;cases eU hy;obtain⟨B,L⟩:=aC B;have d:x=("list":Str):=eqB d;subst d;obtain⟨O,P,g3,g4⟩:=k.ck.blt u;show PE X _ (jX (rAgg Z.K "list") _);rw[k.kk];exact vf Ox P (show c7 "list"=_ by decide+kernel) (dQ (D.E Γ Z CX X r _ k L) jF (cI B)) (by rw[ci,B];rfl) O g4 g3) (λ_ _=>rfl) λ_ _=>rfl
 |lit o io=>exact We.x (λΓ Z CX X r e k h=>by obtain⟨J,h⟩:=aC h;obtain⟨⟨x,es⟩,G,I⟩:=aH h;obtain⟨_,_,rfl⟩:=hZ G;obtain⟨d,u,s⟩:=aQ I;obtain⟨y,hy,B⟩:=aH s;cases eU hy;obtain⟨⟨b,n,es,l⟩,hm,h8⟩:=aH B;obtain⟨ap,cp,rfl,hb⟩:=kQ hm;obtain⟨h0,N,h7⟩:=aQ h8;obtain⟨L,U,Rq⟩:=aQ h0;cases fQ h7;have L:n=("items":Str):=eqB L;subst L;have d:x=("list":Str):=eqB d;subst d;obtain⟨O,P,g3,g4⟩:=k.ck.blt u;show PE X _ (jX (yW Z.K) (lT (rS Z.K "dict" yV _) eE));rw[k.kk];exact vf (Rn (k.ck.calm J)) P (show c7 "list"=_ by decide+kernel) (dQ (zo7 PySem.F.plainAttrs_dict PySem.F.slot_dict_items PySem.F.type_dict_items Rm (io.E Γ Z CX X r _ k N) (nR U) (hb.symm.trans Rq)) jF rfl) rfl O g4 g3) (λ_ _=>rfl) λ_ _=>rfl
 |lc nt js N' t en it c x ii ic ie=>exact We.x (Dh ii ic ie) (λ_ _=>rfl) λ_ _=>rfl
 |nil=>exact⟨λ_ _ _ _ _ _ _ h=>ff rfl h,λΓ Z CX X r es k h=>by cases fQ h;exact jF,λ_ _ _ _ _ _ _ h=>ff rfl h⟩
 |cons a q D iq=>exact⟨λ_ _ _ _ _ _ _ h=>ff rfl h,λΓ Z CX X r es k h=>by
  cases es with
  |nil=>cases h
  |cons e es=>obtain⟨d,u,s⟩:=aQ h;exact dQ (D.E Γ Z CX X r _ k u) (iq.A Γ Z CX X r _ k s) (cI d),λ_ _ _ _ _ _ _ h=>ff rfl h⟩
end
theorem uf (outer:List Env)(H:Hp)(s:az)(e:Value)(a:az):¬CXE P w base outer H s (λ_ _ _=>False) e a:=λz=>by obtain⟨_,_,_,_,_,_,z⟩:=z;exact z
def hP (X:Cx)(pn:List (Addr×Obj))(E:Value->az->Prop):Cx:={X with pn:=pn,xe:=E}
theorem IC (ok:X.Ok):(hP X pn E).Ok:=⟨ok.mod,ok.kind,ok.glob,ok.blt,ok.above,ok.inj,ok.has,ok.oE,ok.hd,ok.frames,ok.pW,ok.iJ,ok.bs,ok.iK,ok.fV,ok.fW,ok.bZ,ok.lQ,ok.tQ⟩
theorem ID (I:Inv X b c H s)(E:Value->az->Prop):Inv (hP X (X.pn++b) E) [] c H s:=⟨IC I.ok,I.os,I.bare,I.base,I.loc,I.cell,I.free,I.aW,λp a=>I.pin p (by simpa[Mi.hP]using a),I.hok,I.len,I.fx⟩
theorem ug (ok:X.Ok)(I:Inv (hP X (X.pn++b) E) pX c H s):Inv X b c H s:=⟨ok,I.os,I.bare,I.base,I.loc,I.cell,I.free,I.aW,λp a=>I.pin p (dk _ a),I.hok,I.len,I.fx⟩
theorem Dj (k:Cok Γ Κ Φ X r)(a:Γ.xc=none)(pn:List (Addr×Obj))(E:Value->az->Prop):Cok Γ Κ Φ (hP X pn E) r:=⟨k.hN,k.hs,k.nd,k.fn,k.kind,k.free,k.fns,k.cst,k.nX,k.room,k.calm,k.hu,k.gZ,k.qT,λn c z=>(by rw[a]at z;cases z),k.xk⟩
section
variable {P:cj}{w:World}{A:fk}{E:Value->az->Prop}{h:Heap}{g:Array p8}{d:Drawn}{t:Nat}{os:j9}
variable {nm q:Str}{C N:Addr}{bs bm bB:List Value}{hdct:Bool}{sn:List Str}{sub:List Value}{ab:Bool}{col:Option Bool}{dd:Option Addr}{k0 k1 k2 k3 k5:Option Value}{B newId initId:String}{mN:Str->Option Value}{us:List Value}{f:Addr}{o:Obj}
theorem zp7 (F:ExcBaseFacts B newId initId bB)(T:og h bB bm)(a:h.get? C=some (ls nm q C N bs bm hdct sn sub ab col dd k0 k1 k2 k3 k5 newId))(hN:h.Ns N mN)(v:mN "__init__"=some (.ref f))(hf:h.get? f=some o)(x:o.cls=.type "function")
  (go:∀n e,h.objs.size<=e->lb h n e (.ref C) us->wpAny (model P w) A (call (.ref f) (.ref e::us)) (λr p=>r=.none/\Q (.done (.ret (.ref e))) p) E ⟨n,g,d,t,os⟩) (y:us.length<=au):
  wpAny (model P w) A (Builtin.«type.__call__» ⟨.ref C::us,[]⟩) Q E ⟨h,g,d,t,os⟩:=by
 repeat (first|(with_reducible refine wpAny_madeBy_exc a ?_)|(with_reducible refine b7 a ?_)|wp_step)
 refine codeAny_call_builtin_code (Code.quiet_builtin _ F.quiet) (wpAny_check_new_subT F T a (codeAny_exc_new_subT F T a ?_ y));generalize s:({cls:=.type "tuple",data:=.seq us.toArray}:Obj)=i;generalize l:({cls:=.ref C,data:=.fields #[.ref h.objs.size,.none,.none,.none,.bool false,.none]}:Obj)=c;have keep:∀b u,h.get? b=some u->((h.push i).push c).get? b=some u:=λb u z=>ak _ (ak _ z);have j:((h.push i).push c).get? (h.objs.size+1)=some c:=lu (by rw[k8]) (by rw[<-l];rfl);have m:((h.push i).push c).get? h.objs.size=some i:=ak _ (lu rfl (by rw[<-s];rfl));have k:c.cls=.ref C:=by rw[<-l]
 have self:(Value.ref C::bm).contains (.ref C)=true:=by simp
 repeat (first|(with_reducible refine b7 j ?_;rw[k])|(with_reducible refine g6 (keep _ _ a) ?_;rw[self])|wp_step)
 refine wpAny_typeLookup_tail (keep _ _ a) (hN.keeps keep) (T.keeps keep) F.mroIs F.init.lookup ?_;rw[v];apply ej;apply aa;refine aa (kz ⟨o,keep _ _ hf,x⟩ ?_);have made:lb h ((h.push i).push c) (h.objs.size+1) (.ref C) us:=⟨keep,gw (i5 _),h.objs.size,by rw[j,<-l],gw (ae _),by rw[m,<-s]⟩;refine bb (aa (fm (go _ _ (i5 _) made) (λr p z=>?_) λ_ _ z=>z));obtain⟨rfl,z⟩:=z
 wp_walk
 exact z
theorem ztj (F:ExcBaseFacts B newId initId bB)(T:og h bB bm)(a:h.get? C=some (ls nm q C N bs bm hdct sn sub ab col dd k0 k1 k2 k3 k5 newId))(hN:h.Ns N mN)(c:mN "__init__"=some (.ref f))(hf:h.get? f=some o)(i:o.cls=.type "function")
  (go:∀b e,h.objs.size<=e->lb h b e (.ref C) us->wpAny (model P w) (A.under (.builtin "type.__call__" ⟨.ref C::us,[]⟩)) (call (.ref f) (.ref e::us)) (λr j=>r=.none/\Q (.ref e) j) E ⟨b,g,d,t,os⟩) (k:us.length<=au):
  wpAny (model P w) A (call (.ref C) us) Q E ⟨h,g,d,t,os⟩:=by
 have l1:=tc_lookup;have l2:=tc_bind (.ref C);apply mn;apply codeAny_of_tree
 repeat (any_goals (first|(with_reducible refine b7 a ?_)|assumption|wp_step))
 exact⟨rfl,codeAny_call_builtin_at (Code.quiet_builtin _ (by decide+kernel)) entry_typeCall (wpAny_check_type_call_sub a (zp7 F T a hN c hf i go k))⟩
end
section
open Builtin
open Builtin.ObjectAttr
structure XF (K:W.Frag)(C:Addr)(f:Str):Prop where
 ex:fD K C=true
 hd:∀dd cd sl,K.lookup C=some ⟨.type "type",dd,.cls cd,sl⟩->cd.hasDict=true
 sa:W.findIn K (.ref C) "__setattr__"=some (some (.builtin "object.__setattr__"))
 nf:W.findIn K (.ref C) f=some none
 ga:W.findIn K (.ref C) "__getattribute__"=some (some (.builtin "BaseException.__getattribute__"))
 gt:W.findIn K (.ref C) "__getattr__"=some none
 ob:W.subIn K (.ref C) (.type "object")=some true
 be:W.subIn K (.ref C) (.type "BaseException")=some true
theorem IE:∀{l:List Value},og h qR l->refuseLoop self what qR=pure ()->refuseLoop self what l=pure ()
 |_,.base,e=>e
 |_,.own _ _ _ T,e=>by rw[refuseLoop_ref];exact IE T e
section
variable {prog:cj}{w:World}{A:fk}{E:Value->az->Prop}{K:W.Frag}{h:Heap}{g:Array p8}{d:Drawn}{t:Nat}{os:j9}{C a:Addr}{ob:Obj}{vs:Array Value}{f:Str}{u:Value}
def IF (h:Heap)(a:Addr)(ob:Obj)(f:Str)(u:Value)(h':Heap):Prop:=∃dp,h.get? dp=none/\dp≠a/\h.objs.size<=dp/\h'.get? a=some {ob with dict:=some dp}/\h'.Ns1 dp (λy=>if y=f then some u else none)/\∀b o,b≠a->h.get? b=some o->h'.get? b=some o
theorem zgi (X:K.In h)(x:XF K C f)(k:h.get? a=some ob)(H:ob.cls=.ref C)(hd:ob.dict=none)(da:ob.data=.fields vs)
  (go:∀l p,IF h a ob f u l->Q (.done (.ret .none)) ⟨l,g,d,p,os⟩):
  wpAny (model prog w) A (Builtin.«object.__setattr__» ⟨[.ref a,.str f Y,u],[]⟩) Q E ⟨h,g,d,t,os⟩:=by
 obtain⟨Z,⟨N,nm,q,bs,j,sn,sub,ab,I,dd,k0,k1,k2,k3,k5,mN,y,hN,T⟩,_⟩:=XC.mk X x.ex;have J:j=true:=by obtain⟨L,cd,O,y0,y1,y2,y3,y5,B,_⟩:=t9 x.ex;have P:=x.hd _ _ _ B;have D:=X _ _ B;rw[y]at D;cases D;exact P
 have c:=IE (self:=.ref a) (what:="__setattr__") T (by kernel_rfl);have R:=W.looks_findIn (M:=model prog w) X x.nf
 repeat (first|rw[refuse_eq]|(rw[refuseLoop_ref,c])|(with_reducible refine b7 k ?_;rw[H])|with_reducible refine wpAny_mroOf_exc y ?_|with_reducible refine R.at ?_|wp_step)
 rw[hd,qu (by simp[typeHasDict]),da];have F:(h.push {cls:=.type "dict",data:=.dict #[]}).get? a=some ob:=ak _ k;have na:=cb (bg k);refine aa (wpAny_alloc' (aa (wpAny_update' F (bb ?_))));generalize hh:((h.push {cls:=.type "dict",data:=.dict #[]}).update a λo=>{cls:=o.cls,dict:=some h.objs.size,data:=o.data,slots:=o.slots})=m;have gd:m.get? h.objs.size=some {cls:=.type "dict",data:=.dict #[]}:=by rw[<-hh];exact(jd _ _ _ _ (Ne.symm na)).trans (lu rfl rfl)
 have ga:m.get? a=some {ob with dict:=some h.objs.size}:=by rw[<-hh];refine gn _ F ?_;have fr:=(Heap.get?_some_iff.mp k).2;obtain⟨oc,od,r,S⟩:=ob;cases r<;>first|rfl|exact fr
 have keep:∀b o,b≠a->h.get? b=some o->m.get? b=some o:=λb o n e=>by rw[<-hh];exact(jd _ _ _ _ n).trans (ak _ e)
 have nd:m.Ns h.objs.size (λ_=>none):=⟨_,#[],_,gd,rfl,λe z=>absurd z (by simp),λ_=>rfl⟩
 delta storeInDict newKeyGuard
 refine aa (bb (aa (wpAny_nsSet1 (ph nd) λl n1 G=>?_)));obtain⟨oD,U,V,s,fM,v⟩:=n1.count (Within.cons f u Within.nil);have i:[f].length<=au+1:=by rw[c8];exact(by decide:1<=16777216+1)
 have Fp:=bq v i;refine aa (wpAny_lookBehind s (fM▸pastItsLine_dict Fp) ?_)
 wp_walk
 refine go l _ ⟨h.objs.size,gw (ae _),Ne.symm na,ae _,(G.2 a na).trans ga,n1,λb o n e=>(G.2 b (cb (bg e))).trans (keep b o n e)⟩
theorem zhz {M:Model}{b:Value}{Q:Unit->az->Prop}(X:K.In h)(x:XF K C f)(c:h.get? a=some ob)(e:ob.cls=.ref C)(i:Q () ⟨h,g,d,t,os⟩):
  wpAny M A (j8 "object.__setattr__" ⟨[.ref a,b,u],[]⟩) Q E ⟨h,g,d,t,os⟩:=by
 have j:qg "object.__setattr__"=some .slot:=by decide+kernel
 have k:splitId "object.__setattr__"=some ("object","__setattr__"):=by decide+kernel
 have l:=W.looks_subIn (M:=M) X x.ob;have m:=PySem.F.args_object_setattr_3 (.ref a) b u;simp only[j8,j,k];refine aa ?_;unfold m9
 repeat (first|(with_reducible refine b7 c ?_;rw[e])|with_reducible refine l.at ?_|wp_step)
 exact i
theorem zqy (X:K.In h)(x:XF K C f)(e:h.get? a=some ob)(i:ob.cls=.ref C)(hd:ob.dict=none)(j:ob.data=.fields vs)
  (go:∀c b,IF h a ob f u c->Q () ⟨c,g,d,b,os⟩):wpAny (model prog w) A (setAttr (.ref a) f u) Q E ⟨h,g,d,t,os⟩:=by
 have k:=W.looks_findIn (M:=model prog w) X x.sa;have f3:=PySem.F.slot_list_setattr.bind (.ref a)
 repeat (any_goals (first|assumption|(with_reducible refine b7 e ?_;rw[i])|with_reducible refine k.at ?_|wp_step))
 refine i6 PySem.F.slot_list_setattr.plain PySem.F.entry_object_setattr (zhz X x e i (zgi X x e i hd j λc b p=>?_))
 repeat (any_goals (first|assumption|wp_step))
 exact go c b p
theorem zkh (X:K.In h)(x:XF K C f)(c:h.get? a=some ob)(e:ob.cls=.ref C)(da:ob.data=.fields vs)(hd:ob.dict=some dp)(hn:h.Ns dp l)(m:l f=some u)
  (n:Q (.done (.ret u)) ⟨h,g,d,t,os⟩):wpAny (model prog w) A (Builtin.«object.__getattribute__» ⟨[.ref a,.str f z],[]⟩) Q E ⟨h,g,d,t,os⟩:=by
 obtain⟨B,⟨N,nm,q,bs,b,D,sub,F,o,G,H,I,J,L,O,P,i,hN,T⟩,_⟩:=XC.mk X x.ex;have p:b=true:=by obtain⟨r,cd,s,R,S,U,V,Y,j,_⟩:=t9 x.ex;have v:=x.hd _ _ _ j;have k:=X _ _ j;rw[i]at k;cases k;exact v
 have y:=W.looks_findIn (M:=model prog w) X x.nf
 repeat (first|(with_reducible refine b7 c ?_;rw[e])|with_reducible refine y.at ?_|wp_step)
 rw[da]
 repeat (first|(with_reducible refine b7 c ?_;rw[e])|with_reducible refine b7 i ?_|wp_step)
 rw[hd]
 repeat (first|(with_reducible refine wpAny_nsGet hn ?_;rw[m])|wp_step)
 exact n
theorem zld {b:Tok}{dp:Addr}{c:Str->Option Value}{R:Result->az->Prop}(X:K.In h)(x:XF K C f)(e:h.get? a=some ob)(i:ob.cls=.ref C)(j:ob.data=.fields vs)(hd:ob.dict=some dp)(hn:h.Ns dp c)(k:c f=some u)
  (l:R (.ok (.ret u)) ⟨h,g,d,t,os⟩):i8 (model prog w) A (.call (.builtin "BaseException.__getattribute__") ⟨[.ref a,.str f b],[]⟩) R ⟨h,g,d,t,os⟩:=by
 refine i6 F.excAttr_ValueError.ga.plain F.entry_bexc_ga ?_;have l1:=W.looks_subIn (M:=model prog w) X x.be;have o:=F.args_bexc_ga (.ref a) (.str f b);have m:qg "BaseException.__getattribute__"=some .slot:=by decide+kernel
 have n:splitId "BaseException.__getattribute__"=some ("BaseException","__getattribute__"):=by decide+kernel
 simp only[j8,m,n];refine aa ?_;unfold m9
 repeat (first|(with_reducible refine zkh X x e i j hd hn k ?_;exact l)|(with_reducible refine b7 e ?_;rw[i])|with_reducible refine l1.at ?_|wp_step)
theorem zsg (X:K.In h)(x:XF K C f)(b:h.get? a=some ob)(c:ob.cls=.ref C)(e:ob.data=.fields vs)(hd:ob.dict=some dp)(hn:h.Ns dp m)(i:m f=some u)(hh:handedOut u=pure u)
  (j:Q u ⟨h,g,d,t,os⟩):wpAny (model prog w) A (getAttrBy (.ref a) (.str f k) true ex) Q E ⟨h,g,d,t,os⟩:=by
 have f3:=F.excAttr_ValueError.ga.bind (.ref a);have l:(ex&&onTheHeap (Value.builtin "BaseException.__getattribute__"))=false:=by cases ex<;>rfl
 repeat (any_goals (first|assumption|(with_reducible refine b7 b ?_;rw[c])|with_reducible refine(W.looks_findIn (M:=model prog w) X x.ga).at ?_|with_reducible refine(W.looks_findIn (M:=model prog w) X x.gt).at ?_|wp_step))
 refine zld X x b c e hd hn i ?_
 repeat' first|assumption|wp_step
theorem zny (X:K.In h)(x:XF K C f)(b:h.get? a=some ob)(c:ob.cls=.ref C)(e:ob.data=.fields vs)(hd:ob.dict=some dp)(hn:h.Ns dp k)(i:k f=some u)(hh:handedOut u=pure u)
  (j:Q u ⟨h,g,d,t+1,os⟩):wpAny (model prog w) A (qs (.ref a) f ex) Q E ⟨h,g,d,t,os⟩:=by
 repeat (any_goals (first|assumption|with_reducible apply zsg X x b c e hd hn i hh|wp_step))
end
end
def exO (a:Addr)(ob:Obj):HO:=.ext λh=>h.get? a=some ob
def wJ:HO->Prop
 |.ext _=>True
 |.xd _=>True
 |_=>False
def iD (H:Hp)(a:Addr):Hp:=λb=>if b=a then none else H b
theorem y6:iD H a a=none:=by unfold iD;rw[qt rfl]
theorem qX (h:b≠a):iD H a b=H b:=by unfold iD;rw[qu h]
theorem IG (I:Inv X b c H s)(h:H a=some (exO a ob)):s.heap.get? a=some ob:=(I.hok a _ h).1
theorem IH (e:h.get? a=some ob):z14 P w H h a (exO a ob):=⟨e,⟨_,e⟩,λb c p k=>k _ p⟩
theorem Inv.iD (I:Inv X pins v H s)(g:H a=some o)(h:wJ o):Inv X pins v (iD H a) s:=by
 have ne:∀{b u},H b=some u->(wJ u->False)->b≠a:=λ{b u} e n z=>by subst z;rw[g]at e;cases e;exact n h
 have d:∀{b},H b=none->Mi.iD H a b=none:=λ{b} e=>by
  unfold Mi.iD;split
  ·rfl
  ·exact e
 refine⟨I.ok,I.os,I.bare,⟨I.base.keep,I.base.slot,λb o e n i=>d (I.base.free b o e n i),I.base.there,λb f e=>?_,λb o u e=>?_,λb ps e=>?_⟩,I.loc,I.cell,d I.free,λx c e=>d (I.aW x c e),λp j=>?_,λb o e=>?_,I.len,I.fx⟩
 ·have e:=I.base.cN b f e;rw[qX (ne e id)];exact e
 ·have e:=I.base.cJ b o u e;rw[qX (ne e id)];exact e
 ·obtain⟨m,e⟩:=I.base.cO b ps e;exact⟨m,by rw[qX (ne e id)];exact e⟩
 ·obtain⟨k,l,r⟩:=I.pin p j;exact⟨k,d l,r⟩
 ·have t:b≠a:=by rintro rfl;rw[y6]at e;cases e
  rw[qX t]at e;refine(I.hok b o e).stay (λ_ _ _ q=>q) (λc q=>?_) λc f q=>?_
  ·rw[qX (ne q id)];exact q
  ·rw[qX (ne q id)];exact q
theorem zn5 (I:Inv X pins σ H s)(p:H a=some (exO a ob))(r:RelV y u)(h0:s.heap.get? dp=none)(t:s.heap.objs.size<=dp)(na:dp≠a)(ga:j.get? a=some {ob with dict:=some dp})(ns:j.Ns1 dp (fun g=>if g=f then some u else none))(k:∀b o,b≠a->s.heap.get? b=some o->j.get? b=some o):
  H dp=none/\Inv X pins σ (upd (upd H dp (.xd [(f,y)])) a (exO a {ob with dict:=some dp})) {s with heap:=j,toks:=tk}:=by
 have h:=I.hok.fresh t;have ne:∀{b u},H b=some u->(u=exO a ob->False)->b≠a:=λ{b u} e n z=>by subst z;rw[p]at e;cases e;exact n rfl
 have nd:∀{b u},H b=some u->b≠dp:=λ{b u} e z=>by subst z;rw[h]at e;cases e
 have up:∀{b u},H b=some u->(u=exO a ob->False)->upd (upd H dp (.xd [(f,y)])) a (exO a {ob with dict:=some dp}) b=some u:=λ{b u} e n=>by rw[aE (ne e n),aE (nd e)];exact e
 have i:∀{b o},s.heap.get? b=some o->H b=none->b≠a/\b≠dp:=λ{b o} e n=>⟨(by rintro rfl;rw[p]at n;cases n),(by rintro rfl;rw[h0]at e;cases e)⟩;refine⟨h,I.un ⟨λb o e n _ _=>k b o (i e n).1 e,λb o e n _ _=>⟨o.slots,k b o (i e n).1 e⟩,λb o e n _=>?_,λb o e _=>?_,λb w e=>up e nofun,λb o u e=>up e nofun,λb ps e=>⟨#[],by rw[Array.append_empty];exact up e nofun⟩⟩ λb o e=>?_⟩
 ·rw[aE (i e n).1,aE (i e n).2];exact n
 ·by_cases d:b=a
  ·subst d;exact⟨_,ga⟩
  ·exact⟨o,k b o d e⟩
 ·by_cases d:b=a
  ·subst d;rw[bI]at e;cases e;exact IH ga
  ·rw[aE d]at e;by_cases hd:b=dp
   ·subst hd;rw[bI]at e;cases e;refine⟨_,ns,λg=>?_⟩;by_cases l:g=f
    ·subst l;simp;exact r
    ·have :(g==f)=false:=by simpa using l
     simp only[cn,this,List.lookup_nil,qu l];exact True.intro
   ·rw[aE hd]at e;refine(I.hok b o e).stay (λc v m q=>k c v ?_ q) (λc q=>up q nofun) λc w q=>up q nofun;rcases m with rfl|m
    ·exact d
    ·exact ne m nofun
def Dk (K:W.Frag)(ta tv:TE)(f:Str):TS:=λD σ H=>tv σ H λy H1=>ta σ H1 λx H2=>∃a C ob vs,x=.ref a/\H2 a=some (exO a ob)/\ob.cls=.ref C/\ob.dict=none/\ob.data=.fields vs/\XF K C f/\∀dp,H2 dp=none->dp≠a->D.nx σ (upd (upd H2 dp (.xd [(f,y)])) a (exO a {ob with dict:=some dp}))
theorem Rr (i:PE X o P)(j:PE X value tv)(hs:i7 value (some (.Attribute o f b)) N.line X.env=pure false):PS X (.Assign [.Attribute o f b] value N) (Dk X.K P tv f):=by
 intro M s O H D I h;refine j3 (aI (j M s O H _ I h) λu s1 ⟨y,Q,l,m,q⟩=>aI (i M s1 O Q _ l q) ?_) hs
 rintro n p ⟨x,G,c,r,a,C,ob,R,ex,e,v,hd,w,xf,z⟩
 subst ex;obtain rfl:n=Value.ref a:=r;obtain⟨J,g,d,t,os⟩:=p;refine zqy c.cH xf (IG c e) v hd w ?_
 rintro L A ⟨dp,h0,na,B,ga,ns,k⟩
 obtain⟨E,F⟩:=zn5 c e m h0 B na ga ns k;exact⟨O,_,F,z dp E na⟩
def sU (K:W.Frag)(f:Str):Sp:=λvs H Q _=>∃a C ob ws y,vs=[.ref a,y]/\H a=some (exO a ob)/\ob.cls=.ref C/\ob.dict=none/\ob.data=.fields ws/\XF K C f/\∀dp,H dp=none->dp≠a->Q .aK (upd (upd H dp (.xd [(f,y)])) a (exO a {ob with dict:=some dp}))
structure XI (K:W.Frag)(C f:Addr):Prop where
 Rt:∀dd cd sl,K.lookup C=some ⟨.type "type",dd,.cls cd,sl⟩->W.nsIn K cd.ns "__init__"=some (some (.ref f))
 fn:W.isFn K (.ref f)=true
theorem Ru {K:W.Frag}(X:K.In h)(G:h.Ns N m)(e:W.nsIn K N n=some (some v)):m n=some v:=by
 obtain⟨o,d,c,a,hd,_,hf⟩:=G;unfold W.nsIn at e;split at e
 ·rename_i q;have z:=X _ _ q;rw[a]at z;cases z;cases hd;split at e
  ·rename_i b;cases e;rw[<-hf];unfold nsFind findBy;rw[<-pc,b];rfl
  ·split at e<;>cases e
 ·cases e
theorem XI.at {K:W.Frag}{C:Addr}(X:K.In h)(q:fD K C=true)(x:XI K C f):∃bm N nm c bs hdct sn sub ab col dd k0 k1 k2 k3 k5 mN o,h.get? C=some (ls nm c C N bs bm hdct sn sub ab col dd k0 k1 k2 k3 k5 "ValueError.__new__")/\h.Ns N mN/\mN "__init__"=some (.ref f)/\og h qR bm/\h.get? f=some o/\o.cls=.type "function":=by
 obtain⟨dd,cd,bm,k0,k1,k2,k3,k5,a,hm,hd,d,hk⟩:=t9 q;have hN:h.Ns cd.ns (h.nsMap cd.ns):=.of_isNs (W.isNs_of_in X hk);have e:=q8 x.fn;obtain⟨o,g,i⟩:=bx.mp e;refine⟨bm,cd.ns,cd.name,cd.qualname,cd.bases,cd.hasDict,cd.slotNames,cd.subclasses,cd.abstract,cd.collection,dd,k0,k1,k2,k3,k5,h.nsMap cd.ns,o,?_,hN,Ru X hN (x.Rt _ _ _ a),W.tail_of_in X d,X _ _ g,i⟩;have b:=X _ _ a;cases cd
 dsimp only at hm hd
 rw[hm,hd]at b;exact b
def wK (X:Cx)(E:XK):Prop:=∀pins σ H s a C ob vs,Inv X pins σ H s->H a=none->(∃H1 s1,Inv X pins σ H1 s1/\s1.heap.get? a=none)->s.heap.get? a=some ob->ob.cls=.ref C->ob.data=.fields vs->vs[1]?=some .none->E (.ref C) ob.dict H->X.xe (.ref a) s
theorem zg1 {M:Model}{A:fk}{E:Value->az->Prop}{env:Env}{s:az}{x:Sem Value}{Q:Flow->az->Prop}{C:Addr}(hh:A.handled=none)
  (h:wpAny M A x (λv s1=>∃e ob t c,v=.ref e/\XC C s1.heap c/\s1.heap.get? e=some ob/\ob.cls=.ref C/\ob.data=.fields #[.ref t,.none,.none,.none,.bool false,.none]/\E (.ref e) s1) E s):wpAny M A (raiseStmt env (some x) none) Q E s:=by
 unfold raiseStmt;refine aa (fm h (λv s1 l=>?_) λ_ _ x=>x);obtain⟨e,ob,t,c,rfl,⟨N,nm,q,bs,i,o,sub,p,m,r,u,w,y,z,B,D,b,hN,T⟩,j,k,f,n⟩:=l;have a:(Value.ref C::c).contains (.type "BaseException")=true:=by rw[jn,He T,m8]
 obtain⟨F,g,d,G,os⟩:=s1
 repeat (first|(with_reducible refine b7 j ?_;first|rw[k]|rw[f])|with_reducible refine b7 b ?_|(with_reducible refine g6 b ?_;rw[a])|wp_step)
 rw[f]
 repeat (first|(with_reducible refine b7 j ?_;first|rw[k]|rw[f])|with_reducible refine b7 b ?_|(with_reducible refine g6 b ?_;rw[a])|wp_step)
 exact oo hh n
theorem ze9 {C:Addr}(W:Room (k+1) X.A)(hg:Gl X x)(hm:X.mg x=some (.ref C))(L:Vx x)(xf:XF X.K C fl)(xi:XI X.K C f)
  (F:FnOk X.prog X.w X.K X.mg X.base (CXE X.prog X.w X.base) k f fd ps (sU X.K fl)) (j:Binds X.K fd ps []) (he:PE X e te) (i:isStar e=false) (rs:wK X E):
  PS X (.Raise (some (.Call (.Name x np) [e] [] cp)) none pos) (λ_ σ H=>te σ H λy Y=>∀dp,Y dp=none->E (.ref C) (some dp) (upd Y dp (.xd [(fl,y)]))):=by
 intro Z s σ H D I hq;have M:(iz cp (cx [e] X.env)).any (·.1)=false:=by rw[eS i];rfl
 have hA:=dQ he jF i;refine aa (gf (zg1 (C:=C) W.hd (aa (fm (wpAny_Call_ofName (z4p I hg hm ?_ L)) (λv s3 h3=>aa (gf (bb h3))) λ_ _ z=>z))));have m:=hA cp Z s σ H (λvs Y=>match vs with| [y]=>∀dp,Y dp=none->E (.ref C) (some dp) (upd Y dp (.xd [(fl,y)]))|_=>False) I hq;have O:cx [e] X.env=(false,eval e X.env)::cx [] X.env:=eS i;rw[O]at m M ⊢;refine aa (ej (kg (aI m λus s1 zz=>aa (gf ?_))));obtain⟨vs,Y,G,r,P⟩:=zz
 obtain⟨y,rfl⟩:∃y,vs=[y]:=by
  rcases vs with _|⟨y,_|⟨z,l⟩⟩
  ·exact P.elim
  ·exact⟨y,rfl⟩
  ·exact P.elim
 cases r with
 |cons ry rn=>
  cases rn;rename_i u;obtain⟨hp,g,d,t,os⟩:=s1;obtain⟨bm,N,nm,qn,bs,hdct,sn,sub,ab,col,dd,k0,k1,k2,k3,k5,mN,o,oC,hN,hi,T,hf,hc⟩:=xi.at G.cH xf.ex;refine aa (wpAny_keeperOf_exc oC ?_);refine aa (ztj PySem.F.excBase_ValueError T oC hN hi hf hc (λh' a hz made=>?_) (show 1<=au by rw[c8];decide));obtain⟨tp,ga,_,_⟩:=made.there;generalize c:({cls:=.ref C,data:=.fields #[.ref tp,.none,.none,.none,.bool false,.none]}:Obj)=ob at ga;have Q:=G.laid (t':=t) made.keeps hz (IH ga);have n:=G.hok.fresh hz
  let Q2:VK:=λv H3=>v=.aK/\∃dp,Y dp=none/\dp≠a/\H3=upd (upd (upd Y a (exO a ob)) dp (.xd [(fl,y)])) a (exO a {ob with dict:=some dp})
  have p:sU X.K fl [.ref a,y] (upd Y a (exO a ob)) Q2 (λ_ _ _=>False):=⟨a,C,ob,#[.ref tp,.none,.none,.none,.bool false,.none],y,rfl,bI,by rw[<-c],by rw[<-c],by rw[<-c],xf,λdp J q=>⟨rfl,dp,by rw[aE q]at J;exact J,q,rfl⟩⟩;have r2:Vals [V.ref a,y] [Value.ref a,u]:=.cons rfl (.cons ry .nil);have hl:[Value.ref a,u].length=ps.length:=r2.length▸F.len _ _ _ _ p;have R:=j ⟨h',g,d,t,os⟩ [Value.ref a,u] Q.cH (by rw[dz];exact hl);refine mn (ij (F.run _ X.stack _ _ ⟨[Value.ref a,u],[]⟩ [Value.ref a,u] [V.ref a,y] Q2 (λ_ _ _=>False) (W.make C [u] []) (Q.oG.make C [u] []) R r2 p) λrr s' h=>?_);cases rr with
  |error e'=>obtain⟨_,_,_,_,_,_,z⟩:=h;exact z.elim
  |ok S=>
   cases S with
   |next=>exact h.elim
   |brk=>exact h.elim
   |cont=>exact h.elim
   |ret w=>
    obtain⟨v,H3,U,rv,rfl,dp,J,q,rfl⟩:=Q.after h;refine⟨rv,aa (ej (wpAny_point (bb ?_)))⟩;have B:=IG U bI;have I4:=Mi.Inv.iD U bI True.intro
    have eH:Mi.iD (upd (upd (upd Y a (exO a ob)) dp (.xd [(fl,y)])) a (exO a {ob with dict:=some dp})) a=upd Y dp (.xd [(fl,y)]):=by
     funext b
     by_cases j:b=a
     ·subst j;rw[y6,aE (Ne.symm q),n]
     ·rw[qX j,aE j];by_cases hd:b=dp
      ·subst hd;rw[bI,bI]
      ·rw[aE hd,aE hd,aE j]
    rw[eH]at I4;obtain⟨yI,xc,_⟩:=XC.mk U.cH xf.ex;refine⟨a,_,tp,yI,rfl,xc,B,by rw[<-c],by rw[<-c],rs Z σ _ s' a C _ _ I4 ?_ ⟨Y,_,G,made.new⟩ B (by rw[<-c]) (by rw[<-c]) rfl (P dp J)⟩;rw[aE (Ne.symm q)];exact n
theorem zpg {C:Addr}(j:X.fx=some (n,.ref a))(k:X.env.scope.names.lookup n=some .local)(hd:Vx n)(c:z0n (.Name n p)=true)(l:Xh X a oe)(m:oe.cls=.ref C)(o:oe.data=.fields ws)(e:oe.dict=some dp)(r:Xh X dp od)(hm:∀h:Heap,h.get? dp=some od->h.Ns dp E)(x:E f=some u)(i:RelV v u)(xf:XF X.K C f):
  PE X (.Attribute (.Name n p) f q) (λ_ H Q=>Q v H):=by
 intro B s F H Q I h;refine zff (nR c) (aI (Hj j k hd B s F H (λw D=>w=.ref a/\D=H) I ⟨rfl,rfl⟩) λw s1 y=>?_);obtain⟨A,D,b,z,rfl,rfl⟩:=y;obtain rfl:w=Value.ref a:=z;obtain⟨hh,g,d,t,os⟩:=s1;exact zny b.cH xf (l _ _ _ _ b) m o e (hm _ (r _ _ _ _ b)) x (W.handedOut_of (E5 i)) ⟨v,D,b.tok (t+1),i,h⟩
theorem zmh {C D:Addr}(I:Inv X Z σ H1 s1)(H:Fly X.prog X.w X.base X.stack H1 s1 C a H' s' (some dp))(hy:H' dp=some (.xd [(fl,y)]))(hs:X.stack=X.env::X.outer)(hf:X.env.frame=some X.env.locals)(hx:X.fx=none)(nd:X.N.Nodup)(hi:X.N[i]?=some n)(hv:X.env.scope.names.lookup ("":Str)=none)(hl:X.env.scope.names.lookup n=some .local)
  (hB:X.mg B=some (.ref D)) (xC:fD X.K C=true) (xD:fD X.K D=true) (sb:W.subIn X.K (.ref C) (.ref D)=some true) (L:Gl X B) (M:Vx B)
  (O:∀od mA u oe ws,(∀h:Heap,h.get? dp=some od->h.Ns dp mA)->mA fl=some u->RelV y u->oe.cls=.ref C->oe.dict=some dp->oe.data=.fields ws->PSs (iU (hP X ((dp,od)::X.pn) X.xe) i n a oe) (b0::eT) T) (q:T ⟨λP Q=>Dn.nx (P.set i none) Q,Dn.rt,λ_ _=>False,λ_ _=>False⟩ (ao σ.length none) (iD H' dp)):
  wpAny (model X.prog X.w) X.A (gu (.ref a) X.env) (λ_ t=>wpAny (model X.prog X.w) X.A (iy (.ref a) none) (λ_ s3=>wpAny (model X.prog X.w) X.A (lg (.ref a) X.env [.ExceptHandler (some (.Name B np)) (some n) (b0::eT) m]) (SP X Z Dn) X.xe s3) X.xe t) X.xe s':=by
 obtain⟨B0,R,x,S,w0⟩:=H.hh;have k:=w0;rw[hs]at k;obtain⟨mA,E,U⟩:=x dp _ hy;obtain⟨od,es,ep,l,⟨F,Y⟩⟩:=id E;have rf:=U fl;simp at rf;obtain⟨u,hu,ru⟩:=cG.some_of rf;have Rv:=λh e=>(E.at (h':=h) λo z=>by rw[l]at z;cases z;exact e).ns
 have e0:(ao σ.length (none:Option V)).set i none=ao σ.length none:=by
  apply er;intro j;rw[dg];split
  ·rename_i h;subst h;split<;>simp_all
  ·rfl
 have back:∀{p2:List (Addr×Obj)} {c:L2.St} {g:Hp} {t:az},Inv (hP X ((dp,od)::X.pn) X.xe) Z c g t->Inv X Z c g t:=λ{p2 c g t} J=>⟨I.ok,J.os,J.bare,J.base,J.loc,J.cell,J.free,J.aW,λp m=>J.pin p (by exact ay _ m),J.hok,J.len,J.fx⟩;refine zf3 (pins:=Z) (X:=hP X ((dp,od)::X.pn) X.xe) (λh6 w6 up=>?_) k ?_ hs hf hx nd hi hv hl hB (λA=>sJ (X:=hP X ((dp,od)::X.pn) X.xe) xC xD sb A) L M (λf s h=>?_) (λoe ws h1 h2 h3=>O od mA u oe ws Rv hu ru h1 h2 h3) (e0▸q)
 ·have J:=Fly.land I H R x S (hs▸w6) up;have J2:=Mi.Inv.iD J hy True.intro;have d:Inv X Z (ao σ.length none) (iD H' dp) {s' with heap:=h6}:=J2.weak (by rw[bw]) λj v e=>by rw[cc]at e;split at e<;>cases e
  have Rw:=w6.1 _ _ l;refine⟨IC d.ok,d.os,d.bare,d.base,d.loc,d.cell,d.free,d.aW,λp m=>?_,d.hok,d.len,d.fx⟩;rcases ax.mp m with rfl|m
  ·have G:∀b∈(X.env::X.outer).filterMap (·.frame),dp≠b:=fun b hb z=>by
    have:=(k.2.2.1.mem hb).1;rw[<-z,l]at this;cases this
   refine⟨Rw,y6,G _ ?_,λz=>G dp ?_ rfl,λv z=>?_⟩
   ·rw[dm,hf];exact bj
   ·rw[dm,hf];exact ay _ z
   ·have z:od.data=.cell v:=z;rw[F]at z;cases z
  ·exact d.pin p m
 ·have :=Cf H;by_cases e:a=dp
  ·rw[e];exact y6
  ·rw[qX e];exact this
 ·cases f with
  |next=>obtain⟨c,g,J,z⟩:=h;exact⟨c,g,back (p2:=Z) J,z⟩
  |brk=>obtain⟨c,g,J,z⟩:=h;exact⟨c,g,back (p2:=Z) J,z⟩
  |cont=>obtain⟨c,g,J,z⟩:=h;exact⟨c,g,back (p2:=Z) J,z⟩
  |ret u=>obtain⟨v,c,g,J,r,z⟩:=h;exact⟨v,c,g,back (p2:=Z) J,r,z⟩
def qY (X:Cx)(a:Addr)(oe:Obj):Cx:={X with A:=X.A.mark (some (.ref a)),calm:=false,pn:=(a,oe)::X.pn,xe:=λ_ _=>False}
theorem Rx (ok:X.Ok):(qY X a oe).Ok:=⟨ok.mod,ok.kind,ok.glob,ok.blt,ok.above,ok.inj,ok.has,ok.oE,λz=>(by cases z),ok.frames,ok.pW,ok.iJ,ok.bs,ok.iK,ok.fV,ok.fW,ok.bZ,ok.lQ,ok.tQ⟩
theorem Ry (I:Inv X pins σ H s)(c:s.heap.get? a=some oe)(d:H a=none)(e:a≠X.env.locals)(f:a∉X.fs)(g:∀v,oe.data≠.cell v):Inv (qY X a oe) pins σ H s:=
 ⟨Rx I.ok,I.os,I.bare,I.base,I.loc,I.cell,I.free,I.aW,λp b=>by
  rcases ax.mp b with rfl|b
  ·exact⟨c,d,e,f,g⟩
  ·exact I.pin p b,I.hok,I.len,I.fx⟩
theorem II (ok:X.Ok)(I:Inv (qY X a oe) pins σ H s):Inv X pins σ H s:=⟨ok,I.os,I.bare,I.base,I.loc,I.cell,I.free,I.aW,λp b=>I.pin p (ay _ b),I.hok,I.len,I.fx⟩
theorem Cok.qY (k:Cok b Κ Φ X r)(c:b.xc=none)(a:Addr)(oe:Obj):Cok {b with cm:=false,fns:=[]} Κ Φ (Mi.qY X a oe) r where
 hN:=k.hN
 hs:=k.hs
 nd:=k.nd
 fn:=k.fn
 kind:=k.kind
 free:=k.free
 fns:=λj f n e=>by simp at e
 cst:=k.cst
 nX:=λj f n e=>by simp at e
 room:=λz=>by cases z
 calm:=λz=>by cases z
 hu:=k.hu
 gZ:=k.gZ
 qT:=k.qT
 xc:=λd g z=>by have z:b.xc=some (d,g):=z;rw[c]at z;cases z
 xk:=⟨k.xk.sub,k.xk.rs,k.xk.fC⟩
theorem zlz {C D:Addr}(I:Inv X pins σ H1 s1)(t:Fly X.prog X.w X.base X.stack H1 s1 C a x y dd)(hs:X.stack=X.env::X.outer)(hf:X.env.frame=some X.env.locals)
  (hB:X.mg B=some (.ref D)) (xC:fD X.K C=true) (xD:fD X.K D=true) (sb:W.subIn X.K (.ref C) (.ref D)=some true) (E:Gl X B) (F:Vx B)
  (G:∀oe,oe.cls=.ref C->PSs (qY X a oe) (b0::eT) T) (q:T ⟨p.nx,p.rt,λ_ _=>False,λ_ _=>False⟩ (ao σ.length none) x):
  wpAny (model X.prog X.w) X.A (gu (.ref a) X.env) (λ_ s2=>wpAny (model X.prog X.w) X.A (iy (.ref a) none) (λ_ s3=>wpAny (model X.prog X.w) X.A (lg (.ref a) X.env [.ExceptHandler (some (.Name B np)) none (b0::eT) hp]) (SP X pins p) X.xe s3) X.xe s2) X.xe y:=by
 obtain⟨B0,H,J,L,U⟩:=t.hh;have inv:∀g,FlD B0 (X.env::X.outer) a (.ref C) dd g->y.heap.UpToSlots g->Inv X pins (ao σ.length none) x {y with heap:=g}:=λg r up=>(Fly.land I t H J L (hs▸r) up).weak (by rw[bw]) λj v e=>by rw[cc]at e;split at e<;>cases e
 rw[hs]at U;have ok:=I.ok;refine z5t (hs▸ok.frames) hf U λh4 i k=>Cd i λh5 M l=>?_;have m:=inv h5 M (k.trans l);refine oq (ny ?_) (by intro z;cases z);refine gk m.ok.kind E (jp (m.ok.glob▸m.mod.glob.keeps m.bk) hB ?_) F;obtain⟨ob,_,N,n,_⟩:=M.first;refine sJ xC xD sb _ _ _ _ ob m.cH N n (codeAny_handlers_suite (Hg M λg r O=>?_));have P:=inv g r ((k.trans l).trans O);obtain⟨oe,V,c,o,Y,b⟩:=r.first;have nL:a≠X.env.locals:=λz=>by obtain⟨_,o3,h,d⟩:=P.stack.mem (by rw[hs,dm,hf];exact bj);rw[<-z]at h;rw[c]at h;cases h;exact d V b
 have nF:a∉X.fs:=λz=>by obtain⟨_,o3,h,d⟩:=P.bZ.mem z;rw[c]at h;cases h;exact d V b
 refine fm (G oe o pins _ _ x ⟨p.nx,p.rt,λ_ _=>False,λ_ _=>False⟩ (Ry P c (Cf t) nL nF (λv z=>by rw[b]at z;cases z)) q) (λQ s9 s=>?_) λ_ _ z=>z.elim;cases Q with
 |next=>obtain⟨f,R,S,z⟩:=s;exact⟨f,R,II ok S,z⟩
 |brk=>obtain⟨_,_,_,z⟩:=s;exact z.elim
 |cont=>obtain⟨_,_,_,z⟩:=s;exact z.elim
 |ret u=>obtain⟨v,f,R,S,rv,z⟩:=s;exact⟨v,f,R,II ok S,rv,z⟩
inductive WS where
 |nil|seq (a b:WS)|asg (i:Nat) (e:W)|fld (o:W) (f:Str) (e:W)|put (o k v:W)|exp (e:W)|app (o v:W)|ret (e:W)|bV (c:W) (a b:WS)|wL (c:W) (b:WS)|bP (t:Tg) (it:C) (b:WS)|kG (c:Str)|y7 (o:W) (f:Str) (e:W)|wM (c fl:Str) (e:W)|eX (t:Tg) (it:W) (b:WS)|qZ (b hs:WS) (i n:Nat)|hn (c:Str) (f:Option Str) (h rest:WS)|sV (b:WS) (c:Str) (n:Nat) (h:WS)
 deriving Inhabited
def rz:WS->Bool
 |.seq a b=>rz a||rz b
 |.kG _=>true
 |.wM _ _ _=>true
 |.bV _ a b=>rz a||rz b
 |.wL _ _=>true
 |.bP _ _ _=>true
 |.eX _ _ _=>true
 |_=>false
mutual
def wS:Wc->WS->TS
 |_,.nil=>EM
 |Z,.seq a b=>uM (wS Z a) (wS Z b)
 |Z,.asg i e=>oF (wE Z e) (x8 i)
 |Z,.fld o f e=>rM Z.K (wE Z o) (wE Z e) f
 |Z,.put o k v=>vO (wE Z o) (wE Z k) (wE Z v)
 |Z,.exp e=>uN (wE Z e)
 |Z,.app o v=>uN (Au Z.K "list" yg (wE Z o) (lT (wE Z v) eE))
 |Z,.ret e=>uO (wE Z e)
 |Z,.bV c a b=>uP (wT Z c) (wS Z a) (wS Z b)
 |Z,.wL c b=>EU (wT Z c) (wS Z b)
 |Z,.bP t it b=>lS (tDW Z.K (evW Z.Κ Z.Φ it)) (tDG Z.K t) (wS Z b)
 |Z,.kG c=>λ_ _ H=>∀C,Z.mg c=some (.ref C)->Z.E (.ref C) none H
 |Z,.y7 o f e=>Dk Z.K (wE Z o) (wE Z e) f
 |Z,.wM c fl e=>λ_ σ H=>∀C,Z.mg c=some (.ref C)->wE Z e σ H λy H1=>∀dp,H1 dp=none->Z.E (.ref C) (some dp) (upd H1 dp (.xd [(fl,y)]))
 |Z,.eX t it b=>lS (Ah Z.K (wE Z it)) (tDG Z.K t) (wS Z b)
 |Z,.qZ b hs i n=>λD σ H=>wS {Z with E:=wX Z hs D i n} b ⟨D.nx,D.rt,λ_ _=>False,λ_ _=>False⟩ σ H
 |_,.hn _ _ _ _=>λ_ _ _=>False
 |Z,.sV b c n h=>λD σ H=>wS {Z with E:=λv _ H'=>∃C,Z.mg c=some (.ref C)/\v=.ref C/\wS {Z with E:=λ_ _ _=>False,xf:=none} h ⟨D.nx,D.rt,λ_ _=>False,λ_ _=>False⟩ (ao n none) H'} b ⟨D.nx,D.rt,λ_ _=>False,λ_ _=>False⟩ σ H
def wX:Wc->WS->Ends->Nat->Nat->XK
 |Z,.hn c f h rest,D,i,n=>fun v dd H'=>(∃C,Z.mg c=some (.ref C)/\v=.ref C/\match f with
   |none=>wS {Z with E:=λ_ _ _=>False,xf:=none} h ⟨λbR y8=>D.nx (bR.set i none) y8,D.rt,λ_ _=>False,λ_ _=>False⟩ (ao n none) H'
   |some fl=>∃dp y,dd=some dp/\H' dp=some (.xd [(fl,y)])/\wS {Z with E:=λ_ _ _=>False,xf:=some y} h ⟨λbR y8=>D.nx (bR.set i none) y8,D.rt,λ_ _=>False,λ_ _=>False⟩ (ao n none) (iD H' dp))
  \/wX Z rest D i n v dd H'
 |_,_,_,_,_=>λ_ _ _=>False
end
def sW:Stmt->Option (List Stmt×o4)
 |.Try b h o f _=>if o.isEmpty&&f.isEmpty then(bF h).map λu=>(b,u)else none
 |_=>none
theorem IJ (e:sW s=some v):∃p,s=.Try v.1 [v.2] [] [] p:=bT (q:=λv=>∃p,s=.Try v.1 [v.2] [] [] p) e (by
 cases s with
 |Try b h o f p=>rcases h with _|⟨h,_|_⟩<;>rcases o with _|_<;>rcases f with _|_<;>first|exact .inl rfl|exact .inr ⟨_,rfl,_,rfl⟩
 |_=>exact .inl rfl)
def IK (s:Stmt):Option (List Stmt×Str×Str×List Stmt):=(sW s).bind λt=>(Bj t.2).map λu=>(t.1,u)
theorem Dl (e:IK s=some v):∃a b d,s=.Try v.1 [.ExceptHandler (some (.Name v.2.1 a)) (some v.2.2.1) v.2.2.2 b] [] [] d:=by obtain⟨t,c,e⟩:=fj.mp e;obtain⟨p,rfl⟩:=IJ c;obtain⟨x,c,rfl⟩:=bx.mp e;obtain⟨a,b,h⟩:=CB c;exact⟨a,b,p,by rw[h]⟩
def Dm:o4->Option (Str×List Stmt)
 |.ExceptHandler (some t) none b _=>(vv t).map λx=>(x,b)
 |_=>none
def IL (s:Stmt):Option (List Stmt×Str×List Stmt):=(sW s).bind λt=>(Dm t.2).map λu=>(t.1,u)
theorem Dp (e:Dm h=some v):∃a b,h=.ExceptHandler (some (.Name v.1 a)) none v.2 b:=by
 unfold Dm at e;split at e
 ·obtain⟨x,c,rfl⟩:=bx.mp e;obtain⟨p,rfl⟩:=pB c;exact⟨_,_,rfl⟩
 ·cases e
theorem Dq (e:IL s=some v):∃b c pos,s=.Try v.1 [.ExceptHandler (some (.Name v.2.1 b)) none v.2.2 c] [] [] pos:=by obtain⟨t,c,e⟩:=fj.mp e;obtain⟨p,rfl⟩:=IJ c;obtain⟨x,c,rfl⟩:=bx.mp e;obtain⟨a,b,h⟩:=Dp c;exact⟨a,b,p,by rw[h]⟩
def IM (Γ:Gw):Gw:={Γ with g:={Γ.g with cm:=false,fns:=[]},xf:=none}
def Dr (Γ:Gw)(i:Nat)(nm c:Str)(f:Option Str):Gw:={Γ with g:={Γ.g with N:=Γ.g.N.set i "",cm:=false,xc:=some (nm,c),fns:=[]},xf:=f}
mutual
def wN:Gw->WS->Stmt->Bool
 |Γ,.asg i e,s=>(tV s).any λu=>(bF u.1).any λx=>qI Γ.g (.nm i) x&& !lB u.2&&bK Γ e u.2
 |Γ,.fld o f e,s=>(tV s).any λu=>(bF u.1).any λx=>(sx x).any λv=>(v.2.1==f)&& !lB u.2&&bK Γ o v.1&&bK Γ e u.2
 |Γ,.put o k v,s=>(tV s).any λu=>(bF u.1).any λx=>(kK x).any λw=>!lB u.2&&bK Γ o w.1&&bK Γ k w.2&&bK Γ v u.2
 |Γ,.exp e,s=>(vF s).any λv=>!lB v&&bK Γ e v
 |Γ,.app o e,s=>(vF s).any λc=>(sy c).any λv=>((v.2.1==("append":Str))&&z0n v.1&&v.2.2.2)&&bK Γ o v.1&&(bF v.2.2.1).any λy=>!isStar y&&bK Γ e y
 |Γ,.ret e,s=>(Bg s).any λo=>o.any λv=>bK Γ e v
 |Γ,.bV c a b,s=>(Bh s).any λv=>mW Γ c v.1&&wkL Γ a v.2.1&&wkL Γ b v.2.2
 |Γ,.wL c b,s=>(FR s).any λv=>mW Γ c v.1&&wkL Γ b v.2.1&&v.2.2.isEmpty
 |Γ,.bP t it b,s=>Γ.g.cm&&(yt s).any λv=>(qI Γ.g t v.1&&yr it v.1&&sm v.2.1)&&kM Γ.g it v.2.1&&wkL Γ b v.2.2.1&&v.2.2.2.isEmpty
 |Γ,.kG c,s=>(vG s).any λv=>(v.1==c)&&lF Γ.g c&&Γ.g.rs.contains c&&Γ.g.cm&&(bF v.2).any Bi
 |Γ,.y7 o f e,s=>(tV s).any λu=>(bF u.1).any λx=>(sx x).any λv=>(v.2.1==f)&& !lB u.2&&bK Γ o v.1&&bK Γ e u.2
 |Γ,.wM c fl e,s=>(vG s).any λv=>(v.1==c)&&lF Γ.g c&&Γ.fld.contains (c,fl)&&Γ.g.cm&&(bF v.2).any λy=>!isStar y&&bK Γ e y
 |Γ,.eX t it b,s=>Γ.g.cm&&(yt s).any λv=>(qI Γ.g t v.1&&sm v.2.1)&&bK Γ it v.2.1&&wkL Γ b v.2.2.1&&v.2.2.2.isEmpty
 |Γ,.qZ b hs i n,s=>decide (Γ.g.N.length=n)&&(IK s).any λv=>(Γ.g.cm&&(Γ.g.xc.isNone&& !Γ.g.blk)&&(Γ.g.N[i]?==some v.2.2.1)&&(Γ.g.sc.names.lookup v.2.2.1==some .local)&&decide (Γ.g.N.set i "").Nodup)&&((Γ.g.sc.names.lookup ("":Str)).isNone&&lF Γ.g v.2.1&& !rz b&&wkL Γ b v.1&&Γ.xf.isNone)&&(!v.2.2.2.isEmpty&& !(v.2.2.1==("__debug__":Str))&&wkH Γ hs i v.2.2.1 v.2.1 v.2.2.2)
 |Γ,.sV b c n h,s=>decide (Γ.g.N.length=n)&&(IL s).any λv=>(Γ.g.cm&&(Γ.g.xc.isNone&& !Γ.g.blk)&&Γ.xf.isNone)&&(lF Γ.g v.2.1&&Γ.g.fC.contains (c,v.2.1)&& !rz b&&wkL Γ b v.1)&&(!v.2.2.isEmpty&&wkL (IM Γ) h v.2.2)
 |_,_,_=>false
def wkH:Gw->WS->Nat->Str->Str->List Stmt->Bool
 |_,.nil,_,_,_,_=>true
 |Γ,.hn c f h rest,i,nm,B,su=>Γ.g.fC.contains (c,B)&&(match f with|none=>true|some fl=>Γ.fld.contains (c,fl))&&wkL (Dr Γ i nm c f) h su&&wkH Γ rest i nm B su
 |_,_,_,_,_,_=>false
def wkL:Gw->WS->List Stmt->Bool
 |_,.nil,l=>l.isEmpty
 |Γ,.seq a b,l=>match l with|s::l=>wN Γ a s&&wkL Γ b l|_=>false
 |_,_,_=>false
end
def Wfk (Γ:Gw)(X:Cx)(r:Nat):Prop:=∀c fl,Γ.fld.contains (c,fl)=true->∃C f fd ps k,X.mg c=some (.ref C)/\XF X.K C fl/\XI X.K C f/\k+1<=r/\FnOk X.prog X.w X.K X.mg X.base (CXE X.prog X.w X.base) k f fd ps (sU X.K fl)/\Binds X.K fd ps []
structure Wz (s:WS):Prop where
 R:∀(Γ:Gw) (Z:Wc) (X:Cx) (r:Nat) (st:Stmt),Wok Γ Z (CXE X.prog X.w X.base) X r->Wfk Γ X r->(rz s=true->ez (model X.prog X.w) X.A X.env X.xe)->(rz s=true->wK X Z.E)->wN Γ s st=true->PS X st (wS Z s)
 L:∀(Γ:Gw) (Z:Wc) (X:Cx) (r:Nat) (st:List Stmt),Wok Γ Z (CXE X.prog X.w X.base) X r->Wfk Γ X r->(rz s=true->ez (model X.prog X.w) X.A X.env X.xe)->(rz s=true->wK X Z.E)->wkL Γ s st=true->PSs X st (wS Z s)
 H:∀(Γ:Gw) (Z:Wc) (X:Cx) (r i:Nat) (nm B:Str) (b0:Stmt) (su:List Stmt) (np hp:Pos) (pins:List (Addr×Obj)) (Dn:Ends),Wok Γ Z (CXE X.prog X.w X.base) X r->Wfk Γ X r->Γ.g.xc=none->X.stack=X.env::X.outer->X.env.frame=some X.env.locals->X.N[i]?=some nm->X.env.scope.names.lookup ("":Str)=none->X.env.scope.names.lookup nm=some .local->Vx nm->(Γ.g.N.set i "").Nodup->Gl X B->Vx B->wkH Γ s i nm B (b0::su)=true->∀σ H1 s1 C a H' s' dd,Inv X pins σ H1 s1->Fly X.prog X.w X.base X.stack H1 s1 C a H' s' dd->wX Z s Dn i σ.length (.ref C) dd H'->wpAny (model X.prog X.w) X.A (gu (.ref a) X.env) (λ_ s2=>wpAny (model X.prog X.w) X.A (iy (.ref a) none) (λ_ s3=>wpAny (model X.prog X.w) X.A (lg (.ref a) X.env [.ExceptHandler (some (.Name B np)) (some nm) (b0::su) hp]) (SP X pins Dn) X.xe s3) X.xe s2) X.xe s'
theorem Wz.x (h:∀(Γ:Gw) (Z:Wc) (X:Cx) (r:Nat) (st:Stmt),Wok Γ Z (CXE X.prog X.w X.base) X r->Wfk Γ X r->(rz s=true->ez (model X.prog X.w) X.A X.env X.xe)->(rz s=true->wK X Z.E)->wN Γ s st=true->PS X st (wS Z s))(b:∀Γ st,wkL Γ s st=false)(c:∀Z D i n v dd H',¬wX Z s D i n v dd H'):Wz s:=⟨h,λΓ Z X r st k d e j z=>ff (b Γ st) z,λΓ Z X r i nm B l m o e pins p k d q t u y F G H J K f g σ H1 s1 C a H' s' dd I fl z=>(c _ _ _ _ _ _ _ z).elim⟩
theorem zhk {C:Addr}(hh:X.A.handled=none)(G:Gl X x)(hm:X.mg x=some (.ref C))(h:Vx x)(J:exV X.K C=true)
  (rs:wK X E):PS X (.Raise (some (.Call (.Name x np) [.Constant (.str z) kk kp] [] L)) none pos) (λ_ _ H=>E (.ref C) none H):=by
 intro b s k H D I M;obtain⟨W,N,nm,q,bs,c,l,sub,m,f,n,p,t,u,v,w,mN,O,hN,i,T⟩:=Cc.mk I.mod.pV J;refine wpAny_Raise_call_subT (nm:=nm) (q:=q) (N:=N) (bs:=bs) (hdct:=c) (sn:=l) (sub:=sub) (ab:=m) (col:=f) (dd:=n) (k0:=p) (k1:=t) (k2:=u) (k3:=v) (k5:=w) PySem.F.excBase_ValueError (T.hasType (X:="BaseException") rfl) hh rfl i (z4p I G hm ⟨rfl,?_⟩ h);refine kg (aI ((ya (X:=X) (ED (x:=z) (j:=kk) (pos:=kp)) jF) L b s k H (λy H1=>y.length=1/\H1=H) I ⟨rfl,rfl⟩) λP B Q=>?_);obtain⟨y,H1,d,r,R,rfl⟩:=Q;have S:P.length=1:=r.length▸R;refine⟨rfl,by rw[S];decide,d.bk _ _ O,hN.keeps d.bk,T.keeps d.bk,λU a g=>?_⟩;obtain⟨tp,ga,_,_⟩:=g.there
 have V:H1 a=none:=by
  cases e:H1 a with
  |none=>rfl
  |some o=>obtain⟨ob,q⟩:=Hh (d.hok a o e);rw[g.new]at q;cases q
 exact rs b k H1 {B with heap:=U} a C _ _ (d.kept g.keeps) V ⟨H1,B,d,g.new⟩ ga rfl rfl rfl M
theorem pJ (h:a=true):(a||b)=true:=by rw[h];rfl
theorem pK (h:b=true):(a||b)=true:=by rw[h,m8]
theorem zn2 {C D:Addr}(I:Inv X Z σ H1 s1)(c:Fly X.prog X.w X.base X.stack H1 s1 C a H' s' dd)(hs:X.stack=X.env::X.outer)(hf:X.env.frame=some X.env.locals)(s:X.fx=none)(nd:X.N.Nodup)(hi:X.N[i]?=some n)(t:X.env.scope.names.lookup ("":Str)=none)(u:X.env.scope.names.lookup n=some .local)
  (x:X.mg B=some (.ref D)) (xC:fD X.K C=true) (y:fD X.K D=true) (E:W.subIn X.K (.ref C) (.ref D)=some true) (d:Gl X B) (f:Vx B)
  (g:∀oe,oe.cls=.ref C->PSs (iU X i n a oe) (F::eT) T) (q:T ⟨λk l=>r.nx (k.set i none) l,r.rt,λ_ _=>False,λ_ _=>False⟩ (ao σ.length none) H'):
  wpAny (model X.prog X.w) X.A (gu (.ref a) X.env) (λ_ G=>wpAny (model X.prog X.w) X.A (iy (.ref a) none) (λ_ H=>wpAny (model X.prog X.w) X.A (lg (.ref a) X.env [.ExceptHandler (some (.Name B P)) (some n) (F::eT) Q]) (SP X Z r) X.xe H) X.xe G) X.xe s':=by
 obtain⟨R,m,o,p,J⟩:=c.hh;have b:=J;rw[hs]at b
 have L:(ao σ.length (none:Option V)).set i none=ao σ.length none:=by
  apply er;intro j;rw[dg];split
  ·rename_i h;subst h;split<;>simp_all
  ·rfl
 refine zf3 (λS M up=>?_) b (Cf c) hs hf s nd hi t u x (sJ xC y E) d f (λ_ _ z=>z) (λoe ws O U Y=>g oe O) (L▸q);exact(Fly.land I c m o p (hs▸M) up).weak (by rw[bw]) λj v e=>by rw[cc]at e;split at e<;>cases e
theorem w_hn {rest:WS}(Y:Wz h)(ir:Wz rest):∀d Z X r i nm B t v Q R b x,Wok d Z (CXE X.prog X.w X.base) X r->Wfk d X r->d.g.xc=none->X.stack=X.env::X.outer->X.env.frame=some X.env.locals->X.N[i]?=some nm->X.env.scope.names.lookup ("":Str)=none->X.env.scope.names.lookup nm=some .local->Vx nm->(d.g.N.set i "").Nodup->Gl X B->Vx B->wkH d (.hn c f h rest) i nm B (t::v)=true->
  ∀E H1 F C a G K M,Inv X b E H1 F->Fly X.prog X.w X.base X.stack H1 F C a G K M->wX Z (.hn c f h rest) x i E.length (.ref C) M G->wpAny (model X.prog X.w) X.A (gu (.ref a) X.env) (λ_ s2=>wpAny (model X.prog X.w) X.A (iy (.ref a) none) (λ_ s3=>wpAny (model X.prog X.w) X.A (lg (.ref a) X.env [.ExceptHandler (some (.Name B Q)) (some nm) (t::v) R]) (SP X b x) X.xe s3) X.xe s2) X.xe K:=by
 intro d Z X r i nm B t v Q R b x k O j hs hf S T P n fC l m U E H1 F C a G K M I V z;obtain⟨c1,c2,c3,c4⟩:=bJ U;rcases z with⟨C0,m0,e0,z⟩|z
 ·cases e0;obtain⟨C',D,m1,m2,x1,x2,sb⟩:=k.ck.xk.fC c B c1;rw[k.mm,m1]at m0;cases m0;have o:X.N.Nodup:=k.ck.hN▸k.ck.nd;have hx:=k.ck.qT j;cases f with
  |none=>refine zn2 I V hs hf hx o S T P m2 x1 x2 sb l m (λs hc=>?_) z;exact Y.L (Dr d i nm c none) _ (iU X i nm a s) r _ ⟨⟨k.kk,k.mm,k.fn,k.me,k.cl,k.gi,k.hf,k.md,k.mq⟩,k.ck.iU fC hc m1,nofun,(λ_ _ _ _ _ _ _ z=>by obtain⟨_,_,_,_,_,_,z⟩:=z;exact z),nofun,uf⟩ O (λ_=>PassesOwn.never) (λ_ _ _ _ _ _ _ _ _ _ _ _ _ _ _ _ z=>z.elim) c3
  |some fl=>obtain⟨dp,y,rfl,hy,z⟩:=z;obtain⟨C2,f2,y9,Vg,k2,n1,xf,_⟩:=O c fl c2;rw[m1]at n1;cases n1;refine zmh I V hy hs hf hx o S T P m2 x1 x2 sb l m (λod mA u s ws q1 q2 q3 q4 q5 q6=>?_) z;refine Y.L (Dr d i nm c (some fl)) _ (iU (hP X ((dp,od)::X.pn) X.xe) i nm a s) r _ ⟨⟨k.kk,k.mm,k.fn,k.me,k.cl,k.gi,k.hf,k.md,k.mq⟩,(Dj k.ck j ((dp,od)::X.pn) X.xe).iU fC q4 m1,nofun,(λ_ _ _ _ _ _ _ z=>by obtain⟨_,_,_,_,_,_,z⟩:=z;exact z),(λf z=>?_),uf⟩ O (λ_=>PassesOwn.never) (λ_ _ _ _ _ _ _ _ _ _ _ _ _ _ _ _ z=>z.elim) c3;cases z;refine⟨y,rfl,λn' c' e p q W=>?_⟩;cases e;exact zpg (X:=iU (hP X ((dp,od)::X.pn) X.xe) i nm a s) rfl P n W (λ_ _ _ _ J=>(J.pin (a,s) (dk _ bj)).1) q4 q6 q5 (λ_ _ _ _ J=>(J.pin (dp,od) (dk _ (ay _ bj))).1) q1 q2 q3 xf
 ·exact ir.H d Z X r i nm B t v Q R b x k O j hs hf S T P n fC l m c4 E H1 F C a G K M I V z
theorem RA {st:Stmt}(R:Wz b)(S:Wz hs)(k:Wok m Z (CXE X.prog X.w X.base) X r)(N:Wfk m X r)(h:wN m (.qZ b hs i n) st=true):PS X st (wS Z (.qZ b hs i n)):=by
 obtain⟨hn,h⟩:=aC h;obtain⟨⟨T,B,nm,F⟩,U,V⟩:=aH h;obtain⟨O,o,pos,rfl⟩:=Dl U;obtain⟨h1,g,h3⟩:=aQ V;obtain⟨a1,a2,a3,a4,a5⟩:=dC h1;obtain⟨b1,b2,b3,b4,b5⟩:=dC g;obtain⟨c1,c2,c3⟩:=aQ h3;obtain⟨a6,a7⟩:=aC a2;obtain⟨P,F,rfl⟩:=nW c1;obtain⟨g3,g4⟩:=k.ck.gl b2;obtain⟨s1,Q⟩:=k.ck.gZ (cI a7);have p:=dq.mp a6;have t:=cI b3;intro c s σ H j I hq;refine wpAny_Try_except ?_;generalize hE:(λe x=>wpAny (model X.prog X.w) X.A (gu e X.env) (λ_ y=>wpAny (model X.prog X.w) X.A (iy e none) (λ_ C=>wpAny (model X.prog X.w) X.A (lg e X.env [.ExceptHandler (some (.Name B O)) (some nm) (P::F) o]) (SP X c j) X.xe C) X.xe y) X.xe x)=E
 have px:z1w (CXE X.prog X.w X.base) (hP X (X.pn++c) E) (wX Z hs j i n):=λG d H1 J e s' I1 zz=>by
  obtain⟨a,C',dd,D,rfl,fl,q⟩:=zz;rw[<-hE];have l:=ug I.ok I1;have K:n=d.length:=by rw[l.len,k.ck.hN];simp_all
  rw[K]at q;exact S.H m Z X r i nm B P F O o c j k N p s1 Q (k.ck.hN▸q8 a3) (k.ck.hs▸dq.mp b1) (k.ck.hs▸q8 a4) (cI c2) (qx a5) g3 g4 c3 d H1 J C' a D s' dd l fl q
 have wk:Wok m {Z with E:=wX Z hs j i n} (CXE X.prog X.w X.base) (hP X (X.pn++c) E) r:=⟨⟨k.kk,k.mm,k.fn,k.me,k.cl,k.gi,k.hf,k.md,k.mq⟩,Dj k.ck p _ E,k.room,px,(λf z=>by rw[dq.mp b5]at z;cases z),uf⟩;refine aI ((R.L m _ (hP X (X.pn++c) E) r T wk N (λz=>by rw[t]at z;cases z) (λz=>by rw[t]at z;cases z) b4) [] s σ H ⟨j.nx,j.rt,λ_ _=>False,λ_ _=>False⟩ (ID I E) hq) λM Q g=>?_;cases M with
 |next=>obtain⟨d,D,l,z⟩:=g;exact jh ⟨d,D,ug I.ok l,z⟩
 |brk=>obtain⟨_,_,_,z⟩:=g;exact z.elim
 |cont=>obtain⟨_,_,_,z⟩:=g;exact z.elim
 |ret u=>obtain⟨v,d,D,l,rv,z⟩:=g;exact⟨v,d,D,ug I.ok l,rv,z⟩
theorem RB {st:Stmt}(V:Wz b)(ih:Wz h)(k:Wok o Z (CXE X.prog X.w X.base) X r)(P:Wfk o X r)(hh:wN o (.sV b c n h) st=true):PS X st (wS Z (.sV b c n h)):=by
 obtain⟨hn,hh⟩:=aC hh;obtain⟨⟨bd,B,Q⟩,hv,h9⟩:=aH hh;obtain⟨np,K,pos,rfl⟩:=Dq hv;obtain⟨h1,j,h3⟩:=aQ h9;obtain⟨a1,a2,a3⟩:=aQ h1;obtain⟨b1,b2,b3,b4⟩:=bJ j;obtain⟨c1,c2⟩:=aC h3;obtain⟨a6,a7⟩:=aC a2;obtain⟨b0,Q,rfl⟩:=nW c1;obtain⟨g3,g4⟩:=k.ck.gl b1;obtain⟨s1,R⟩:=k.ck.gZ (cI a7);obtain⟨C,D,m1,m2,x1,x2,sb⟩:=k.ck.xk.fC c B b2;have p:=dq.mp a6;have t:=cI b3;intro d s S H i I J;refine wpAny_Try_except ?_;generalize hE:(λe x=>wpAny (model X.prog X.w) X.A (gu e X.env) (λ_ y=>wpAny (model X.prog X.w) X.A (iy e none) (λ_ F=>wpAny (model X.prog X.w) X.A (lg e X.env [.ExceptHandler (some (.Name B np)) none (b0::Q) K]) (SP X d i) X.xe F) X.xe y) X.xe x)=E;generalize G:(λ(v:Value) _ l=>∃C,Z.mg c=some (.ref C)/\v=.ref C/\wS {Z with E:=λ_ _ _=>False,xf:=none} h ⟨i.nx,i.rt,λ_ _=>False,λ_ _=>False⟩ (ao n none) l)=EE at J;have J:wS {Z with E:=EE} b ⟨i.nx,i.rt,λ_ _=>False,λ_ _=>False⟩ S H:=by subst G;exact J
 have px:z1w (CXE X.prog X.w X.base) (hP X (X.pn++d) E) EE:=λM g H1 Gk e s' I1 zz=>by
  obtain⟨a,C',dd,l,rfl,fl,q⟩:=zz;rw[<-hE];rw[<-G]at q;obtain⟨C0,T,e2,q⟩:=q;cases e2;rw[k.mm,m1]at T;cases T;have m:=ug I.ok I1;have N:n=g.length:=by rw[m.len,k.ck.hN];simp_all
  rw[N]at q;refine zlz m fl s1 R m2 x1 x2 sb g3 g4 (λU hc=>?_) q;exact ih.L (IM o) _ (qY X a U) r _ ⟨⟨k.kk,k.mm,k.fn,k.me,k.cl,k.gi,k.hf,k.md,k.mq⟩,k.ck.qY p a U,nofun,(λ_ _ _ _ _ _ _ z=>by obtain⟨_,_,_,_,_,_,z⟩:=z;exact z),nofun,uf⟩ P (λ_=>PassesOwn.never) (λ_ _ _ _ _ _ _ _ _ _ _ _ _ _ _ _ z=>z.elim) c2
 have wk:Wok o {Z with E:=EE} (CXE X.prog X.w X.base) (hP X (X.pn++d) E) r:=⟨⟨k.kk,k.mm,k.fn,k.me,k.cl,k.gi,k.hf,k.md,k.mq⟩,Dj k.ck p _ E,k.room,px,(λf z=>by rw[dq.mp a3]at z;cases z),uf⟩;refine aI ((V.L o _ (hP X (X.pn++d) E) r bd wk P (λz=>by rw[t]at z;cases z) (λz=>by rw[t]at z;cases z) b4) [] s S H ⟨i.nx,i.rt,λ_ _=>False,λ_ _=>False⟩ (ID I E) J) λO R j=>?_;cases O with
 |next=>obtain⟨g,l,m,z⟩:=j;exact jh ⟨g,l,ug I.ok m,z⟩
 |brk=>obtain⟨_,_,_,z⟩:=j;exact z.elim
 |cont=>obtain⟨_,_,_,z⟩:=j;exact z.elim
 |ret u=>obtain⟨v,g,l,m,rv,z⟩:=j;exact⟨v,g,l,ug I.ok m,rv,z⟩
theorem RC (s:WS):Wz s:=by
 induction s with
 |nil=>exact⟨λ_ _ _ _ _ _ _ _ _ h=>ff rfl h,λd Z X r st k l m hr h=>by cases fQ h;exact EO,λd Z X r i nm B b0 su np m Y Dn k l a1 a2 a3 a4 a5 a6 a7 a8 a9 RD RE σ H1 s1 C a H' s' dd I fl z=>z.elim⟩
 |seq a b ia N=>exact⟨λ_ _ _ _ _ _ _ _ _ h=>ff rfl h,λd Z X r st k l m hr h=>by
  cases st with
  |nil=>cases h
  |cons s st=>obtain⟨j,u⟩:=aC h;exact ER (ia.R d Z X r _ k l (λz=>m (pJ z)) (λz=>hr (pJ z)) j) (N.L d Z X r _ k l (λz=>m (pK z)) (λz=>hr (pK z)) u),λd Z X r i nm B b0 su np m Y Dn k l a1 a2 a3 a4 a5 a6 a7 a8 a9 RD RE σ H1 s1 C a H' s' dd I fl z=>z.elim⟩
 |asg i e=>exact Wz.x (λd Z X r st k l m hr h=>by obtain⟨⟨ts,v⟩,A,G⟩:=aH h;obtain⟨p,rfl⟩:=mP A;obtain⟨x,U,P⟩:=aH G;cases eU U;obtain⟨j,u,J⟩:=aQ P;obtain⟨y,q,rfl,Q⟩:=kR j;obtain⟨l1,l2,l3⟩:=k.ck.loc Q;exact AM (k.ck.hN▸k.ck.nd) l1 l2 ((cW e).E d Z _ X r _ k J) (cI u) l3) (λ_ _=>rfl) λ_ _ _ _ _ _ _ z=>z
 |fld o f e=>exact Wz.x (λd Z X r st k l m hr h=>by obtain⟨⟨ts,v⟩,A,G⟩:=aH h;obtain⟨p,rfl⟩:=mP A;obtain⟨x,U,P⟩:=aH G;cases eU U;obtain⟨⟨o',f',p'⟩,ho,O⟩:=aH P;cases kP ho;obtain⟨j,u,J,M⟩:=bJ O;have j:=eqB j;subst j;show PS X _ (rM Z.K _ _ _);rw[k.kk];exact LH ((cW o).E d Z _ X r _ k J) ((cW e).E d Z _ X r _ k M) (rW (cI u) _ _ _)) (λ_ _=>rfl) λ_ _ _ _ _ _ _ z=>z
 |put o y v=>exact Wz.x (λd Z X r st k l m hr h=>by obtain⟨⟨ts,v⟩,A,G⟩:=aH h;obtain⟨p,rfl⟩:=mP A;obtain⟨x,U,P⟩:=aH G;cases eU U;obtain⟨w,ho,O⟩:=aH P;obtain⟨_,rfl⟩:=vY ho;obtain⟨j,u,J,M⟩:=bJ O;exact Ol (jm (Nat.add_le_add_left dc _) k.ck.hu) ((cW o).E d Z _ X r _ k u) ((cW y).E d Z _ X r _ k J) ((cW _).E d Z _ X r _ k M) (rW (cI j) _ _ _)) (λ_ _=>rfl) λ_ _ _ _ _ _ _ z=>z
 |exp e=>exact Wz.x (λd Z X r st k l m hr h=>by obtain⟨v,A,G⟩:=aH h;obtain⟨p,rfl⟩:=pE A;obtain⟨j,u⟩:=aC G;exact oK ((cW e).E d Z _ X r _ k u) (cI j)) (λ_ _=>rfl) λ_ _ _ _ _ _ _ z=>z
 |app o e=>exact Wz.x (λd Z X r st k l m hr h=>by obtain⟨c,A,G⟩:=aH h;obtain⟨p,rfl⟩:=pE A;obtain⟨⟨x,n,es,b⟩,hm,P⟩:=aH G;obtain⟨ap,cp,rfl,hb⟩:=kQ hm;obtain⟨h0,S,O⟩:=aQ P;obtain⟨j,u,J⟩:=aQ h0;obtain⟨y,hy,M⟩:=aH O;cases eU hy;obtain⟨M,Q⟩:=aC M;have j:=eqB j;subst j;show PS X _ (uN (Au Z.K "list" yg _ _));rw[k.kk];exact oK (zmn PySem.F.plainAttrs_list PySem.F.slot_list_append PySem.F.type_list_append Aw ((cW o).E d Z _ X r _ k S) (dQ ((cW e).E d Z _ X r _ k Q) jF (cI M)) (nR u) (zai (by rw[ci,M];rfl) (show 1<20 by decide)) (hb.symm.trans J) (eS (cI M)) (kZ rfl)) rfl) (λ_ _=>rfl) λ_ _ _ _ _ _ _ z=>z
 |ret e=>exact Wz.x (λd Z X r st k l m hr h=>by obtain⟨o,A,G⟩:=aH h;obtain⟨p,rfl⟩:=wb A;obtain⟨v,rfl,P⟩:=aH G;exact z9 ((cW e).E d Z _ X r _ k P)) (λ_ _=>rfl) λ_ _ _ _ _ _ _ z=>z
 |bV c a b ia N=>exact Wz.x (λd Z X r st k l m hr h=>by obtain⟨v,A,G⟩:=aH h;obtain⟨p,rfl⟩:=wc A;obtain⟨j,u,J⟩:=aQ G;exact ES ((cW c).T d Z _ X r _ k j).1 (ia.L d Z X r _ k l (λz=>m (pJ z)) (λz=>hr (pJ z)) u) (N.L d Z X r _ k l (λz=>m (pK z)) (λz=>hr (pK z)) J)) (λ_ _=>rfl) λ_ _ _ _ _ _ _ z=>z
 |wL c b N=>exact Wz.x (λd Z X r st k l m hr h=>by obtain⟨⟨t,B,o⟩,A,G⟩:=aH h;obtain⟨p,rfl⟩:=Cv A;obtain⟨j,u,J⟩:=aQ G;cases fQ J;exact K' (m rfl) ((cW c).T d Z _ X r _ k j).1 (N.L d Z X r _ k l (λ_=>m rfl) (λ_=>hr rfl) u)) (λ_ _=>rfl) λ_ _ _ _ _ _ _ z=>z
 |bP t it b N=>exact Wz.x (λd Z X r st k l m hr h=>by obtain⟨V,h⟩:=aC h;obtain⟨⟨t',i,B,o⟩,A,G⟩:=aH h;obtain⟨p,rfl⟩:=sP A;obtain⟨j,u,J,M⟩:=bJ G;obtain⟨Q,S,O⟩:=aQ j;cases fQ M;show PS X _ (lS (tDW Z.K _) (tDG Z.K _) _);rw[k.kk];exact zea (m rfl) (k.ck.calm V) ((all it).W d.g X r _ _ k.ck S u) (ua k.ck Q) (N.L d Z X r _ k l (λ_=>m rfl) (λ_=>hr rfl) J) (wa O _)) (λ_ _=>rfl) λ_ _ _ _ _ _ _ z=>z
 |kG c=>exact Wz.x (λd Z X r st k l m hr h=>by obtain⟨⟨x,es⟩,A,G⟩:=aH h;obtain⟨np,cp,pos,rfl⟩:=wg A;obtain⟨j,u,J,M,Q⟩:=dC G;obtain⟨y,hy,S⟩:=aH Q;cases eU hy;obtain⟨z,kk,p,rfl⟩:=Qp S;cases q8 j;obtain⟨g1,g2⟩:=k.ck.gl u;obtain⟨C,m1,xC⟩:=k.ck.xk.rs x J;exact PS.imp (zhk (k.room M).hd g1 m1 g2 xC (hr rfl)) λD σ H q=>q C (k.mm▸m1)) (λ_ _=>rfl) λ_ _ _ _ _ _ _ z=>z
 |y7 o f e=>exact Wz.x (λd Z X r st k l m hr h=>by obtain⟨⟨ts,v⟩,A,G⟩:=aH h;obtain⟨p,rfl⟩:=mP A;obtain⟨x,U,P⟩:=aH G;cases eU U;obtain⟨⟨o',f',p'⟩,ho,O⟩:=aH P;cases kP ho;obtain⟨j,u,J,M⟩:=bJ O;have j:=eqB j;subst j;show PS X _ (Dk Z.K _ _ _);rw[k.kk];exact Rr ((cW o).E d Z _ X r _ k J) ((cW e).E d Z _ X r _ k M) (rW (cI u) _ _ _)) (λ_ _=>rfl) λ_ _ _ _ _ _ _ z=>z
 |wM c fl e=>exact Wz.x (λd Z X r st k l m hr h=>by obtain⟨⟨x,es⟩,A,G⟩:=aH h;obtain⟨np,cp,pos,rfl⟩:=wg A;obtain⟨j,u,J,M,Q⟩:=dC G;obtain⟨y,hy,S⟩:=aH Q;cases eU hy;obtain⟨S,O⟩:=aC S;cases q8 j;obtain⟨g1,g2⟩:=k.ck.gl u;obtain⟨C,f,fd,ps,n,m1,xf,xi,hn,F,hb⟩:=l _ _ J;exact PS.imp (ze9 ((k.room M).mono hn) g1 m1 g2 xf xi F hb ((cW e).E d Z _ X r _ k O) (cI S) (hr rfl)) λD σ H q=>q C (k.mm▸m1)) (λ_ _=>rfl) λ_ _ _ _ _ _ _ z=>z
 |eX t it b N=>exact Wz.x (λd Z X r st k l m hr h=>by obtain⟨V,h⟩:=aC h;obtain⟨⟨t',i,B,o⟩,A,G⟩:=aH h;obtain⟨p,rfl⟩:=sP A;obtain⟨j,u,J,M⟩:=bJ G;obtain⟨Q,O⟩:=aC j;cases fQ M;show PS X _ (lS (Ah Z.K _) (tDG Z.K _) _);rw[k.kk];exact zea (m rfl) (k.ck.calm V) (Lc ((cW it).E d Z _ X r _ k u)) (ua k.ck Q) (N.L d Z X r _ k l (λ_=>m rfl) (λ_=>hr rfl) J) (wa O _)) (λ_ _=>rfl) λ_ _ _ _ _ _ _ z=>z
 |qZ b hs i n N ih=>exact Wz.x (λd Z X r st k l m hr h=>RA N ih k l h) (λ_ _=>rfl) λ_ _ _ _ _ _ _ z=>z
 |hn c f h rest ih ir=>exact⟨λ_ _ _ _ _ _ _ _ _ h=>ff rfl h,λ_ _ _ _ _ _ _ _ _ h=>ff rfl h,w_hn ih ir⟩
 |sV b c n h N ih=>exact Wz.x (λd Z X r st k l m hr h=>RB N ih k l h) (λ_ _=>rfl) λ_ _ _ _ _ _ _ z=>z
section
variable {P:cj}{w:World}{K:W.Frag}{mg:Str->Option Value}{base:Heap}
theorem zrh {Z:Wc}{st:Stmt}(J:∃B oc od kV j D an d ct l,fd=W.fnOf x h (z0j st) (z0d st) (z08 st) B kV j D an d ct/\K.lookup f=some ⟨oc,od,.func fd,l⟩/\W.codeIn K d h=true)(p:FnScope b.g.N ps (z08 st))(hs:b.g.sc=z08 st)(r:b.g.xc=none)(m:Dok b.g Z.Κ Z.Φ P w K mg base k)(M:∀E,Zok b {Z with E:=E} (CXE P w base) P w K mg base k)(t:b.xf=none)(kf:b.fld=[]\/∀X,X.prog=P->X.w=w->X.K=K->X.mg=mg->X.base=base->Wfk b X k)(O:wkL b s (z0d st)=true)
  (len:∀i H Q E,sp i H Q E->i.length=ps.length) (run:∀i H Q E,sp i H Q E->wS {Z with E:=E} s {nx:=λ_ u=>Q .aK u,rt:=Q} (start b.g.N i) H):
  FnOk P w K mg base (CXE P w base) (k+1) f fd ps sp:=by
 obtain⟨B,oc,od,kV,j,D,an,d,ct,l,rfl,R,v⟩:=J;refine zn9 R v p len λA outer F H i Q E hr y=>⟨_,(RC s).L b {Z with E:=E} (gT (CXE P w base) P w K mg base b.g.N h (z08 st) f d A outer F H E) k _ ⟨M E,⟨rfl,hs.symm,p.nd,λ_ _=>rfl,by rw[hs];exact p.kind,m.free,m.fns,m.cst,m.nX,λ_=>hr,λ_=>rfl,hr.units,λ_=>⟨rfl,rfl⟩,λ_=>rfl,λ_ _ z=>(by rw[r]at z;cases z),m.xk⟩,λ_=>hr,λn S H1 T e s' I U=>?_,(λf z=>by rw[t]at z;cases z),uf⟩ (kf.elim (λe c fl z=>by rw[e]at z;cases z) λg=>g _ rfl rfl rfl rfl rfl) (λ_=>PassesOwn.leaving) (λ_ n S H1 T a C ob i I V q2 q3 q4 q5 q6 q7=>?_) O,run i H Q E y⟩
 ·obtain⟨a,C,dd,u,rfl,fl,q⟩:=U;exact fl.leave (outer:=[]) I rfl rfl rfl λs3 fl=>⟨a,C,dd,u,rfl,fl,q⟩
 ·obtain⟨H2,s4,I2,n2⟩:=q2;refine zcs I ?_ V q3 q4 q5 q6 rfl rfl rfl λs3 fl=>⟨a,C,ob.dict,H1,rfl,fl,q7⟩;cases e:(gT (CXE P w base) P w K mg base b.g.N h (z08 st) f d A outer F H E).s₀.heap.get? a with
  |none=>rfl
  |some o=>obtain⟨o',G⟩:=I2.base.there a o e (by show a∉ [];simp);rw[n2]at G;cases G
theorem Ds {Z:Wc}{st:Stmt}(e:Fun K x d st f fd)(h:FnScope Γ.g.N ps (z08 st))(hs:Γ.g.sc=z08 st)(b:Γ.g.xc=none)(i:Dok Γ.g Z.Κ Z.Φ P w K mg base k)(j:∀E,Zok Γ {Z with E:=E} (CXE P w base) P w K mg base k)(c:Γ.xf=none)(kf:Γ.fld=[]\/∀X,X.prog=P->X.w=w->X.K=K->X.mg=mg->X.base=base->Wfk Γ X k)(l:wkL Γ s (z0d st)=true)
 (len:∀a H Q E,sp a H Q E->a.length=ps.length) (run:∀a H Q E,sp a H Q E->wS {Z with E:=E} s {nx:=λ_ m=>Q .aK m,rt:=Q} (start Γ.g.N a) H):
 FnOk P w K mg base (CXE P w base) (k+1) f fd ps sp:=zrh ⟨_,e.ex⟩ h hs b i j c kf l len run
end
abbrev NoB:Ad->Prop:=λ_=>False
abbrev AnyB:Ad->Prop:=λ_=>True
abbrev F0 (H:Hp):Fm:=⟨H,λ_=>True,λ_=>none,True⟩
section
variable {K:W.Frag}{H H':Hp}
theorem Rep.old (r:Rep K H B v d):Rep K H (dU (F0 H)) v d:=(Rep.there _ r).weak λa h=>by
 cases a with
 |none=>exact trivial
 |some a=>exact⟨λz=>h.2 z,trivial⟩
theorem nZ (b:f.length=j.length)(h:∀(i:Nat) (g:G) (d:D),j[i]?=some (some (g,d))->g=G.od/\∃v B,f[i]?=some (some v)/\Rep K H B v d):StOk K (F0 H) H f j where
 ext:=Same.refl H
 aN:=λ_ _=>trivial
 own:=λa i e=>by cases e
 len:=b
 sl:=λi g d e=>by obtain⟨rfl,v,B,c,r⟩:=h i g d e;exact⟨v,c,r.old⟩
structure Crt (K:W.Frag)(CC:Addr)(H:Hp)(x dx d:Addr)(kvs:List (Key×V))(es:aX):Prop where
 ins:H x=some (.ins CC dx [("aboves",.ref d)])
 dG:H d=some (.dK kvs)
 re:aS K H NoB kvs es
theorem Crt.same (c:Crt K a H x dx d kvs es)(s:Same H H'):Crt K a H' x dx d kvs es:=⟨s _ _ c.ins,s _ _ c.dG,c.re.same s λ_ z=>z⟩
theorem Crt.rep (c:Crt K a H x dx d kvs es):Rep K H AnyB (.ref d) (.dict es):=⟨d,kvs,rfl,c.dG,trivial,c.re.same (Same.refl H) λ_ z=>z.elim⟩
def q9:D->Bool
 |.str _=>true
 |_=>false
def stN (es:aX)(c:D):Bool:=q9 c&&(z0e es c).isSome
end
structure CrtK (K:W.Frag)(CC:Addr):Prop where
 cls:Cls K CC
 na:z1z K CC "aboves"
namespace Ct
abbrev AB:W:=.iB (.raw 0) "aboves"
abbrev LA:W:=.ix AB (.ix (.raw 2) (.aV (.neg (.int 1))))
def mX:WS:=.seq (.ret (.and (.aV (.kE (.var 1) ["str"])) (.cmp .In (.raw 1) AB))) .nil
def found:WS:=.seq (.bV (.yX (.not (.tp (.tv (.kE (.var 1) ["str"])))) (.tc .In (.raw 1) AB)) (.seq (.kG "NoCourt") .nil) .nil)
 (.seq (.bV (.fK (.ti true (.raw 2)) (.not (.iC (.cL (.raw 0) 0 (.cons (.raw 2) .nil))))) (.seq (.kG "NoCourt") .nil) .nil)
 (.seq (.put AB (.raw 1) (.raw 2)) .nil))
def line:WS:=.seq (.bV (.not (.iC (.cL (.raw 0) 0 (.cons (.raw 1) .nil)))) (.seq (.kG "NoCourt") .nil) .nil)
 (.seq (.asg 2 (.lst (.cons (.raw 1) .nil)))
 (.seq (.wL (.ti true LA) (.seq (.app (.raw 2) LA) .nil))
 (.seq (.ret (.raw 2)) .nil)))
def init:WS:=.seq (.fld (.raw 0) "aboves" .gC) (.seq (.bP (.tp [2,3]) (.tv (.var 1)) (.seq (.exp (.cL (.raw 0) 1 (.cons (.raw 2) (.cons (.raw 3) .nil)))) .nil)) .nil)
end Ct
section
variable {Z:Wc}{H:Hp}{x dx:Addr}{es:aX}
theorem wO (ck:CrtK Z.K CC)(c:Crt Z.K CC H x dx d kvs es)(h0:σ[0]?=some (some (.ref x)))(q:Q (.ref d) H):wE Z Ct.AB σ H Q:=⟨.ref x,h0,x,CC,dx,_,.ref d,rfl,c.ins,ck.cls,ck.na,rfl,q⟩
theorem IP {x:V}{dx:D}(a:Rep Z.K H B x dx)(c:Rep Z.K H B' y (.dict es))(hk:jH dx=true)(q:∀H',Same H H'->Q (.bl (z0e es dx).isSome) H'):jM Z.K (mB (cmpD .In)) x y H Q:=⟨B,B',dx,.dict es,.bool (z0e es dx).isSome,a,c,by show((if jH dx=true then Res.ok (z0e es dx).isSome else Res.no)>>=λb=>Res.ok (PyData.bool b))=_;rw[qt hk];rfl,λw H' s r=>by cases r;exact q H' s⟩
theorem Dt (h:q9 c=true):jH c=true:=by cases c<;>first|(cases h;done)|rfl
theorem IQ (h:a[i]?=some (some (.od,c))):aL Κ Φ (.kE (.var i) ["str"]) a=.ok (.fr,.bool (q9 c)):=by show(vh a[i]?>>=λx=>Res.ok (G.fr,PyData.bool (["str"].any λT=>lY (iO x.2) T)))=_;rw[h];cases c<;>rfl
theorem zas (ck:CrtK Z.K CC)(ct:Crt Z.K CC H x dx d kvs es)(f:Rep Z.K H B v c)(q:∀h,Same H h->j.rt (.bl (stN es c)) h):
  wS Z Ct.mX j [some (.ref x),some v] H:=by
 refine⟨[none,some (.od,c)],F0 H,_,nZ rfl λi g n e=>?_,IQ rfl,λw H1 a k=>⟨q9 c,k,?_⟩⟩
 ·rcases i with _|_|i<;>cases e;exact⟨rfl,v,B,rfl,f⟩
 ·cases b:q9 c with
  |false=>have:=q H1 a;unfold stN at this;rw[b]at this;exact this
  |true=>refine⟨v,rfl,wO ck (ct.same a) rfl (IP (f.same a λ_ z=>z) (ct.same a).rep (Dt b) λl m=>?_)⟩;have:=q l (a.trans m);unfold stN at this;rw[b]at this;exact this
def z31 (K:W.Frag)(CC:Addr):Sp:=λvs H Q _=>∃x dx d kvs es v c B,vs=[.ref x,v]/\Crt K CC H x dx d kvs es/\Rep K H B v c/\∀H',Same H H'->Q (.bl (stN es c)) H'
def uh:D->Bool
 |.none=>true
 |_=>false
def okF (es:aX)(c a:D):Bool:=q9 c&& !(z0e es c).isSome&&(uh a||stN es a)
def z6t (K:W.Frag)(CC:Addr)(mg:Str->Option Value):Sp:=λvs H Q E=>∃x dx d kvs es vc va c a B,vs=[.ref x,vc,va]/\Crt K CC H x dx d kvs es/\Rep K H B vc c/\Rep K H B va a/\es.length<au/\if okF es c a=true then ∀H' mY,(∀b o,b≠d->H b=some o->H' b=some o)->Crt K CC H' x dx d mY (es++[(c,a)])->Q .aK H' else ∀C H',mg "NoCourt"=some (.ref C)->Same H H'->E (.ref C) none H'
theorem Rep.aK {K:W.Frag}(r:Rep K H B v a):decide (v=.aK)=uh a:=by
 cases a with
 |none=>cases r;rfl
 |bool b=>cases r;rfl
 |int b=>cases r;rfl
 |str b=>obtain⟨rfl,_⟩:=r;rfl
 |tuple c=>obtain⟨_,_,rfl,_⟩:=r;rfl
 |list c=>obtain⟨_,_,rfl,_⟩:=r;rfl
 |dict c=>obtain⟨_,_,rfl,_⟩:=r;rfl
theorem aS.len {K:W.Frag}:∀{es:aX} {kvs:List (Key×V)},aS K H B kvs es->kvs.length=es.length
 | [],kvs,r=>by cases r;rfl
 |e::es,kvs,r=>by obtain⟨k,v,t,rfl,_,_,_,r⟩:=r;rw[bh,bh,aS.len r]
theorem RF (h:(z0e es k).isSome=false):dput es k v=es++[(k,v)]:=by unfold dput;rw[qu];intro z;unfold z0e at h;rw[i0,qa.mpr (List.any_eq_true.mp z)]at h;cases h
theorem Du {C:Addr}(h:Z.me[j]?=some (C,m,b)):wE Z (.cL o j a)=jG C m b [] Z.E (wE Z o) (wA Z a):=by show(match Z.me[j]? with|some r=>jG r.1 r.2.1 r.2.2 [] Z.E (wE Z o) (wA Z a)|none=>dF)=_;rw[h]
theorem zpk (hm:Z.me[0]?=some (CC,("stands":Str),z31 Z.K CC))(ct:Crt Z.K CC H x dx d kvs es)(h0:σ[0]?=some (some (.ref x)))(b:σ[i]?=some (some v))(e:Rep Z.K H B v c)(q:∀a,Same H a->Q (stN es c) a):
  wT Z (.iC (.cL (.raw 0) 0 (.cons (.raw i) .nil))) σ H Q:=by
 show Df Z.K (wE Z (.cL _ 0 _)) σ H Q;rw[Du hm];exact⟨.ref x,h0,x,dx,_,rfl,ct.ins,rfl,v,b,x,dx,d,kvs,es,v,c,B,rfl,ct,e,λa s=>⟨_,rfl,q a s⟩⟩
theorem zfc (ck:CrtK Z.K CC)(hm:Z.me[0]?=some (CC,("stands":Str),z31 Z.K CC))(ct:Crt Z.K CC H x dx d kvs es)(A:Rep Z.K H B t c)(D:Rep Z.K H B l a)(I:es.length<au)
  (q:if okF es c a=true then ∀h u,(∀b o,b≠d->H b=some o->h b=some o)->Crt Z.K CC h x dx d u (es++[(c,a)])->D0.nx [some (.ref x),some t,some l] h else ∀C h,Z.mg "NoCourt"=some (.ref C)->Same H h->Z.E (.ref C) none h):
  wS Z Ct.found D0 [some (.ref x),some t,some l] H:=by
 have bad:okF es c a=false->∀h,Same H h->∀C,Z.mg "NoCourt"=some (.ref C)->Z.E (.ref C) none h:=λF h s C e=>by rw[qu (by rw[F];decide)]at q;exact q C h e s
 refine⟨[none,some (.od,c),none],F0 H,q9 c,nZ rfl λi g O e=>?_,?_,λH1 v=>?_⟩
 ·rcases i with _|_|_|i<;>cases e;exact⟨rfl,t,B,rfl,A⟩
 ·show(aL Z.Κ Z.Φ (.kE (.var 1) ["str"]) _>>=λx=>jI x.2)=_;rw[IQ rfl];rfl
 cases m:q9 c with
 |false=>exact bad (by unfold okF;rw[m];rfl) H1 v
 |true=>
  refine⟨t,rfl,wO ck (ct.same v) rfl (IP (A.same v λ_ z=>z) (ct.same v).rep (Dt m) λG J=>⟨_,rfl,?_⟩)⟩;have f:=v.trans J;cases w:(z0e es c).isSome with
  |true=>exact bad (by unfold okF;rw[m,w];rfl) G f
  |false=>
   refine⟨l,rfl,_,rfl,?_⟩
   have y:okF es c a=true->∀n,Same H n->imm a=true->wS Z (.seq (.put Ct.AB (.raw 1) (.raw 2)) .nil) D0 [some (.ref x),some t,some l] n:=λF n p L=>by
    rw[qt F]at q;have j:=ct.same p;obtain⟨k,rfl,rfl,ok⟩:=vK (Dt m) A;refine⟨l,rfl,wO ck j rfl ⟨kV k,rfl,.inl ⟨d,_,rfl,.inl ⟨kvs,k,j.dG,rfl,by rw[aS.len j.re];exact I,rfl⟩,?_⟩⟩⟩;refine q _ (putK kvs k l) (λb o M e=>by rw[aE M];exact p b o e) ⟨?_,bI,?_⟩
    ·rw[aE]
     ·exact j.ins
     ·intro z;have:=j.ins;rw[z,j.dG]at this;cases this
    ·have r:=aS.put ok (Rep.bE a L (D.same p λ_ z=>z)) j.re;rw[RF w]at r;refine aS.keep (λb o e z=>?_) (λ_ z=>z) _ r;rw[aE]
     ·exact e
     ·rintro rfl
      rw[j.dG]at e;cases e;exact z.elim id id
   rw[show(!decide (l=V.aK))=!uh a by rw[D.aK]];cases hn:uh a with
   |true=>
    have N:a=.none:=by cases a<;>first|(cases hn;done)|rfl
    subst N;exact y (by unfold okF;rw[m,w];rfl) G f rfl
   |false=>
    refine zpk hm (ct.same f) rfl rfl (D.same f λ_ z=>z) λn p=>?_;cases hs:stN es a with
    |true=>exact y (by unfold okF;rw[m,w,hs,m8];rfl) n (f.trans p) (by unfold stN at hs;cases a<;>first|(cases hs;done)|rfl)
    |false=>exact bad (by unfold okF;rw[m,w,hn,hs];rfl) n (f.trans p)
end
def fL (es:aX):Nat->Str->List Str
 |0,s=>[s]
 |n+1,s=>match z0e es (.str s)with
  |some (.str a)=>s::fL es n a
  |_=>[s]
def aY (es:aX):Nat->Str->Bool
 |0,s=>match z0e es (.str s)with
  |some .none=>true
  |_=>false
 |n+1,s=>match z0e es (.str s)with
  |some .none=>true
  |some (.str a)=>aY es n a
  |_=>false
def z2l (K:W.Frag)(CC:Addr)(mg:Str->Option Value):Sp:=λvs H Q E=>∃x dx d kvs es v c B,vs=[.ref x,v]/\Crt K CC H x dx d kvs es/\Rep K H B v c/\if stN es c=true then ∃s n,c=.str s/\n<1000/\aY es n s=true/\∀H' p,Same H H'->H p=none->H' p=some (.lst ((fL es n s).map V.str))->Q (.ref p) H' else ∀C H',mg "NoCourt"=some (.ref C)->Same H H'->E (.ref C) none H'
theorem za {K:W.Frag}:∀{a:List Str},(∀s∈a,PyData.strOk s=true)->Reps K H B (a.map V.str) (a.map PyData.str)
 | [],_=>rfl
 |s::a,h=>⟨_,_,rfl,⟨rfl,h s bj⟩,za λt b=>h t (ay _ b)⟩
theorem RG:gW (.list ((a++[s]).map PyData.str)) (.int (-1))=.ok (.str s):=by
 show Res.eJ (cF ((a++[s]).map PyData.str) (-1))=_
 have:cF ((a++[s]).map PyData.str) (-1)=some (.str s):=by
  unfold cF iL;rw[qu dc,qt (by grind)];have e:((-1:Int)+((qr PyData.str (a++[s])).length:Int)).toNat=a.length:=by simp;omega
  rw[e];simp
 rw[this];rfl
theorem zkg (ck:CrtK Z.K CC)(ct:Crt Z.K CC H x dx d kvs es)(h0:σ[0]?=some (some (.ref x)))(h:σ[2]?=some (some (.ref p)))(j:H p=some (.lst ((f++[s]).map V.str)))(k:∀t∈f++[s],PyData.strOk t=true)(e:z0e es (.str s)=some w)(l:imm w=true)
  (q:∀a v,Same H a->Rep Z.K a NoB v w->Q v a):wE Z Ct.LA σ H Q:=by
 refine wO (Q:=λx H1=>(jE (iS Z.K) (rD 2) (wE Z (.aV (.neg (.int 1))))) σ H1 λy m=>iS Z.K x y m Q) ck ct h0 ⟨.ref p,h,ao σ.length none,F0 H,(.fr,.int (-1)),nZ (by rw[bw]) λi g r e=>?_,rfl,λu H1 b c=>?_⟩
 ·rw[cc]at e;split at e<;>cases e
 ·cases c;refine⟨AnyB,AnyB,.list ((f++[s]).map PyData.str),.int (-1),.str s,⟨p,_,rfl,.inl ⟨b _ _ j,trivial⟩,za k⟩,rfl,RG,λz c=>?_⟩;refine⟨AnyB,AnyB,.dict es,.str s,w,(ct.same b).rep,c,?_,λn o=>q H1 n b (Rep.bE w l o)⟩
  ·show(if jH (PyData.str s)=true then Res.eJ (z0e es (.str s))else .no)=_;rw[e];rfl
theorem zi6 (ck:CrtK Z.K CC)(hm:Z.me[0]?=some (CC,("stands":Str),z31 Z.K CC))(ct:Crt Z.K CC H x dx d kvs es)(S:Rep Z.K H B v c)
  (q:if stN es c=true then ∃s n,c=.str s/\n<1000/\aY es n s=true/\∀f p,Same H f->H p=none->f p=some (.lst ((fL es n s).map V.str))->D0.rt (.ref p) f else ∀C f,Z.mg "NoCourt"=some (.ref C)->Same H f->Z.E (.ref C) none f):
  wS Z Ct.line D0 [some (.ref x),some v,none] H:=by
 refine zpk hm ct rfl rfl S λH1 D=>?_;cases hs:stN es c with
 |false=>rw[qu (by rw[hs];decide)]at q;exact λC e=>q C H1 e D
 |true=>
  rw[qt hs]at q;obtain⟨s,n,rfl,hn,he,q⟩:=q;obtain⟨rfl,hok⟩:=S;refine⟨.str s,rfl,(c8▸(by decide:1<=16777216):[V.str s].length<=au),λp L=>?_⟩;have G:=D.none L
  let T:=fL es n s
  let W:Nat->L2.St->Hp->Prop:=λm I f=>I=[some (.ref x),some (.str s),some (.ref p)]/\∃F t,(∀b o,b≠p->H1 b=some o->f b=some o)/\f p=some (.lst ((F++[t]).map V.str))/\(∀u∈F++[t],PyData.strOk u=true)/\aY es m t=true/\T=F++fL es m t/\F.length+m<=n
  have bW:∀f,(∀b o,b≠p->H1 b=some o->f b=some o)->Crt Z.K CC f x dx d kvs es:=λf k=>by
   have c1:=ct.same D;refine⟨k _ _ (Ne.symm (by rintro rfl;have:=(ct.same D).ins;rw[L]at this;cases this)) c1.ins,k _ _ (Ne.symm (by rintro rfl;have:=(ct.same D).dG;rw[L]at this;cases this)) c1.dG,aS.keep (λb o e z=>k b o ?_ e) (λ_ z=>z) _ c1.re⟩
   rintro rfl
   rw[L]at e;cases e
  refine⟨W,⟨n,rfl,[],s,λb o M e=>by rw[aE M];exact e,bI,λu hu=>by rw[bu.mp hu];exact hok,he,rfl,by simp⟩,?_⟩
  rintro m I f ⟨rfl,F,t,O,h,j,g,U,X⟩
  have P:=bW f O;have big:au>3000:=by rw[c8];decide
  have look:(z0e es (.str t)=some .none/\fL es m t=[t])\/∃a i,m=i+1/\z0e es (.str t)=some (.str a)/\aY es i a=true/\fL es m t=t::fL es i a:=by
   cases m with
   |zero=>
    unfold aY at g;split at g
    ·rename_i e9;exact .inl ⟨e9,rfl⟩
    ·cases g
   |succ i=>
    unfold aY at g;split at g
    ·rename_i e;refine .inl ⟨e,?_⟩;show(match z0e es (.str t)with|some (.str a)=>t::fL es i a|_=>[t])=_;rw[e]
    ·rename_i a e;refine .inr ⟨a,i,rfl,e,g,?_⟩;show(match z0e es (.str t)with|some (.str a)=>t::fL es i a|_=>[t])=_;rw[e]
    ·cases g
  rcases look with⟨N,y⟩|⟨a,i,rfl,N,Q,y⟩
  ·refine zkg ck P rfl rfl h j N rfl λA v l R=>⟨_,rfl,?_⟩;cases R;refine⟨.ref p,rfl,q A p (λb o e=>?_) G ?_⟩
   ·refine l b o (O b o ?_ (D b o e))
    rintro rfl;rw[G]at e;cases e
   ·show A p=some (.lst (T.map V.str));rw[U,y];exact l _ _ h
  ·have Vh:∀A,Same f A->∀v,Rep Z.K A NoB v (.str a)->v=.str a/\PyData.strOk a=true:=λA l v r=>r;refine zkg ck P rfl rfl h j N rfl λA v l R=>⟨_,rfl,?_⟩;obtain⟨rfl,J⟩:=R;refine⟨W i,λRH y8 w=>⟨i,i9 _,w⟩,?_⟩;refine⟨.ref p,rfl,?_,?_⟩
   ·exact .inl ⟨rfl,_,.inl (.inl (l _ _ h))⟩
   ·refine zkg ck (P.same l) rfl rfl (l _ _ h) j N rfl λH3 v s3 r3=>?_;obtain⟨rfl,_⟩:=r3;refine⟨p,_,.str a,rfl,rfl,s3 _ _ (l _ _ h),?_,rfl,F++[t],a,λb o M e=>?_,?_,λu hu=>?_,Q,?_,?_⟩
    ·simp;omega
    ·rw[aE M];exact s3 b o (l b o (O b o M e))
    ·rw[bI];simp
    ·rcases cz.mp hu with hu|hu
     ·exact j u hu
     ·rw[bu.mp hu];exact J
    ·rw[U,y];simp
    ·simp;omega
def z0h:aX->List D->Option aX
 |es,[]=>some es
 |es,p::ps=>match p with
  |.tuple [c,a]=>if okF es c a then z0h (es++[(c,a)]) ps else none
  |_=>none
def isPr:D->Bool
 |.tuple [_,_]=>true
 |_=>false
def sX (K:W.Frag)(CC:Addr)(mg:Str->Option Value)(H:Hp)(x dx:Addr)(ps:List D)(Q:Hp->Prop)(E:XK):Prop:=
 match z0h [] ps with
 |some es=>∀H' d kvs,H d=none->(∀b o,b≠x->H b=some o->H' b=some o)->Crt K CC H' x dx d kvs es->Q H'
 |none=>∀C H',mg "NoCourt"=some (.ref C)->(∀b o,b≠x->H b=some o->H' b=some o)->E (.ref C) none H'
def z9g (K:W.Frag)(CC:Addr)(mg:Str->Option Value):Sp:=λvs H Q E=>∃x dx vp ps B,vs=[.ref x,vp]/\H x=some (.ins CC dx [])/\Rep K H B vp (.list ps)/\imms ps=true/\(ps.all isPr)=true/\ps.length<1000/\sX K CC mg H x dx ps (λH'=>Q .aK H') E
theorem zhx (ck:CrtK Z.K CC)(hm:Z.me[1]?=some (CC,("found":Str),z6t Z.K CC Z.mg))(F:H x=some (.ins CC dx []))(rp:Rep Z.K H B vp (.list ps))(hi:imms ps=true)(hpr:(ps.all isPr)=true)(hz:ps.length<1000)
  (q:sX Z.K CC Z.mg H x dx ps (λu=>∀r,D0.nx r u) Z.E):wS Z Ct.init D0 [some (.ref x),some vp,none,none] H:=by
 refine λd hd=>?_;have N:d≠x:=by rintro rfl;rw[hd]at F;cases F
 refine⟨.ref x,rfl,x,CC,dx,[],rfl,(aE (Ne.symm N)▸F),ck.cls,ck.na,by decide,?_⟩
 let H1:Hp:=upd (upd H d (.dK [])) x (.ins CC dx [("aboves",.ref d)])
 have O:∀b o,b≠x->H b=some o->H1 b=some o:=λb o L e=>by
  have:b≠d:=by rintro rfl;rw[hd]at e;cases e
  show upd _ _ _ _=_;rw[aE L,aE this];exact e
 have c1:Crt Z.K CC H1 x dx d [] []:=⟨bI,by show upd _ _ _ _=_;rw[aE N,bI],rfl⟩
 let P:Fm:=⟨λb=>if b=d\/b=x then none else H1 b,λ_=>True,λ_=>none,True⟩
 obtain⟨l,vs,rfl,s,rs⟩:=rp;have Q:∀b,b≠d->b≠x->∀o,H1 b=some o->dU P (some b):=λb h1 h2 o e=>by refine⟨?_,trivial⟩;show(if b=d\/b=x then none else H1 b)≠none;rw[qu (λz=>z.elim h1 h2),e];intro z;cases z
 have rl:Rep Z.K H1 (dU P) (.ref l) (.list ps):=by
  have R:Reps Z.K H1 (dU P) vs ps:=Reps.iQ (λa o e f=>O a o (by rintro rfl;rw[F]at e;cases e;exact f) e) ps hi rs;rcases s with⟨s,_⟩|⟨s,_⟩
  ·have A:l≠x:=by rintro rfl;rw[s]at F;cases F
   exact⟨l,vs,rfl,.inl ⟨O l _ A s,Q l (by rintro rfl;rw[s]at hd;cases hd) A _ (O l _ A s)⟩,R⟩
  ·refine⟨l,vs,rfl,.inr ⟨?_,trivial⟩,R⟩;rcases s with⟨o,s⟩|s
   ·have A:l≠x:=by rintro rfl;rw[s]at F;cases F
    exact .inl ⟨o,O l _ A s⟩
   ·exact .inr s
 have yB:StOk Z.K P H1 [some (.ref x),some (.ref l),none,none] [none,some (.od,.list ps),none,none]:=by
  refine⟨λa o e=>?_,λ_ _=>trivial,λa i e=>(by cases e),rfl,λi g d' e=>?_⟩
  ·have e:(if a=d\/a=x then none else H1 a)=some o:=e;split at e
   ·cases e
   ·exact e
  ·rcases i with _|_|_|_|i<;>cases e;exact⟨_,rfl,rl⟩
 refine⟨_,P,(.od,ps),yB,rfl,λJ B' H2 s2 hB wk=>?_⟩
 have kp:∀{t:Hp},(∀b o,b≠d->H2 b=some o->t b=some o)->Kp B' H2 t:=λ{t} k b o e z=>k b o (by
  rintro rfl
  rcases z with z|z
  ·exact(hB _ z).1.1 (by show(if b=b\/b=x then none else H1 b)=none;rw[qt (.inl rfl)])
  ·have :=s2 _ _ c1.dG;rw[e]at this;cases this;exact z) e
 let W:Nat->Nat->L2.St->Hp->Prop:=λi m r u=>m=ps.length-i/\i<=ps.length/\r.length=4/\r[0]?=some (some (.ref x))/\(∀b o,b≠d->H2 b=some o->u b=some o)/\∃kvs es,Crt Z.K CC u x dx d kvs es/\es.length=i/\z0h es (ps.drop i)=z0h [] ps
 refine⟨W,⟨_,rfl,db _,rfl,rfl,λ_ _ _ e=>e,[],[],c1.same s2,rfl,rfl⟩,?_⟩
 rintro i m r u ⟨rfl,BS,S,RI,T,kvs,es,ct,RJ,n⟩
 have G:∀t,Same u t->∀b o,b≠x->H b=some o->t b=some o:=λt M b o L e=>M b o (T b o (by rintro rfl;rw[hd]at e;cases e) (s2 b o (O b o L e)));by_cases D:i<ps.length
 ·refine .inr ⟨wk.go u (kp T) i D,W (i+1) (ps.length-(i+1)),λx9 t w=>⟨_,by omega,w⟩,λy t hy=>?_⟩;obtain⟨M,p,hp,ry⟩:=wk.gO u (kp T) i y t D hy;have BU:ps.drop i=p::ps.drop (i+1):=by rw[ja D];rw[ah D]at hp;cases hp;rfl
  have I:=b6.mp hpr p (aw hp)
  obtain⟨c,a,rfl⟩:∃c a,p=.tuple [c,a]:=by
   unfold isPr at I;split at I
   ·exact⟨_,_,rfl⟩
   ·cases I
  refine⟨ao 4 none,F0 t,(.od,.tuple [c,a]),[none,none,some (z1d (gJ c .od,c)),some (z1d (gJ a .od,a))],nZ (by rw[S,bw]) λj g d' e=>?_,ry.old,rfl,λRK F3 U V=>?_⟩
  ·rw[cc]at e;split at e<;>cases e
  have sl:∀j e,([none,none,some (z1d (gJ c .od,c)),some (z1d (gJ a .od,a))]:Rho)[j]?=some (some (z1d (gJ e .od,e)))->∃v,RK[j]?=some (some v)/\Rep Z.K t AnyB v e:=λj e h=>by
   have h9:∀g,z1d (g,e)=(.od,e)\/z1d (g,e)=(.al,e):=λg=>by cases g<;>first|exact .inl rfl|exact .inr rfl
   rcases h9 (gJ e .od)with h8|h8
   ·rw[h8]at h;obtain⟨v,e1,r1⟩:=U.sl j _ _ h;exact⟨v,e1,Rep.weak (λ_ _=>trivial) r1⟩
   ·rw[h8]at h;obtain⟨v,e1,r1⟩:=U.sl j _ _ h;exact⟨v,e1,Rep.weak (λ_ _=>trivial) r1⟩
  obtain⟨vc,RL,rc⟩:=sl 2 c rfl;obtain⟨va,RM,ra⟩:=sl 3 a rfl;have X:=(V.rest 0 dc).trans RI;rw[BU]at n;have n:(if okF es c a=true then z0h (es++[(c,a)]) (ps.drop (i+1))else none)=z0h [] ps:=n;show wE Z (.cL _ 1 _) _ _ _;rw[Du hm];have big:au>3000:=by rw[c8];decide
  refine⟨.ref x,X,x,dx,_,rfl,(ct.same M).ins,rfl,vc,RL,va,RM,x,dx,d,kvs,es,vc,va,c,a,AnyB,rfl,ct.same M,rc,ra,by omega,?_⟩;by_cases ho:okF es c a=true
  ·rw[qt ho]at n ⊢;intro H4 Y k4 RN;exact⟨rfl,D,V.len.trans S,X,λb o L e=>k4 b o L (M b o (T b o L e)),Y,_,RN,by rw[bf,RJ];rfl,n⟩
  ·rw[qu ho]at n ⊢;intro C H4 hC s4;unfold sX at q;rw[<-n]at q;exact q C H4 hC (G H4 (M.trans s4))
 ·have sG:i=ps.length:=by omega
  subst sG;refine .inl ⟨wk.stop u (kp T),?_⟩;rw[l9]at n;unfold sX at q;rw[<-n]at q;exact q u d kvs hd (G u (Same.refl _)) ct r
structure kU where
 c:Str
 f:List Str
 ms:List (Str×Stmt)
def rg (K:W.Frag)(C:Addr)(c:Str)(m:Str×Stmt):Option (dt×Bool):=match W.findIn K (.ref C) m.1 with
 |some (some (.ref p))=>(match K.lookup p with
  |some ⟨_,_,.func fd,_⟩=>some (fd,W.codeIn K fd.code (c++"."++m.1)&&W.keepIn K (.ref p)&&W.isFn K (.ref p))
  |_=>none)
 |_=>none
def IS (c:Str)(m:Str×Stmt)(x:dt×Bool):dt×Bool:=(W.fnOf m.1 (c++"."++m.1) (z0j m.2) (z0d m.2) (z08 m.2) .none x.1.kwdefaults x.1.doc x.1.pyModule x.1.annotations x.1.code x.1.closureTuple,true)
def zb (K:W.Frag)(r:kU):Option (List Bool×Option (Option Value)×List (Option (Option Value))×List Bool×List (Option (dt×Bool))):=match W.nsIn K bo r.c with
 |some (some (.ref C))=>some ([W.plainGet K C Str.empty,W.hasDictIn K C,W.plainOver K C,W.makesIn K C,W.keepIn K (.ref C)],W.findIn K (.ref C) "__setattr__",r.f.map (λf=>W.findIn K (.ref C) f),r.ms.map (λm=>(rg K C r.c m).isSome),r.ms.map λm=>rg K C r.c m)
 |_=>none
def IT (K:W.Frag)(r:kU):Option (List Bool×Option (Option Value)×List (Option (Option Value))×List Bool×List (Option (dt×Bool))):=match W.nsIn K bo r.c with
 |some (some (.ref C))=>some ([true,true,true,true,true],some (some (.builtin "object.__setattr__")),r.f.map (λ_=>some none),r.ms.map (λ_=>true),r.ms.map λm=>(rg K C r.c m).map (IS r.c m))
 |_=>none
def KCq (K:d9->W.Frag)(r:kU):Prop:=∀P,((zb (K P) r).isSome,zb (K P) r)=(true,IT (K P) r)
theorem KCq_r:KCq=KCq:=rfl
structure ClsAt (K:W.Frag)(r:kU)(C:Addr):Prop where
 ns:W.nsIn K bo r.c=some (some (.ref C))
 cls:Cls K C
 na:∀f∈r.f,z1z K C f
 IU:W.makesIn K C=true
 kp:W.keepIn K (.ref C)=true
 ms:∀m∈r.ms,∃f fd,Fun K m.1 (r.c++"."++m.1) m.2 f fd/\Meth K C m.1 f
theorem RO {K:W.Frag}{C:Addr}(h:(rg K C c m).isSome=true)(e:rg K C c m=(rg K C c m).map (IS c m)):∃f fd,Fun K m.1 (c++"."++m.1) m.2 f fd/\Meth K C m.1 f:=by
 cases z:rg K C c m with
 |none=>rw[z]at h;cases h
 |some x=>
  rw[z]at e;have e:=qv e;unfold rg at z;split at z
  ·rename_i f hf;split at z
   ·rename_i oc od fd sl g;have z:=qv z;have i:=congrArg mh z;have b:=congrArg qq z;have j:=congrArg mh e;have k:=congrArg qq e;rw[k]at b;obtain⟨a,l⟩:=ar.mp b;obtain⟨a,d⟩:=ar.mp a;subst i;exact⟨f,x.1,⟨⟨oc,od,x.1.kwdefaults,x.1.doc,x.1.pyModule,x.1.annotations,x.1.code,x.1.closureTuple,sl,j,g,a⟩,d⟩,⟨hf,l,d⟩⟩
   ·cases z
  ·cases z
theorem IV {K:d9->W.Frag}(h:KCq K r)(P:d9):∃C,ClsAt (K P) r C:=by
 obtain⟨b,c⟩:=qw (h P);unfold zb IT at c;unfold zb at b;split at c
 ·rename_i C i;obtain⟨a,d⟩:=qw (qv c);obtain⟨d,e⟩:=qw d;obtain⟨e,g⟩:=qw e;obtain⟨g,j⟩:=qw g;obtain⟨k,a⟩:=List.cons.inj a;obtain⟨l,a⟩:=List.cons.inj a;obtain⟨n,a⟩:=List.cons.inj a;obtain⟨o,a⟩:=List.cons.inj a;obtain⟨p,_⟩:=List.cons.inj a;exact⟨C,i,⟨k,l,n,d⟩,λf hf=>cy.mp e f hf,o,p,λm hm=>RO (cy.mp g m hm) (cy.mp j m hm)⟩
 ·rename_i hn;split at b
  ·rename_i C i;simp_all
  ·cases b
end Mi
name_quick tkcq for Mi.KCq by Mi.KCq_r
namespace Mi
open PySem PySem.Spec PyProof.Rows L2
structure mZ where
 c:Str
 fl:Str
 B:Str
 cs:List (Str×Bool)
 st:Stmt
abbrev XD:=List Bool×List (Option (Option Value))×List (Option Bool)×List (Option (Bool×Option Value×Option Bool))×dt
def IW (K:W.Frag)(A:Addr)(y:Str×Bool):Option (Bool×Option Value×Option Bool):=match W.nsIn K bo y.1 with
 |some (some (.ref E))=>some ((W.clsIn K E).isSome,W.typeIn K (.ref E),W.subIn K (.ref A) (.ref E))
 |_=>none
def rh (K:W.Frag)(r:mZ):Option XD:=match W.nsIn K bo r.c,W.nsIn K bo r.B with
 |some (some (.ref A)),some (some (.ref D))=>(match K.lookup A with
  |some ⟨.type "type",_,.cls cd,_⟩=>(match W.nsIn K cd.ns "__init__"with
   |some (some (.ref f))=>(match K.lookup f with
    |some ⟨_,_,.func fd,_⟩=>some ([fD K A,cd.hasDict,W.isFn K (.ref f),W.codeIn K fd.code (r.c++"."++"__init__"),fD K D,(W.clsIn K A).isSome,W.keepIn K (.ref f)],
     [W.findIn K (.ref A) "__setattr__",W.findIn K (.ref A) r.fl,W.findIn K (.ref A) "__getattribute__",W.findIn K (.ref A) "__getattr__",W.findIn K (.ref A) "__class__"],
     [W.subIn K (.ref A) (.type "object"),W.subIn K (.ref A) (.type "BaseException"),W.subIn K (.ref A) (.type "ValueError"),W.subIn K (.ref A) (.ref D)],r.cs.map (IW K A),fd)
    |_=>none)
   |_=>none)
  |_=>none)
 |_,_=>none
def IX (r:mZ)(x:XD):XD:=([true,true,true,true,true,true,true],[some (some (.builtin "object.__setattr__")),some none,some (some (.builtin "BaseException.__getattribute__")),some none,some (some (.builtin "object.__class__"))],[some true,some true,some true,some true],r.cs.map (λy=>some (true,some (.type "type"),some y.2)),W.fnOf "__init__" (r.c++"."++"__init__") (z0j r.st) (z0d r.st) (z08 r.st) .none x.2.2.2.2.kwdefaults x.2.2.2.2.doc x.2.2.2.2.pyModule x.2.2.2.2.annotations x.2.2.2.2.code x.2.2.2.2.closureTuple)
def IY (K:W.Frag)(g:Str×Int):Option Int:=match W.nsIn K bo g.1 with
 |some (some (.int n _))=>some n
 |_=>none
def KXq (K:d9->W.Frag)(rs:List mZ)(gs:List (Str×Int)):Prop:=∀P,(rs.map (λr=>(rh (K P) r).isSome),rs.map (λr=>rh (K P) r),gs.map (IY (K P)))=(rs.map (λ_=>true),rs.map (λr=>(rh (K P) r).map (IX r)),gs.map λg=>some g.2)
theorem KXq_r:KXq=KXq:=rfl
structure XAt (K:W.Frag)(r:mZ)(A D f:Addr)(fd:dt):Prop where
 ns:W.nsIn K bo r.c=some (some (.ref A))
 nb:W.nsIn K bo r.B=some (some (.ref D))
 xf:XF K A r.fl
 xa:XA K A
 xi:XI K A f
 fu:Fun K "__init__" (r.c++"."++"__init__") r.st f fd
 ed:fD K D=true
 sd:W.subIn K (.ref A) (.ref D)=some true
 sv:W.subIn K (.ref A) (.type "ValueError")=some true
 cs:∀y∈r.cs,∃E,W.nsIn K bo y.1=some (some (.ref E))/\(W.clsIn K E).isSome=true/\W.typeIn K (.ref E)=some (.type "type")/\W.subIn K (.ref A) (.ref E)=some y.2
theorem RP {K:W.Frag}(h:(rh K r).isSome=true)(e:rh K r=(rh K r).map (IX r)):∃A D f fd,XAt K r A D f fd:=by
 cases z:rh K r with
 |none=>rw[z]at h;cases h
 |some x=>
  rw[z]at e;have e:=qv e;unfold rh at z;split at z
  ·rename_i A D t u;split at z
   ·rename_i dd cd sl d;split at z
    ·rename_i f hf;split at z
     ·rename_i oc od fd g i;have z:=qv z;rw[<-z]at e;obtain⟨a,e⟩:=qw e;obtain⟨b,e⟩:=qw e;obtain⟨c,e⟩:=qw e;obtain⟨v,w⟩:=qw e;obtain⟨m,a⟩:=List.cons.inj a;obtain⟨B,a⟩:=List.cons.inj a;obtain⟨C,a⟩:=List.cons.inj a;obtain⟨F,a⟩:=List.cons.inj a;obtain⟨G,a⟩:=List.cons.inj a;obtain⟨H,a⟩:=List.cons.inj a;obtain⟨I,_⟩:=List.cons.inj a;obtain⟨J,b⟩:=List.cons.inj b;obtain⟨L,b⟩:=List.cons.inj b;obtain⟨n,b⟩:=List.cons.inj b;obtain⟨o,b⟩:=List.cons.inj b;obtain⟨M,_⟩:=List.cons.inj b;obtain⟨p,c⟩:=List.cons.inj c;obtain⟨s,c⟩:=List.cons.inj c;obtain⟨N,c⟩:=List.cons.inj c;obtain⟨O,_⟩:=List.cons.inj c;refine⟨A,D,f,fd,t,u,⟨m,λj k l q=>by rw[d]at q;cases q;exact B,J,L,n,o,p,s⟩,⟨M,n,o,p,s,?_,H,m⟩,⟨λj k l q=>by rw[d]at q;cases q;exact hf,C⟩,⟨⟨oc,od,fd.kwdefaults,fd.doc,fd.pyModule,fd.annotations,fd.code,fd.closureTuple,g,w,i,F⟩,I⟩,G,O,N,λy P=>?_⟩
      ·show(K.lookup A).map (·.cls)=_;rw[d];rfl
      ·have q:=cy.mp v y P;unfold IW at q;split at q
       ·rename_i E Q;obtain⟨R,q⟩:=qw (qv q);obtain⟨S,T⟩:=qw q;exact⟨E,Q,R,S,T⟩
       ·cases q
     ·cases z
    ·cases z
   ·cases z
  ·cases z
theorem RQ {K:d9->W.Frag}(h:KXq K rs j)(P:d9):(∀r∈rs,∃A D f fd,XAt (K P) r A D f fd)/\∀g∈j,∃t,W.nsIn (K P) bo g.1=some (some (.int g.2 t)):=by
 obtain⟨c,a⟩:=qw (h P);obtain⟨a,d⟩:=qw a;refine⟨λr b=>RP (cy.mp c r b) (cy.mp a r b),λg i=>?_⟩;have q:=cy.mp d g i;unfold IY at q;split at q
 ·rename_i n t e;cases q;exact⟨t,e⟩
 ·cases q
end Mi
name_quick tkxq for Mi.KXq by Mi.KXq_r
namespace Mi
open PySem PySem.Spec PyProof.Rows L2
def ri (K:W.Frag)(c:Str)(m:Str×Stmt):Option (dt×Bool×List Value):=match W.nsIn K bo c with
 |some (some (.ref C))=>(match W.findIn K (.ref C) m.1 with
  |some (some (.ref p))=>(match K.lookup p with
   |some ⟨_,_,.func fd,_⟩=>(match fd.defaults with
    |.ref T=>(match K.lookup T with
     |some ⟨_,_,.seq items _,_⟩=>some (fd,W.codeIn K fd.code (c++"."++m.1)&&W.keepIn K (.ref p)&&W.isFn K (.ref p),items.toList)
     |_=>none)
    |_=>none)
   |_=>none)
  |_=>none)
 |_=>none
def Dv (c:Str)(m:Str×Stmt)(x:dt×Bool×List Value):dt×Bool×List Value:=(W.fnOf m.1 (c++"."++m.1) (z0j m.2) (z0d m.2) (z08 m.2) x.1.defaults x.1.kwdefaults x.1.doc x.1.pyModule x.1.annotations x.1.code x.1.closureTuple,true,[.none])
def KDq (K:d9->W.Frag)(c:Str)(ms:List (Str×Stmt)):Prop:=∀P,(ms.map (λm=>(ri (K P) c m).isSome),ms.map (λm=>ri (K P) c m))=(ms.map (λ_=>true),ms.map λm=>(ri (K P) c m).map (Dv c m))
theorem KDq_r:KDq=KDq:=rfl
structure FunD (K:W.Frag)(x qual:Str)(st:Stmt)(T f:Addr)(fd:dt):Prop where
 ex:∃(oc:Value) (od:Option Addr) (kV doc pm:Value) (an:Option Addr) (rV ct:Value) (u7:Array (Option Value)),fd=W.fnOf x qual (z0j st) (z0d st) (z08 st) (.ref T) kV doc pm an rV ct/\K.lookup f=some ⟨oc,od,.func fd,u7⟩/\W.codeIn K rV qual=true
 kp:W.keepIn K (.ref f)=true
 df:∃oc od n u7,K.lookup T=some ⟨oc,od,.seq #[.none] n,u7⟩
theorem RS {K:W.Frag}{C:Addr}(q:W.nsIn K bo c=some (some (.ref C)))(h:(ri K c m).isSome=true)(e:ri K c m=(ri K c m).map (Dv c m)):∃T f fd,FunD K m.1 (c++"."++m.1) m.2 T f fd/\Meth K C m.1 f:=by
 cases z:ri K c m with
 |none=>rw[z]at h;cases h
 |some x=>
  rw[z]at e;have e:=qv e;unfold ri at z;rw[q]at z
  dsimp only at z
  split at z
  ·rename_i f hf;split at z
   ·rename_i oc od fd sl r;split at z
    ·rename_i T s;split at z
     ·rename_i a b items n d g;have z:=qv z;have t:=congrArg mh z;have k:=congrArg (·.2.1) z;have o:=congrArg (·.2.2) z;have i:=congrArg mh e;have u:=congrArg (·.2.1) e;have v:=congrArg (·.2.2) e;rw[u]at k;rw[v]at o;obtain⟨j,w⟩:=ar.mp k;obtain⟨j,p⟩:=ar.mp j;subst t
      have y:items=#[.none]:=by
       cases items with
       |mk l=>cases o;rfl
      subst y;unfold Dv at i;rw[s]at i;exact⟨T,f,x.1,⟨⟨oc,od,x.1.kwdefaults,x.1.doc,x.1.pyModule,x.1.annotations,x.1.code,x.1.closureTuple,sl,i,r,j⟩,p,⟨a,b,n,d,g⟩⟩,⟨hf,w,p⟩⟩
     ·cases z
    ·cases z
   ·cases z
  ·cases z
theorem RT {K:d9->W.Frag}(h:KDq K c ms)(P:d9){C:Addr}(a:W.nsIn (K P) bo c=some (some (.ref C))):∀m∈ms,∃T f fd,FunD (K P) m.1 (c++"."++m.1) m.2 T f fd/\Meth (K P) C m.1 f:=λm hm=>by obtain⟨b,d⟩:=qw (h P);exact RS a (cy.mp b m hm) (cy.mp d m hm)
section
variable {K:W.Frag}{x qual:Str}{st:Stmt}{T f:Addr}{fd:dt}{ps:List Str}
theorem FunD.binds (F:FunD K x qual st T f fd)
  (h:∀kV a d an b ct c,c.length+1=ps.length->∃k,kb (W.fnOf x qual (z0j st) (z0d st) (z08 st) (.ref T) kV a d an b ct) ⟨c,[]⟩=oh (.ref T)>>=k/\k (some #[.none])=pure (ps.zip (c++[.none]))):Binds K fd ps [.none]:=λs c g i=>by
 obtain⟨oc,od,kV,a,d,an,b,ct,j,rfl,t,l⟩:=F.ex;obtain⟨m,o,n,e,p⟩:=F.df;obtain⟨k,q,r⟩:=h kV a d an b ct c (by rw[<-i,bf];rfl);exact W.binds_K g rfl p rfl q r
theorem FunD.kbinds (F:FunD K x qual st T f fd)(m:ps≠[])
  (h:∀kV c i an d ct e w,e.length+1=ps.length->∃k,kb (W.fnOf x qual (z0j st) (z0d st) (z08 st) (.ref T) kV c i an d ct) ⟨e,[(o,w)]⟩=oh (.ref T)>>=k/\k (some #[.none])=pure (ps.zip (e++[w]))):KBinds K fd ps [o] kwG kwG where
 to:=λs e j p g=>by
  obtain⟨oc,od,kV,c,i,an,d,ct,q,rfl,E,v⟩:=F.ex;have no:([]:List Value).length=ps.length->False:=λz=>m (fg.mp z.symm)
  match j,g with
  | [],g=>exact(no g).elim
  | [w],g=>obtain⟨y,A,n,l,B⟩:=F.df;obtain⟨k,C,D⟩:=h kV c i an d ct e w (by rw[<-g];show _=(e++[w]).length;rw[bf];rfl);exact W.binds_K p rfl B rfl C D
  |_::_::_,g=>exact(no g).elim
 rel:=λ{G e H j} r rz=>by
  cases rz with
  |nil=>exact .nil
  |cons a t=>
   cases t with
   |nil=>exact r.append (.cons a .nil)
   |cons b u=>exact .nil
end
end Mi
name_quick tkdq for Mi.KDq by Mi.KDq_r
namespace Mi
open PySem PySem.Spec PyProof.Rows L2
section
variable {K:W.Frag}
theorem Reps.Dw (h:H l=some (.lst d))(r:Reps K H NoB b c):Reps K (upd H l (.lst f)) NoB b c:=
 Reps.keep (λa o e z=>by
  rw[aE]
  ·exact e
  ·rintro rfl
   rw[h]at e;cases e;exact z.elim id id) (λ_ z=>z) _ r
theorem zh2 {H:Type}{L:List H}{e:H->D}{p:H->Bool}{f:H->D}{g:TG}{tc:TT}{te:TE}{I:L2.St->L2.St}{Q:VK}(O:Walk K J B H1 (L.map e))
  (one:∀a∈L,∀v r (N:Hp->Prop) M,Same H1 r->Rep K r B v (e a)->(p a=false->∀h,Same r h->N h)->(p a=true->∀y h,Same r h->Rep K h NoB y (f a)->M y h)->g v (I σ) r λj R=>fH (I σ) j/\tc j R λb E=>if b=true then te j E M else N E)
  (q:∀l Y h,H1 l=none->Same H1 h->h l=some (.lst Y)->Reps K h NoB Y ((L.filter p).map f)->Q (.ref l) h):
  ∀l,H1 l=none->∃P:Nat->Nat->List V->Hp->Prop,(∃m,P 0 m [] (upd H1 l (.lst [])))/\∀i m c n,P i m c n->(J.stop i n/\Q (.ref l) n)\/(J.go i n/\c.length<au/\∃N:List V->Hp->Prop,(∀s h,N s h->∃Z,Z<m/\P (i+1) Z s h)/\∀x r,J.gO i n x r->g x (I σ) r λj R=>fH (I σ) j/\tc j R λb E=>if b=true then te j E λy H6=>H6 l=some (.lst c)/\N (c++[y]) (upd H6 l (.lst (c++[y])))else N c E):=by
 intro l S
 let P:Nat->Nat->List V->Hp->Prop:=λi m c n=>m=L.length-i/\i<=L.length/\Same H1 n/\n l=some (.lst c)/\Reps K n NoB c (((L.take i).filter p).map f)
 refine⟨P,⟨_,rfl,db _,Same.upd S,bI,rfl⟩,?_⟩
 rintro i m c n ⟨rfl,hi,u,t,F⟩
 have T:(L.map e).length=L.length:=am ..;by_cases k:i<L.length
 ·have U:c.length<au:=by
   have h1:=F.length;have h2:=O.len;rw[am]at h1;have h3:=et p (L.take i);rw[c9]at h3;omega
  have tk:L.take (i+1)=L.take i++[L[i]]:=by rw[lh,ah k];rfl
  refine .inr ⟨O.go n (Kp.of u) i (T▸k),U,P (i+1) (L.length-(i+1)),λs h w=>⟨_,by omega,w⟩,λx r hy=>?_⟩;obtain⟨A,d,hd,rx⟩:=O.gO n (Kp.of u) i x r (T▸k) hy;rw[av,ah k]at hd;cases hd;refine one L[i] (eh k) x r _ _ (u.trans A) rx (λW h C=>?_) λW y h C ry=>?_
  ·refine⟨rfl,k,u.trans (A.trans C),C _ _ (A _ _ t),?_⟩;rw[tk,pe,mj (by rw[W];decide),List.filter_nil,dz];exact F.same (A.trans C) λ_ z=>z
  ·have G:=C _ _ (A _ _ t);refine⟨G,rfl,k,λb o eb=>?_,bI,?_⟩
   ·rw[aE (bQ eb S)];exact C b o (A b o (u b o eb))
   ·rw[tk,pe,mi W,dh];exact Reps.Dw G ((F.same (A.trans C) λ_ z=>z).append (Reps.cons ry rfl))
 ·have X:i=L.length:=by omega
  subst X;refine .inl ⟨by rw[<-T];exact O.stop n (Kp.of u),q l c n S u t ?_⟩;rw[gh]at F;exact F
theorem z8z (r:Rep K H B v d)(b:i<σ.length)
  (q:∀a w,a.length=σ.length->a[i]?=some (some w)->Rep K H AnyB w d->(∀j,j≠i->a[j]?=σ[j]?)->Q a H):tDG K (.nm i) v σ H Q:=by
 refine⟨ao σ.length none,F0 H,(.od,d),(ao σ.length none).set i (some (z1d (.od,d))),nZ (by rw[bw]) λj g l e=>?_,r.old,rfl,λa m so kp=>?_⟩
 ·rw[cc]at e;split at e<;>cases e
 ·have c:((ao σ.length none).set i (some (z1d (G.od,d))))[i]?=some (some (z1d (G.od,d))):=by
   rw[cv];rw[bw];exact b
  obtain⟨w,f,h⟩:=so.sl i _ _ c;exact q a w kp.len f (h.weak λ_ _=>trivial) λj k=>kp.rest j (by simpa[tgIx]using k)
theorem zve (r:Rep K H B v (.tuple [a,b]))(n:i<σ.length)(o:j<σ.length)(l:i≠j)
  (q:∀c u w,c.length=σ.length->c[i]?=some (some u)->c[j]?=some (some w)->Rep K H AnyB u a->Rep K H AnyB w b->(∀k,k≠i->k≠j->c[k]?=σ[k]?)->Q c H):tDG K (.tp [i,j]) v σ H Q:=by
 have p:∀g e,z1d (g,e)=(.od,e)\/z1d (g,e)=(.al,e):=λg e=>by cases g<;>first|exact .inl rfl|exact .inr rfl
 refine⟨ao σ.length none,F0 H,(.od,.tuple [a,b]),((ao σ.length none).set i (some (z1d (gJ a .od,a)))).set j (some (z1d (gJ b .od,b))),nZ (by rw[bw]) λj g z e=>?_,r.old,rfl,λc A so kp=>?_⟩
 ·rw[cc]at e;split at e<;>cases e
 ·have sl:∀k e g,(((ao σ.length none).set i (some (z1d (gJ a .od,a)))).set j (some (z1d (gJ b .od,b))))[k]?=some (some (z1d (g,e)))->∃v,c[k]?=some (some v)/\Rep K H AnyB v e:=fun k e g h=>by
   rcases p g e with m|m
   ·rw[m]at h;obtain⟨v,d,f⟩:=so.sl k _ _ h;exact⟨v,d,f.weak λ_ _=>trivial⟩
   ·rw[m]at h;obtain⟨v,d,f⟩:=so.sl k _ _ h;exact⟨v,d,f.weak λ_ _=>trivial⟩
  obtain⟨u,d,f⟩:=sl i a _ (by rw[b9 (Ne.symm l),cv];rw[bw];exact n);obtain⟨w,s,t⟩:=sl j b _ (by rw[cv];rw[cq,bw];exact o);exact q c u w kp.len d s f t λk x y=>kp.rest k (by simpa[tgIx]using⟨x,y⟩)
end
section
variable {Z:Wc}{σ:L2.St}{H:Hp}
theorem ui:StOk Z.K (F0 H) H σ (ao σ.length none):=nZ (by rw[bw]) λi g d e=>by rw[cc]at e;split at e<;>cases e
theorem dH (q:∀a,Same H a->Q (.int n) a):wE Z (.aV (.int n)) σ H Q:=⟨_,F0 H,(.fr,.int n),ui,rfl,λv H1 b r=>by cases r;exact q H1 b⟩
theorem IZ (q:∀a,Same H a->Q .aK a):wE Z (.aV .aK) σ H Q:=⟨_,F0 H,(.fr,.none),ui,rfl,λv H1 b r=>by cases r;exact q H1 b⟩
theorem zc (c:PyData.strOk x=true)(q:∀a,Same H a->Q (.str x) a):wE Z (.aV (.str x)) σ H Q:=⟨_,F0 H,(.fr,.str x),ui,rfl,λv H1 b r=>by cases r.1;exact q H1 b⟩
theorem iE {K:W.Frag}(d:Rep K H B x dx)(f:Rep K H B' y dy)(e:cmpD c dx dy=.ok b)(q:∀a,Same H a->Q (.bl b) a):jM K (mB (cmpD c)) x y H Q:=⟨B,B',dx,dy,.bool b,d,f,by show(cmpD c dx dy>>=λb=>Res.ok (PyData.bool b))=_;rw[e];rfl,λw a s r=>by cases r;exact q a s⟩
theorem eG {K:W.Frag}(a:Rep K H B x dx)(e:gW dx (.int i)=.ok d)(q:∀w,Rep K H B w d->Q w H):iS K x (.int i) H Q:=⟨B,AnyB,dx,.int i,d,a,rfl,e,q⟩
theorem zd (h:Z.fn[j]?=some (spD Z.K n m))(q:wA Z as σ H λa H1=>spD Z.K n m a H1 Q Z.E):wE Z (.fR j as) σ H Q:=by show(match Z.fn[j]? with|some b=>hW b [] Z.E (wA Z as)|none=>dF) σ H Q;rw[h];show wA Z as σ H λa H1=>spD Z.K n m (a++[]) H1 Q Z.E;simpa only[dz]using q
theorem RU (h:Z.xf=some y)(q:Q y H):wE Z (.iJ f) σ H Q:=by show(match Z.xf with|some v=>(λ_ H Q=>Q v H:TE)|none=>dF) σ H Q;rw[h];exact q
theorem nB (so:StOk Z.K (F0 H) H σ ρ)(e:aL Z.Κ Z.Φ c ρ=.ok (g,d))(q:∀v a,Same H a->Rep Z.K a AnyB v d->Q v a):wE Z (.aV c) σ H Q:=⟨ρ,F0 H,(g,d),so,e,λv a s r=>q v a s (r.weak λ_ _=>trivial)⟩
theorem wQ (so:StOk Z.K (F0 H) H σ a)(e:eA Z.Κ Z.Φ c a=.ok b)(q:∀d,Same H d->R b d):wT Z (.tp c) σ H R:=⟨a,F0 H,b,so,e,q⟩
theorem I0 (q:wE Z a σ H λx H1=>z59 Z.K (hX "int") [x] H1 Q):wE Z (.ue a) σ H Q:=q
theorem eN (q:wE Z a σ H λx H1=>wE Z b σ H1 λy c=>iS Z.K x y c Q):wE Z (.ix a b) σ H Q:=q
theorem uj (q:wE Z a σ H λx H1=>wE Z b σ H1 λy c=>uZ Z.K x y c Q):wE Z (.nY a b) σ H Q:=q
theorem um (q:wE Z a σ H λx H1=>wE Z b σ H1 λy c=>jM Z.K (mB (cmpD d)) x y c Q):wE Z (.cmp d a b) σ H Q:=q
theorem aG (q:wE Z a σ H λx H1=>wA Z r σ H1 λb c=>R (x::b) c):wA Z (.cons a r) σ H R:=q
theorem bH (q:R [] H):wA Z .nil σ H R:=q
theorem aF (e:σ[i]?=some (some v))(q:Q v H):wE Z (.raw i) σ H Q:=⟨v,e,q⟩
theorem sY (q:wE Z a σ H λx H1=>wE Z b σ H1 λy c=>jM Z.K (mB (cmpD d)) x y c λz e=>∃k,z=.bl k/\R k e):wT Z (.tc d a b) σ H R:=q
theorem ze (q:wT Z a σ H λc H1=>if c=true then wT Z b σ H1 R else R false H1):wT Z (.fK a b) σ H R:=q
theorem uo (q:wE Z a σ H λx b=>∃k,jV Z.K x b k/\R k b):wT Z (.iC a) σ H R:=q
theorem Dx (q:wE Z a σ H λx H1=>∃c,x=.bl c/\if c=true then wE Z b σ H1 Q else Q (.bl false) H1):wE Z (.and a b) σ H Q:=q
theorem wR (q:wA Z b σ H λa H1=>a.length<=au/\∀p,H1 p=none->Q (.ref p) (upd H1 p (.tup a))):wE Z (.tup b) σ H Q:=q
theorem uq (q:wA Z b σ H λa H1=>a.length<=au/\∀p,H1 p=none->Q (.ref p) (upd H1 p (.lst a))):wE Z (.lst b) σ H Q:=q
theorem RV {C:Addr}(h:Z.mq[j]?=some (C,m,b))(q:wE Z o σ H λx H1=>∃a dx fs,x=.ref a/\H1 a=some (.ins C dx fs)/\fs.lookup m=none/\wA Z as σ H1 λc d=>wE Z k σ d λz e=>b (x::(c++[z])) e Q Z.E):wE Z (.sT o j as k) σ H Q:=by show(match Z.mq[j]? with|some r=>wH r.1 r.2.1 r.2.2 Z.E (wE Z o) (wA Z as) (wE Z k)|none=>dF) σ H Q;rw[h];exact q
theorem gE {C:Addr}(h:Z.me[j]?=some (C,m,b))(q:wE Z o σ H λx H1=>∃a dx fs,x=.ref a/\H1 a=some (.ins C dx fs)/\fs.lookup m=none/\wA Z as σ H1 λc d=>b (x::(c++[])) d Q Z.E):wE Z (.cL o j as) σ H Q:=by rw[Du h];exact q
theorem RW {C:Addr}(h:Z.md[j]?=some (C,m,a)):wE Z (.kS o j as)=jG C m a [.aK] Z.E (wE Z o) (wA Z as):=by show(match Z.md[j]? with|some r=>jG r.1 r.2.1 r.2.2 [.aK] Z.E (wE Z o) (wA Z as)|none=>dF)=_;rw[h]
theorem wU {C:Addr}(h:Z.md[j]?=some (C,m,b))(q:wE Z o σ H λx H1=>∃a dx fs,x=.ref a/\H1 a=some (.ins C dx fs)/\fs.lookup m=none/\wA Z as σ H1 λc d=>b (x::(c++[.aK])) d Q Z.E):wE Z (.kS o j as) σ H Q:=by rw[RW h];exact q
theorem Ja (q:wE Z it σ H (De Z.K en λJ H1=>∀l,H1 l=none->∃P:Nat->Nat->List V->Hp->Prop,(∃m,P 0 m [] (upd H1 l (.lst [])))/\∀i m a g,P i m a g->(J.stop i g/\Q (.ref l) g)\/(J.go i g/\a.length<au/\∃N:List V->Hp->Prop,(∀d h,N d h->∃j,j<m/\P (i+1) j d h)/\∀x k,J.gO i g x k->tDG Z.K t x (eR n o σ) k λf s=>fH (eR n o σ) f/\wT {Z with E:=λ_ _ _=>False,xf:=none} c f s λb p=>if b=true then wE {Z with E:=λ_ _ _=>False,xf:=none} e f p λy r=>r l=some (.lst a)/\N (a++[y]) (upd r l (.lst (a++[y])))else N a p))):wE Z (.lc n o N' t en it c e) σ H Q:=q
end
mutual
theorem sH:∀(d:aq) (n:Nat),bA n d=true->PyData.eqv d d=true
 |.none,_,_=>rfl
 |.bool b,_,_=>by cases b<;>rfl
 |.int i,_,_=>by rw[PyData.eqv];exact qy rfl
 |.str s,_,_=>by rw[PyData.eqv];exact beq_self_eq_true s
 |.tuple xs,0,h=>by cases h
 |.list xs,0,h=>by cases h
 |.tuple xs,n+1,h=>by rw[PyData.eqv];exact sZ xs n h
 |.list xs,n+1,h=>by rw[PyData.eqv];exact sZ xs n h
 |.dict es,n,h=>by cases n<;>cases h
theorem sZ:∀(ds:List aq) (n:Nat),fO n ds=true->PyData.eqvAll ds ds=true
 | [],_,_=>rfl
 |d::ds,n,h=>by obtain⟨h1,h2⟩:=ar.mp h;rw[PyData.eqvAll,sH d n h1,sZ ds n h2];rfl
end
theorem wV (h:bA 40 d=true):cmpD .NotEq d d=.ok false:=by show(if(bA 40 d&&bA 40 d)=true then Res.ok (!dZ d d)else Res.no)=_;rw[h,show dZ d d=true from sH d 40 h];rfl
theorem zf8 {P:Nat->Prop}(A:∀R:VK,R v H->wE Z it f H R)(I:Rep Z.K H B v (.list p))(N:i<f.length)(O:P i)
  (one:∀x∈p,∀C e w g,C.rt=J.rt->e.length=f.length->(∀j,¬P j->e[j]?=f[j]?)->e[i]?=some (some w)->Rep Z.K g AnyB w x->Same H g->(∀c r,c.length=f.length->(∀j,¬P j->c[j]?=f[j]?)->Same H r->C.nx c r)->wS Z b C e g)
  (q:∀c r,c.length=f.length->(∀j,¬P j->c[j]?=f[j]?)->Same H r->J.nx c r):wS Z (.eX (.nm i) it b) J f H:=by
 obtain⟨a,Q,rfl,S,rs⟩:=lG I;refine A _ ⟨a,rfl,⟨Q,S⟩,?_⟩;obtain⟨a',h,T,hr,t⟩:=I;cases T
 have keep:∀g,Same H g->SqL Z.K g a h:=λg L=>by
  rcases hr with⟨hr,_⟩|⟨⟨o,hr⟩|hr,_⟩
  ·exact .inl (.inl (L _ _ hr))
  ·exact .inl (.inr ⟨o,L _ _ hr⟩)
  ·exact .inr hr
 have U:=t.length
 let W:Nat->Nat->L2.St->Hp->Prop:=λk m l n=>m=p.length-k/\k<=p.length/\l.length=f.length/\(∀j,¬P j->l[j]?=f[j]?)/\Same H n
 refine⟨W,⟨_,rfl,db _,rfl,λ_ _=>rfl,Same.refl H⟩,?_⟩
 rintro k m l n ⟨rfl,hk,D,u,s⟩
 by_cases E:k<p.length
 ·refine .inr ⟨⟨h,h[k]'(by omega),keep n s,ah (by omega)⟩,W (k+1) (p.length-(k+1)),λe g w=>⟨_,by omega,w⟩,λy g F=>?_⟩;obtain⟨V,F⟩:=F;obtain⟨d,hd,X⟩:=Reps.kJ t (F _ (keep n s));rw[V];exact z8z (X.same s λ_ z=>z) (D▸N) λe Y G e9 r9 rest=>one d (aw hd) _ e Y n rfl (G.trans D) (λj M=>(rest j (λz=>M (z▸O))).trans (u j M)) e9 r9 s λc r h1 h2 h3=>⟨rfl,E,h1,h2,h3⟩
 ·have RX:k=p.length:=by omega
  exact .inl ⟨⟨h,keep n s,by omega⟩,q l n D u s⟩
abbrev En:=Str×Str×D
def iF (e:En):D:=.tuple [.str e.1,.str e.2.1,e.2.2]
structure Hd where
 es:aX
 en:List En
 ft:List (List D)
 ld:Option Int
def Hd.at (h:Hd)(k:Nat):En:=h.en.getD k ("","",.none)
def Hd.fa (h:Hd)(k:Nat):List D:=h.ft.getD k []
def RY:Option Int->D
 |none=>.none
 |some n=>.int n
structure Ha where
 dx:Addr
 c:Addr
 dc:Addr
 d:Addr
 le:Addr
 lf:Addr
 kvs:List (Key×V)
 as:List Addr
def Ha.own (A:Ha)(x:Addr)(b:Addr):Prop:=b=x\/b=A.d\/b=A.le\/b=A.lf\/b∈A.as
def zf (K:W.Frag)(H:Hp)(as:List Addr)(ft:List (List D)):Prop:=as.length=ft.length/\∀(k:Nat) a,as[k]?=some a->∃ws,H a=some (.lst ws)/\Reps K H NoB ws (ft.getD k [])
structure Hou (K:W.Frag)(HC CC:Addr)(H:Hp)(x:Addr)(A:Ha)(h:Hd):Prop where
 ins:∃vd,H x=some (.ins HC A.dx [("courts",.ref A.c),("entries",.ref A.le),("fates",.ref A.lf),("last_day",vd)])/\Rep K H NoB vd (RY h.ld)
 bW:Crt K CC H A.c A.dc A.d A.kvs h.es
 ent:∃vs,H A.le=some (.lst vs)/\Reps K H NoB vs (h.en.map iF)
 iG:H A.lf=some (.lst (A.as.map V.ref))
 eO:zf K H A.as h.ft
 nd:A.as.Nodup
 n1:A.le≠A.lf
 n2:A.le∉A.as
 n3:A.lf∉A.as
section
variable {K:W.Frag}{HC CC:Addr}{H H':Hp}{x:Addr}{A:Ha}{h:Hd}
theorem zf.keep (f:zf K H as ft)(c:∀a∈as,∀o,H a=some o->H' a=some o)(d:∀a o,H a=some o->Fix o->H' a=some o):zf K H' as ft:=⟨f.1,λk a e=>by obtain⟨g,h,r⟩:=f.2 k a e;exact⟨g,c a (aw e) _ h,Reps.keep (λb o e z=>d b o e (z.resolve_left id)) (λ_ z=>z) _ r⟩⟩
theorem Hou.keep (t:Hou K HC CC H x A h)(d:∀b o,A.own x b\/b=A.c->H b=some o->H' b=some o)(g:∀a o,H a=some o->Fix o->H' a=some o):Hou K HC CC H' x A h:=by have f:∀a o,H a=some o->(NoB (some a)\/Fix o)->H' a=some o:=λb o e z=>g b o e (z.resolve_left id);obtain⟨i,j,k⟩:=t.ins;obtain⟨l,m,n⟩:=t.ent;exact⟨⟨i,d _ _ (.inl (.inl rfl)) j,Rep.keep f (λ_ z=>z) _ k⟩,⟨d _ _ (.inr rfl) t.bW.ins,d _ _ (.inl (.inr (.inl rfl))) t.bW.dG,aS.keep f (λ_ z=>z) _ t.bW.re⟩,⟨l,d _ _ (.inl (.inr (.inr (.inl rfl)))) m,Reps.keep f (λ_ z=>z) _ n⟩,d _ _ (.inl (.inr (.inr (.inr (.inl rfl))))) t.iG,t.eO.keep (λa p o e=>d a o (.inl (.inr (.inr (.inr (.inr p))))) e) g,t.nd,t.n1,t.n2,t.n3⟩
theorem Hou.same (t:Hou K HC CC H x A h)(s:Same H H'):Hou K HC CC H' x A h:=t.keep (λb o _ e=>s b o e) λa o e _=>s a o e
theorem Hou.hR (t:Hou K HC CC H x A h):Rep K H AnyB (.ref A.le) (.list (h.en.map iF)):=by obtain⟨a,b,c⟩:=t.ent;exact⟨_,a,rfl,.inl ⟨b,trivial⟩,c.weak λ_ z=>z.elim⟩
theorem Hou.wW (t:Hou K HC CC H x A h):Rep K H AnyB (.ref A.lf) (.list (h.ft.map .list)):=by refine⟨_,_,rfl,.inl ⟨t.iG,trivial⟩,B8 (by rw[am,am];exact t.eO.1) λi v d b c=>?_⟩;rw[av]at b c;obtain⟨a,e,rfl⟩:=bx.mp b;obtain⟨f,hf,rfl⟩:=bx.mp c;obtain⟨g,j,r⟩:=t.eO.2 i a e;rw[ac,hf]at r;exact⟨a,g,rfl,.inl ⟨j,trivial⟩,r.weak λ_ z=>z.elim⟩
end
structure eP where
 G:D->Prop
 sd:List D->D->Bool
 ag:D->D->Bool
 s0:∀f,sd f .none=(f.length==1)
 dy:D->Bool
 d0:dy .none=true
 sh:∀r,G r->bA 39 r=true
def Dy (r:D):Bool:=imm r&&bA 39 r
def zg (f:List D):Prop:=1<=f.length/\f.length<=2/\∀r∈f,Dy r=true
theorem RZ (h:zg f):imms f=true:=vg.mpr λr i=>(ar.mp (h.2.2 r i)).1
theorem R0 (h:zg f):bA 40 (.list f)=true:=qA.mpr λr i=>(ar.mp (h.2.2 r i)).2
def ln (es:aX)(s:Str):List Str:=fL es 999 s
def z2a (es:aX)(s:Str):Bool:=stN es (.str s)&&aY es 999 s
structure Hok (φ:eP)(h:Hd):Prop where
 len:h.ft.length=h.en.length
 big:h.en.length<=1000
 gd:∀e∈h.en,φ.G e.2.2/\imm e.2.2=true/\z2a h.es e.1=true
 fo:∀f∈h.ft,zg f
section
variable (φ:eP)
def nD (h:Hd)(w:Str)(dy:D):List Nat:=(cg h.en.length).filter λk=>((h.at k).2.1==w)&&φ.sd (h.fa k) dy
def stg (h:Hd)(s w:Str)(dy:D):List Nat:=(nD φ h w dy).filter λk=>(ln h.es s).contains (h.at k).1
def fll (h:Hd)(s w:Str)(r:D):List Nat:=(nD φ h w .none).filter λk=>!((h.at k).1==s)&&(ln h.es (h.at k).1).contains s&&φ.ag (h.at k).2.2 r
def bar (h:Hd)(s w:Str)(r:D):Option Nat:=(stg φ h s w .none).find? λk=>φ.ag (h.at k).2.2 r
end
def tf (ks:List Nat):List V:=ks.map λ(k:Nat)=>V.int (k:Int)
def z39 (ks:List Nat):List D:=ks.map λ(k:Nat)=>PyData.int (k:Int)
theorem tj {K:W.Frag}:∀{ks:List Nat},Reps K H B (tf ks) (z39 ks)
 | []=>rfl
 |k::ks=>Reps.cons rfl tj
theorem zh {K:W.Frag}:∀{ks:List Nat} {a:List V},Reps K H B a (z39 ks)->a=tf ks
 | [],_,r=>r
 |k::ks,_,r=>by obtain⟨v,t,rfl,b,c⟩:=r;rw[zh c,show v=V.int k from b];rfl
structure HouK (K:W.Frag)(HC:Addr):Prop where
 cls:Cls K HC
 a1:z1z K HC "courts"
 a2:z1z K HC "entries"
 a3:z1z K HC "fates"
 a4:z1z K HC "last_day"
namespace Hs
abbrev CO:W:=.iB (.raw 0) "courts"
abbrev EN:W:=.iB (.raw 0) "entries"
abbrev FA:W:=.iB (.raw 0) "fates"
def about:WS:=.seq (.ret (.lc 2 [0,1,2] ["k","entry","self","word","day"] (.tp [0,1]) true EN (.fK (.tc .Eq (.ix (.raw 1) (.aV (.int 1))) (.raw 3)) (.iC (.fR 0 (.cons (.ix (.iB (.raw 2) "fates") (.raw 0)) (.cons (.raw 4) .nil))))) (.raw 0))) .nil
def fS:WS:=.seq (.ret (.lc 1 [0] ["k","self"] (.nm 0) false (.raw 1) .nil (.ix (.ix (.iB (.raw 1) "entries") (.raw 0)) (.aV (.int 2))))) .nil
def hT:WS:=.seq (.asg 4 (.cL CO 0 (.cons (.raw 1) .nil))) (.seq (.ret (.lc 1 [0,4] ["k","self","line"] (.nm 0) false (.cL (.raw 0) 1 (.cons (.raw 2) (.cons (.raw 3) .nil))) (.tc .In (.ix (.ix (.iB (.raw 1) "entries") (.raw 0)) (.aV (.int 0))) (.raw 2)) (.raw 0))) .nil)
def book:WS:=.seq (.ret (.cL (.raw 0) 0 (.cons (.kS (.raw 0) 0 (.cons (.raw 1) (.cons (.raw 2) .nil))) .nil))) .nil
def hU:WS:=.seq (.asg 4 (.ix EN (.raw 1))) (.seq (.ret (.and (.cmp .NotEq (.ix (.raw 4) (.aV (.int 0))) (.raw 2)) (.and (.cmp .In (.raw 2) (.cL CO 0 (.cons (.ix (.raw 4) (.aV (.int 0))) .nil))) (.fR 0 (.cons (.ix (.raw 4) (.aV (.int 2))) (.cons (.raw 3) .nil)))))) .nil)
def nG:WS:=.seq (.ret (.lc 1 [0,1,3] ["k","self","court","made"] (.nm 0) false (.cL (.raw 0) 0 (.cons (.raw 2) (.cons (.aV .aK) .nil))) (.iC (.cL (.raw 1) 1 (.cons (.raw 0) (.cons (.raw 2) (.cons (.raw 3) .nil))))) (.raw 0))) .nil
def eY:WS:=.seq (.exp (.cL CO 0 (.cons (.raw 1) .nil))) .nil
def fT:WS:=.seq (.exp (.cL (.raw 0) 0 (.cons (.raw 2) .nil))) (.seq (.bV (.fK (.ti true (.iB (.raw 0) "last_day")) (.tc .Lt (.raw 1) (.iB (.raw 0) "last_day"))) (.seq (.kG "Late") .nil) .nil) .nil)
def dI:WS:=.seq (.asg 4 (.kS (.raw 0) 0 (.cons (.raw 1) (.cons (.raw 2) .nil))))
 (.seq (.asg 5 (.fR 0 (.cons (.cL (.raw 0) 0 (.cons (.raw 4) .nil)) (.cons (.raw 3) .nil))))
 (.seq (.bV (.ti true (.raw 5)) (.seq (.wM "NotAllowed" "by" (.ix (.raw 4) (.raw 5))) .nil) .nil) .nil))
end Hs
section
variable {h:Hd}
theorem tm (a:HouK Z.K HC)(t:Hou Z.K HC CC H x A h)(h0:σ[i]?=some (some (.ref x)))(q:Q (.ref A.le) H):wE Z (.iB (.raw i) "entries") σ H Q:=by obtain⟨c,b,_⟩:=t.ins;exact⟨.ref x,h0,x,HC,A.dx,_,.ref A.le,rfl,b,a.cls,a.a2,rfl,q⟩
theorem zi (a:HouK Z.K HC)(t:Hou Z.K HC CC H x A h)(h0:σ[i]?=some (some (.ref x)))(q:Q (.ref A.lf) H):wE Z (.iB (.raw i) "fates") σ H Q:=by obtain⟨c,b,_⟩:=t.ins;exact⟨.ref x,h0,x,HC,A.dx,_,.ref A.lf,rfl,b,a.cls,a.a3,rfl,q⟩
theorem zj (a:HouK Z.K HC)(t:Hou Z.K HC CC H x A h)(h0:σ[i]?=some (some (.ref x)))(q:Q (.ref A.c) H):wE Z (.iB (.raw i) "courts") σ H Q:=by obtain⟨d,b,_⟩:=t.ins;exact⟨.ref x,h0,x,HC,A.dx,_,.ref A.c,rfl,b,a.cls,a.a1,rfl,q⟩
theorem Hd.get (a:k<h.en.length):h.en[k]?=some (h.at k):=by unfold Hd.at;rw[ac,ah a];rfl
theorem Hd.iY (a:k<h.ft.length):h.ft[k]?=some (h.fa k):=by unfold Hd.fa;rw[ac,ah a];rfl
theorem wY {k:Nat}(e:a[k]?=some d):gW (.list a) (.int k)=.ok d:=by
 have b:=(ba.mp e).1;show Res.eJ (cF a k)=_;have:cF a k=some d:=by unfold cF iL;rw[qt (by omega),qt (by omega)];rw[fi];exact e
 rw[this];rfl
theorem Dz (a:k<h.en.length):gW (.list (h.en.map iF)) (.int k)=.ok (iF (h.at k)):=wY (by rw[av,Hd.get a];rfl)
theorem R1 (a:k<h.ft.length):gW (.list (h.ft.map .list)) (.int k)=.ok (.list (h.fa k)):=wY (by rw[av,Hd.iY a];rfl)
theorem eq_str (a b:Str):cmpD .Eq (.str a) (.str b)=.ok (a==b):=rfl
theorem ne_str (a b:Str):cmpD .NotEq (.str a) (.str b)=.ok (!(a==b)):=rfl
theorem zk:∀a:List Str,fO 40 (a.map PyData.str)=true
 | []=>rfl
 |x::a=>by rw[bn];show(true&&fO 40 (a.map PyData.str))=true;rw[zk a];rfl
theorem Jb (a:Str)(c:List Str):cmpD .In (.str a) (.list (c.map .str))=.ok (c.contains a):=by
 show(if(true&&fO 40 (c.map PyData.str))=true then Res.ok ((c.map PyData.str).any λy=>dZ y (.str a))else Res.no)=_;rw[zk c,qt (show(true&&true)=true from rfl),List.any_map]
 have:(c.any λb=>b==a)=c.contains a:=by
  induction c with
  |nil=>rfl
  |cons b c d=>rw[gz,jn,d,show(b==a)=(a==b) by rw[nq,beq_iff_eq,beq_iff_eq,eq_comm]]
 exact congrArg Res.ok this
end
theorem DA (c:a.length=(none::b).length)(h:∀k,k≠0->a[k]?=(none::b)[k]?):fH (none::b) a:=⟨c.symm,λi v e=>by rw[h i (by rintro rfl;cases e)];exact e⟩
theorem R3 (c:a.length=(none::none::b).length)(h:∀k,k≠0->k≠1->a[k]?=(none::none::b)[k]?):fH (none::none::b) a:=⟨c.symm,λi v e=>by rw[h i (by rintro rfl;cases e) (by rintro rfl;cases e)];exact e⟩
theorem R4 (es:List En):z29 0 (es.map iF)=(cg es.length).map λ(i:Nat)=>PyData.tuple [.int i,iF (es.getD i ("","",.none))]:=by
 apply er;intro i;rw[Ca,av,av];by_cases a:i<es.length
 ·rw[ah a];simp[ac,a]
 ·rw[eu (by omega),eu (by grind)];rfl
theorem R5 (es:List En)(h:es.length<=1000):seqR (.list (es.map iF))=.ok (es.map iF):=by show(if decide ((es.map iF).length<=aR)=true then Res.ok (es.map iF)else Res.no)=_;rw[qt];rw[am];exact qy (bq h dc)
def StS (φ:eP)(K:W.Frag)(sp:Sp):Prop:=∃m,sp=spD K 2 m/\∀f d,φ.dy d=true->zg f->∃g,m [.list f,d]=.ok (g,.bool (φ.sd f d))
def AgS (φ:eP)(K:W.Frag)(sp:Sp):Prop:=∃m,sp=spD K 2 m/\∀r s,φ.G r->φ.G s->∃g,m [r,s]=.ok (g,.bool (φ.ag r s))
def wZ:Option Nat->D
 |none=>.none
 |some k=>.int k
def BrS (φ:eP)(K:W.Frag)(sp:Sp):Prop:=∃m,sp=spD K 2 m/\∀(rs:List D) s,rs.length<=1000->(∀r∈rs,φ.G r)->φ.G s->∃g,m [.list rs,s]=.ok (g,wZ (rs.findIdx? λr=>φ.ag r s))
theorem zf1 {vw:V}(y:HouK Z.K HC)(I:Z.fn[0]?=some L)(hs:StS φ Z.K L)(t:Hou Z.K HC CC H x A h)(ok:Hok φ h)(e:Rep Z.K H B vw (.str w))(rd:Rep Z.K H B vd dy)(hd:φ.dy dy=true)
  (q:∀b p,Same H b->H p=none->b p=some (.lst (tf (nD φ h w dy)))->D0.rt (.ref p) b):wS Z Hs.about D0 [some (.ref x),some vw,some vd] H:=by
 obtain⟨m,rfl,hm⟩:=hs;refine tm y t rfl ⟨AnyB,.list (h.en.map iF),h.en.map iF,t.hR,R5 _ ok.big,λJ f=>?_⟩;have f:Walk Z.K J AnyB H ((cg h.en.length).map λ(i:Nat)=>PyData.tuple [.int i,iF (h.at i)]):=by have:=f;rw[R4]at this;exact this
 refine zh2 (p:=λk=>((h.at k).2.1==w)&&φ.sd (h.fa k) dy) f (λk j v H3 N M n O hN P=>?_) λl ys b o Q R S=>q b l Q o (R▸congrArg (λz=>some (HO.lst z)) (zh S));have c:=gj.mp j;refine zve (σ:=[none,none,some (.ref x),some vw,some vd]) O (by simp) (by simp) dc λT u U o C W X r rest=>⟨R3 o rest,?_⟩;refine⟨U,W,dH λH4 a=>eG (r.same a λ_ z=>z) rfl λw2 r2=>⟨vw,rest 3 dc dc,iE r2 (e.same (n.trans a) λ_ z=>z) (eq_str _ _) λH5 d=>⟨_,rfl,?_⟩⟩⟩;cases s:((h.at k).2.1==w)with
 |false=>exact hN (by rw[s];rfl) H5 (a.trans d)
 |true=>
  have D:=t.same (n.trans (a.trans d));refine zd I ?_;cases X;refine aG (eN (zi y D (rest 2 dc dc) (aF C ?_)));obtain⟨g,hg⟩:=hm (h.fa k) dy hd (ok.fo _ (aw (Hd.iY (ok.len▸c))));refine eG D.wW (R1 (ok.len▸c)) λw3 r3=>aG (aF (rest 4 dc dc) ⟨AnyB,[.list (h.fa k),dy],_,rfl,Reps.cons r3 (Reps.cons (rd.same (n.trans (a.trans d)) λ_ _=>trivial) rfl),hg,λv6 E F r6=>?_⟩);cases r6;refine⟨_,rfl,?_⟩;cases G:φ.sd (h.fa k) dy with
  |false=>exact hN (by rw[s,G];rfl) E (a.trans (d.trans F))
  |true=>exact⟨_,C,P (by rw[s,G];rfl) _ E (a.trans (d.trans F)) rfl⟩
theorem z5w (m:HouK Z.K HC)(t:Hou Z.K HC CC H x A h)(ok:Hok φ h)(rn:Rep Z.K H B f (.list (z39 ks)))(b:∀k∈ks,k<h.en.length)
  (q:∀a p d,Same H a->H p=none->a p=some (.lst d)->Reps Z.K a NoB d (ks.map λk=>(h.at k).2.2)->D0.rt (.ref p) a):wS Z Hs.fS D0 [some (.ref x),some f] H:=by
 refine⟨f,rfl,B,.list (z39 ks),z39 ks,rn,rfl,λJ n=>?_⟩;refine zh2 n (λk c v L N M o r hN s=>?_) λl d a e u w g=>q a l d u e w (by rw[fz.mpr λ_ _=>rfl]at g;exact g);refine z8z (σ:=[none,some (.ref x)]) r (by simp) λy O e C r0 rest=>⟨DA e rest,?_⟩;cases r0;have D:=rest 1 (by decide);have i:=t.same o;refine eN (eN (tm m i D (aF C (eG i.hR (Dz (b k c)) λP E=>dH λF j=>eG (E.same j λ_ z=>z) rfl λG I=>?_))));exact s rfl G F j (Rep.bE _ (ok.gd _ (aw (Hd.get (b k c)))).2.1 I)
theorem aS.mem {K:W.Frag}:∀{kvs:List (Key×V)} {es:aX} {e:D×D},aS K H B kvs es->e∈es->∃v,Rep K H B v e.2
 |_,(kd,d)::es,e,r,h=>by
  obtain⟨k,v,t,rfl,_,_,a,b⟩:=r;rcases ax.mp h with rfl|h
  ·exact⟨v,a⟩
  ·exact aS.mem b h
theorem R6 (h:z0e es k=some d):∃a,(a,d)∈es:=by obtain⟨e,b,c⟩:=bx.mp h;exact⟨e.1,by rw[<-c];exact List.mem_of_find?_eq_some b⟩
theorem Jc {K:W.Frag}(c:Crt K f H x dx d kvs es):∀n s,PyData.strOk s=true->∀u∈fL es n s,PyData.strOk u=true
 |0,s,hs,u,hu=>by cases bu.mp hu;exact hs
 |n+1,s,hs,u,hu=>by
  unfold fL at hu;split at hu
  ·rename_i a e;obtain⟨g,hm⟩:=R6 e;obtain⟨v,b⟩:=aS.mem c.re hm;rcases ax.mp hu with rfl|hu
   ·exact hs
   ·exact Jc c n a b.2 u hu
  ·cases bu.mp hu;exact hs
section
variable (φ:eP)(K:W.Frag)(HC CC:Addr)(mg:Str->Option Value)
abbrev nH (H:Hp)(ks:List Nat)(Q:VK):Prop:=∀H' p,Same H H'->H p=none->H' p=some (.lst (tf ks))->Q (.ref p) H'
abbrev cE (c:Str)(H:Hp)(E:XK):Prop:=∀C H',mg c=some (.ref C)->Same H H'->E (.ref C) none H'
def spAb:Sp:=λvs H Q _=>∃x A h vw w vd dy B,vs=[.ref x,vw,vd]/\Hou K HC CC H x A h/\Hok φ h/\Rep K H B vw (.str w)/\Rep K H B vd dy/\φ.dy dy=true/\nH H (nD φ h w dy) Q
def spRa:Sp:=λvs H Q _=>∃x A h vn ks B,vs=[.ref x,vn]/\Hou K HC CC H x A h/\Hok φ h/\Rep K H B vn (.list (z39 ks))/\(∀k∈ks,k<h.en.length)/\∀H' p ys,Same H H'->H p=none->H' p=some (.lst ys)->Reps K H' NoB ys (ks.map λk=>(h.at k).2.2)->Q (.ref p) H'
def spSt:Sp:=λvs H Q E=>∃x A h vc c vw w vd dy B,vs=[.ref x,vc,vw,vd]/\Hou K HC CC H x A h/\Hok φ h/\Rep K H B vc c/\Rep K H B vw (.str w)/\Rep K H B vd dy/\φ.dy dy=true/\if stN h.es c=true then ∃s,c=.str s/\aY h.es 999 s=true/\nH H (stg φ h s w dy) Q else cE mg "NoCourt" H E
def spBk:Sp:=λvs H Q E=>∃x A h vc c vw w B,vs=[.ref x,vc,vw]/\Hou K HC CC H x A h/\Hok φ h/\Rep K H B vc c/\Rep K H B vw (.str w)/\if stN h.es c=true then ∃s,c=.str s/\aY h.es 999 s=true/\∀H' p ys,Same H H'->H p=none->H' p=some (.lst ys)->Reps K H' NoB ys ((stg φ h s w .none).map λk=>(h.at k).2.2)->Q (.ref p) H' else cE mg "NoCourt" H E
def ur (h:Hd)(k:Nat)(s:Str)(r:D):Bool:=!((h.at k).1==s)&&(ln h.es (h.at k).1).contains s&&φ.ag (h.at k).2.2 r
def spIf:Sp:=λvs H Q _=>∃x A h k vc s vm r B,vs=[.ref x,.int (k:Nat),vc,vm]/\Hou K HC CC H x A h/\Hok φ h/\k<h.en.length/\Rep K H B vc (.str s)/\Rep K H B vm r/\φ.G r/\∀H',Same H H'->Q (.bl (ur φ h k s r)) H'
def spFe:Sp:=λvs H Q _=>∃x A h vc s vw w vm r B,vs=[.ref x,vc,vw,vm]/\Hou K HC CC H x A h/\Hok φ h/\Rep K H B vc (.str s)/\Rep K H B vw (.str w)/\Rep K H B vm r/\φ.G r/\nH H (fll φ h s w r) Q
def spCc:Sp:=λvs H Q E=>∃x A h vc c B,vs=[.ref x,vc]/\Hou K HC CC H x A h/\Rep K H B vc c/\if stN h.es c=true then(∃s,c=.str s/\aY h.es 999 s=true)/\∀H',Same H H'->Q .aK H' else cE mg "NoCourt" H E
def late:Option Int->Int->Bool
 |none,_=>false
 |some l,d=>decide (d<l)
def spCd:Sp:=λvs H Q E=>∃x A h vc c n B,vs=[.ref x,.int n,vc]/\Hou K HC CC H x A h/\Rep K H B vc c/\if stN h.es c=true then(∃s,c=.str s/\aY h.es 999 s=true)/\if late h.ld n=true then cE mg "Late" H E else ∀H',Same H H'->Q .aK H' else cE mg "NoCourt" H E
abbrev pL (H:Hp)(k:Nat)(E:XK):Prop:=∀C H' dp,mg "NotAllowed"=some (.ref C)->Same H H'->H dp=none->H' dp=some (.xd [("by",.int k)])->E (.ref C) (some dp) H'
def spCa:Sp:=λvs H Q E=>∃x A h vc s vw w vm r B,vs=[.ref x,vc,vw,vm]/\Hou K HC CC H x A h/\Hok φ h/\Rep K H B vc (.str s)/\Rep K H B vw (.str w)/\Rep K H B vm r/\φ.G r/\z2a h.es s=true/\
 match bar φ h s w r with
 |none=>∀H',Same H H'->Q .aK H'
 |some k=>pL mg H k E
end
theorem xb (a:k∈nD b h w dy):k<h.en.length:=gj.mp (d6.mp a).1
theorem zl (a:k∈stg b h s w dy):k<h.en.length:=xb (d6.mp a).1
theorem Hou.cM {K:W.Frag}(t:Hou K HC CC H x A h):∃fs,H x=some (.ins HC A.dx fs)/\∀m:Str,m≠"courts"->m≠"entries"->m≠"fates"->m≠"last_day"->fs.lookup m=none:=by
 obtain⟨j,c,_⟩:=t.ins;refine⟨_,c,λm d e g i=>?_⟩;have f:∀{a b:Str},a≠b->(a==b)=false:=λh=>by simpa using h
 rw[cn,f d,cn,f e,cn,f g,cn,f i];rfl
theorem Jd {K:W.Frag}(t:Hou K HC CC H x A h)(hs:PyData.strOk s=true)(a:H p=some (.lst ((ln h.es s).map V.str))):Rep K H AnyB (.ref p) (.list ((ln h.es s).map .str)):=⟨p,_,rfl,.inl ⟨a,trivial⟩,za (Jc t.bW 999 s hs)⟩
theorem z84 {vw:V}(n:HouK Z.K HC)(L:Z.me[0]?=some (CC,("line":Str),z2l Z.K CC Z.mg))(O:Z.me[1]?=some (HC,("about":Str),spAb φ Z.K HC CC))(t:Hou Z.K HC CC H x A h)(ok:Hok φ h)(o:Rep Z.K H B r c)(f:Rep Z.K H B vw (.str w))(rd:Rep Z.K H B u dy)(hd:φ.dy dy=true)
  (q:if stN h.es c=true then ∃s,c=.str s/\aY h.es 999 s=true/\nH H (stg φ h s w dy) D0.rt else cE Z.mg "NoCourt" H Z.E):wS Z Hs.hT D0 [some (.ref x),some r,some vw,some u,none] H:=by
 refine gE L (zj n t rfl ⟨A.c,A.dc,_,rfl,t.bW.ins,rfl,aG (aF rfl (bH ⟨A.c,A.dc,A.d,A.kvs,h.es,r,c,B,rfl,t.bW,o,?_⟩))⟩);cases hs:stN h.es c with
 |false=>rw[hs]at q;exact q
 |true=>
  rw[hs]at q;obtain⟨s,rfl,P,q⟩:=q;refine⟨s,999,rfl,by decide,P,λH1 p e Q R=>?_⟩;have t1:=t.same e;obtain⟨fs,S,T⟩:=t1.cM;refine Ja (N':=[]) (gE O (aF rfl ⟨x,A.dx,fs,rfl,S,T _ dc dc dc dc,aG (aF rfl (aG (aF rfl (bH ⟨x,A,h,vw,w,u,dy,B,rfl,t1,ok,f.same e λ_ z=>z,rd.same e λ_ z=>z,hd,λH2 U y W g=>?_⟩))))⟩));refine⟨AnyB,.list (z39 (nD φ h w dy)),z39 (nD φ h w dy),⟨U,_,rfl,.inl ⟨g,trivial⟩,tj⟩,rfl,λJ X=>?_⟩;have a:=e.trans y;refine zh2 X (λk i v H3 N M C Y hN hM=>?_) λl ys H' j s' hy ry=>q H' l (a.trans s') (a.none j) (hy▸congrArg (λz=>some (HO.lst z)) (zh ry));refine z8z (σ:=[none,some (.ref x),some (.ref p)]) Y (by simp) λbR w1 j D r0 rest=>⟨DA j rest,?_⟩;cases r0;have m:=t.same (a.trans C);refine sY (eN (eN (tm n m (rest 1 dc) (aF D (eG m.hR (Dz (xb i)) λw2 r2=>dH λH4 b=>eG (r2.same b λ_ z=>z) rfl λw3 r3=>aF (rest 2 dc) (iE r3 (Jd (m.same b) o.2 (b _ _ (C _ _ (y _ _ R)))) (Jb _ _) λF G=>⟨_,rfl,?_⟩))))));cases I:(ln h.es s).contains (h.at k).1 with
  |false=>exact hN I F (b.trans G)
  |true=>exact⟨_,D,hM I _ F (b.trans G) rfl⟩
theorem zi2 {vw:V}(j:HouK Z.K HC)(o:Z.me[0]?=some (HC,("rulings_at":Str),spRa φ Z.K HC CC))(r:Z.md[0]?=some (HC,("standing":Str),spSt φ Z.K HC CC Z.mg))(t:Hou Z.K HC CC H x A h)(ok:Hok φ h)(u:Rep Z.K H B l c)(d:Rep Z.K H B vw (.str w))
  (q:if stN h.es c=true then ∃s,c=.str s/\aY h.es 999 s=true/\∀a p b,Same H a->H p=none->a p=some (.lst b)->Reps Z.K a NoB b ((stg φ h s w .none).map λk=>(h.at k).2.2)->D0.rt (.ref p) a else cE Z.mg "NoCourt" H Z.E):wS Z Hs.book D0 [some (.ref x),some l,some vw] H:=by
 obtain⟨fs,m,n⟩:=t.cM;refine gE o (aF rfl ⟨x,A.dx,fs,rfl,m,n _ dc dc dc dc,aG (wU r (aF rfl ⟨x,A.dx,fs,rfl,m,n _ dc dc dc dc,aG (aF rfl (aG (aF rfl (bH ⟨x,A,h,l,c,vw,w,.aK,.none,B,rfl,t,ok,u,d,rfl,φ.d0,?_⟩))))⟩))⟩);cases hs:stN h.es c with
 |false=>rw[hs]at q;exact q
 |true=>rw[hs]at q;obtain⟨s,e,v,q⟩:=q;refine⟨s,e,v,λH1 p f y z=>bH ⟨x,A,h,.ref p,stg φ h s w .none,AnyB,rfl,t.same f,ok,⟨p,_,rfl,.inl ⟨z,trivial⟩,tj⟩,λk j=>zl j,λC D b F g i G=>q C D b (f.trans F) (f.none g) i G⟩⟩
theorem z89 (v:HouK Z.K HC)(D:Z.me[0]?=some (CC,("line":Str),z2l Z.K CC Z.mg))(E:Z.fn[0]?=some F)(hs:AgS φ Z.K F)(t:Hou Z.K HC CC H x A h)(ok:Hok φ h)(f:k<h.en.length)(w:Rep Z.K H B I (.str s))(rm:Rep Z.K H B J r)(L:φ.G r)
  (q:∀y,Same H y->D0.rt (.bl (ur φ h k s r)) y):wS Z Hs.hU D0 [some (.ref x),some (.int k),some I,some J,none] H:=by
 obtain⟨m,rfl,hm⟩:=hs;refine eN (tm v t rfl (aF rfl (eG t.hR (Dz f) λwe re=>?_)));obtain⟨M,g2,N⟩:=ok.gd _ (aw (Hd.get f));obtain⟨O,P⟩:=ar.mp N;refine Dx (um (eN (aF rfl (dH λH1 j=>eG (re.same j λ_ z=>z) rfl λw1 Q=>aF rfl (iE Q (w.same j λ_ z=>z) (ne_str _ _) λR S=>⟨_,rfl,?_⟩)))));have a:=j.trans S;cases l:((h.at k).1==s)with
 |true=>have:=q R a;unfold ur at this;rw[l]at this;exact this
 |false=>
  refine Dx (um (aF rfl (gE D (zj v (t.same a) rfl ⟨A.c,A.dc,_,rfl,(t.same a).bW.ins,rfl,aG (eN (aF rfl (dH λH3 n=>eG (re.same (a.trans n) λ_ z=>z) rfl λT C=>bH ⟨A.c,A.dc,A.d,A.kvs,h.es,T,.str (h.at k).1,AnyB,rfl,(t.same (a.trans n)).bW,C,?_⟩)))⟩))));rw[qt O];refine⟨(h.at k).1,999,rfl,by decide,P,λH4 p U V W=>?_⟩;have e:=a.trans (n.trans U);refine iE (w.same e λ_ z=>z) (Jd (t.same e) C.2 W) (Jb _ _) λX Y=>⟨_,rfl,?_⟩;have b:=e.trans Y;cases i:(ln h.es (h.at k).1).contains s with
  |false=>have:=q X b;unfold ur at this;rw[l,i]at this;exact this
  |true=>obtain⟨g,o⟩:=hm _ _ M L;refine zd E (aG (eN (aF rfl (dH λH6 u=>eG (re.same (b.trans u) λ_ z=>z) rfl λw6 r6=>aG (aF rfl (bH ⟨λ_=>True,[(h.at k).2.2,r],_,rfl,Reps.cons r6 (Reps.cons (rm.same (b.trans u) λ_ _=>trivial) rfl),o,λv7 H7 s7 r7=>?_⟩))))));cases r7;have:=q H7 (b.trans (u.trans s7));unfold ur at this;rw[l,i]at this;exact this
theorem zb8 {vw:V}(hk:HouK Z.K HC)(C:Z.me[0]?=some (HC,("about":Str),spAb φ Z.K HC CC))(D:Z.me[1]?=some (HC,("is_felled":Str),spIf φ Z.K HC CC))(t:Hou Z.K HC CC H x A h)(ok:Hok φ h)(E:Rep Z.K H B c (.str s))(d:Rep Z.K H B vw (.str w))(rm:Rep Z.K H B e r)(F:φ.G r)
  (q:nH H (fll φ h s w r) D0.rt):wS Z Hs.nG D0 [some (.ref x),some c,some vw,some e] H:=by
 obtain⟨fs,I,L⟩:=t.cM;refine Ja (N':=[]) (gE C (aF rfl ⟨x,A.dx,fs,rfl,I,L _ dc dc dc dc,aG (aF rfl (aG (IZ λH1 f=>bH ⟨x,A,h,vw,w,.aK,.none,B,rfl,t.same f,ok,d.same f λ_ z=>z,rfl,φ.d0,λH2 O P Q g=>?_⟩)))⟩));have a:=f.trans P;refine⟨AnyB,.list (z39 (nD φ h w .none)),z39 (nD φ h w .none),⟨O,_,rfl,.inl ⟨g,trivial⟩,tj⟩,rfl,λJ R=>?_⟩;refine zh2 R (λk i v H3 N M S T hN U=>?_) λl ys W j X Y ry=>q W l (a.trans X) (a.none j) (Y▸congrArg (λz=>some (HO.lst z)) (zh ry));refine z8z (σ:=[none,some (.ref x),some c,some e]) T (by simp) λbR w1 j n r0 rest=>⟨DA j rest,?_⟩;cases r0;have b:=a.trans S;have o:=t.same b;obtain⟨m,j1,j2⟩:=o.cM;refine uo (gE D (aF (rest 1 dc) ⟨x,A.dx,m,rfl,j1,j2 _ dc dc dc dc,aG (aF n (aG (aF (rest 2 dc) (aG (aF (rest 3 dc) (bH ⟨x,A,h,k,c,s,e,r,B,rfl,o,ok,xb i,E.same b λ_ z=>z,rm.same b λ_ z=>z,F,λp u=>⟨_,rfl,?_⟩⟩))))))⟩));cases y:ur φ h k s r with
 |false=>exact hN y p u
 |true=>exact⟨_,n,U y _ p u rfl⟩
theorem z55 (f:HouK Z.K HC)(g:Z.me[0]?=some (CC,("line":Str),z2l Z.K CC Z.mg))(t:Hou Z.K HC CC H x A h)(i:Rep Z.K H B a c)
  (q:if stN h.es c=true then(∃s,c=.str s/\aY h.es 999 s=true)/\∀b,Same H b->D0.nx [some (.ref x),some a] b else cE Z.mg "NoCourt" H Z.E):wS Z Hs.eY D0 [some (.ref x),some a] H:=by
 refine gE g (zj f t rfl ⟨A.c,A.dc,_,rfl,t.bW.ins,rfl,aG (aF rfl (bH ⟨A.c,A.dc,A.d,A.kvs,h.es,a,c,B,rfl,t.bW,i,?_⟩))⟩);cases hs:stN h.es c with
 |false=>rw[hs]at q;exact q
 |true=>rw[hs]at q;obtain⟨⟨s,e,j⟩,q⟩:=q;exact⟨s,999,e,by decide,j,λH1 p k l m=>q H1 k⟩
theorem z6e (g:HouK Z.K HC)(r:Z.me[0]?=some (HC,("check_court":Str),spCc Z.K HC CC Z.mg))(t:Hou Z.K HC CC H x A h)(u:Rep Z.K H B b c)
  (q:if stN h.es c=true then(∃s,c=.str s/\aY h.es 999 s=true)/\if late h.ld n=true then cE Z.mg "Late" H Z.E else ∀i,Same H i->D0.nx [some (.ref x),some (.int n),some b] i else cE Z.mg "NoCourt" H Z.E):wS Z Hs.fT D0 [some (.ref x),some (.int n),some b] H:=by
 obtain⟨fs,f,a⟩:=t.cM;refine gE r (aF rfl ⟨x,A.dx,fs,rfl,f,a _ (by decide) (by decide) (by decide) (by decide),aG (aF rfl (bH ⟨x,A,h,b,c,B,rfl,t,u,?_⟩))⟩);cases hs:stN h.es c with
 |false=>rw[hs]at q;exact q
 |true=>
  rw[hs]at q;obtain⟨e,q⟩:=q;refine⟨e,λH1 d=>?_⟩;obtain⟨j,f,a⟩:=(t.same d).ins;have la:∀Q:VK,Q j H1->wE Z (.iB (.raw 0) "last_day") [some (.ref x),some (.int n),some b] H1 Q:=λQ q=>⟨.ref x,rfl,x,HC,A.dx,_,j,rfl,f,g.cls,g.a4,rfl,q⟩;refine ze (la _ ⟨_,rfl,?_⟩);cases k:h.ld with
  |none=>rw[k]at a q;cases a;exact q H1 d
  |some l=>
   rw[k]at a q;cases a;refine sY (aF rfl (la _ (iE (B:=AnyB) (B':=AnyB) (dx:=.int n) (dy:=.int l) rfl rfl rfl λm o=>⟨_,rfl,?_⟩)));cases p:decide (n<l)with
   |false=>rw[show late (some l) n=decide (n<l)from rfl,p]at q;exact q m (d.trans o)
   |true=>rw[show late (some l) n=decide (n<l)from rfl,p]at q;exact λC e=>q C m e (d.trans o)
theorem Je {c:Type}{p:c->Bool}:∀(l:List c),match l.findIdx? p with|none=>l.find? p=none|some i=>∃a,l[i]?=some a/\l.find? p=some a
 | []=>rfl
 |a::l=>by
  rw[jo];cases d:p a with
  |true=>exact⟨a,rfl,by rw[mw d]⟩
  |false=>
   have b:=Je (p:=p) l;rw[mx (by rw[d];decide)];cases hf:l.findIdx? p with
   |none=>rw[hf]at b;exact b
   |some i=>rw[hf]at b;exact b
theorem z28 {vw:V}(D:HouK Z.K HC)(Q:Z.me[0]?=some (HC,("rulings_at":Str),spRa φ Z.K HC CC))(R:Z.md[0]?=some (HC,("standing":Str),spSt φ Z.K HC CC Z.mg))(f:Z.fn[0]?=some sp)(hs:BrS φ Z.K sp)(t:Hou Z.K HC CC H x A h)(ok:Hok φ h)(S:Rep Z.K H B F (.str s))(j:Rep Z.K H B vw (.str w))(rm:Rep Z.K H B T r)(U:φ.G r)(W:z2a h.es s=true)
  (q:match bar φ h s w r with|none=>∀l I,Same H I->D0.nx l I|some k=>pL Z.mg H k Z.E):wS Z Hs.dI D0 [some (.ref x),some F,some vw,some T,none,none] H:=by
 obtain⟨m,rfl,hm⟩:=hs;obtain⟨X,g5⟩:=ar.mp W;obtain⟨fs,i1,i2⟩:=t.cM;refine wU R (aF rfl ⟨x,A.dx,fs,rfl,i1,i2 _ dc dc dc dc,aG (aF rfl (aG (aF rfl (bH ⟨x,A,h,F,.str s,vw,w,.aK,.none,B,rfl,t,ok,S,j,rfl,φ.d0,?_⟩))))⟩);rw[qt X];refine⟨s,rfl,g5,λH1 p J Jf L=>?_⟩;have t1:=t.same J;obtain⟨n,j1,j2⟩:=t1.cM;have o:((stg φ h s w .none).map λk=>(h.at k).2.2).length<=1000:=by rw[am];refine bq (et _ _) (bq (et _ _) ?_);rw[d4];exact ok.big
 obtain⟨g,u⟩:=hm ((stg φ h s w .none).map λk=>(h.at k).2.2) r o (λz f=>by obtain⟨k,v,rfl⟩:=bp.mp f;exact(ok.gd _ (aw (Hd.get (zl v)))).1) U;refine zd f (aG (gE Q (aF rfl ⟨x,A.dx,n,rfl,j1,j2 _ dc dc dc dc,aG (aF rfl (bH ⟨x,A,h,.ref p,stg φ h s w .none,AnyB,rfl,t1,ok,⟨p,_,rfl,.inl ⟨L,trivial⟩,tj⟩,λk D=>zl D,λH2 p2 ys M Vi y r2=>?_⟩))⟩)));have c:=J.trans M;refine aG (aF rfl (bH ⟨AnyB,[.list ((stg φ h s w .none).map λk=>(h.at k).2.2),r],_,rfl,Reps.cons ⟨p2,ys,rfl,.inl ⟨y,trivial⟩,r2.weak λ_ z=>z.elim⟩ (Reps.cons (rm.same c λ_ _=>trivial) rfl),u,λN O P a=>?_⟩));have b:=c.trans P;refine⟨N,rfl,_,rfl,?_⟩;have e:=Je (p:=λk=>φ.ag (h.at k).2.2 r) (stg φ h s w .none);rw[List.findIdx?_map]at a;have a:Rep Z.K O (BC H2 AnyB g) N (wZ ((stg φ h s w .none).findIdx? λk=>φ.ag (h.at k).2.2 r)):=a;cases hf:(stg φ h s w .none).findIdx? λk=>φ.ag (h.at k).2.2 r with
 |none=>rw[hf]at a e;cases a;rw[show bar φ h s w r=none from e]at q;exact q _ O b
 |some i=>rw[hf]at a e;cases a;obtain⟨k,e1,e2⟩:=e;rw[show bar φ h s w r=some k from e2]at q;refine λC hC=>eN (aF rfl (aF rfl (eG (B:=AnyB) (dx:=.list (z39 (stg φ h s w .none))) ⟨p,_,rfl,.inl ⟨P _ _ (M _ _ L),trivial⟩,tj⟩ (wY (by unfold z39;rw[av,e1];rfl)) λw4 r4=>?_)));cases r4;exact λdp d=>q C _ dp hC (b.trans (Same.upd d)) (b.none d) bI
namespace Ct
def pairs:WS:=.seq (.ret (.lit AB)) .nil
end Ct
namespace Hs
def init:WS:=.seq (.fld (.raw 0) "courts" (.mk 0 (.cons (.cL (.raw 1) 0 .nil) .nil))) (.seq (.fld (.raw 0) "entries" (.lst .nil)) (.seq (.fld (.raw 0) "fates" (.lst .nil)) (.seq (.fld (.raw 0) "last_day" (.aV .aK)) .nil)))
def jP:WS:=.seq (.exp (.cL CO 0 (.cons (.raw 1) (.cons (.raw 2) .nil)))) .nil
def eC:WS:=.seq (.asg 2 (.aV (.and (.kE (.var 1) ["int"]) (.not (.kE (.var 1) ["bool"]))))) (.seq (.bV (.not (.fK (.iC (.raw 2)) (.yZ .LtE .Lt (.aV (.int 0)) (.raw 1) (.len EN)))) (.seq (.kG "NoRuling") .nil) .nil) .nil)
def xg:WS:=.seq (.exp (.cL (.raw 0) 0 (.cons (.raw 1) .nil))) (.seq (.ret (.yY (.ix FA (.raw 1)))) .nil)
abbrev FT:W:=.tup (.cons (.aV (.str "fell")) (.cons (.raw 1) (.cons (.raw 8) .nil)))
abbrev R7:W:=.tup (.cons (.aV (.str "entered")) (.cons (.raw 1) (.cons (.raw 2) .nil)))
def enter:WS:=.seq (.exp (.cL (.raw 0) 0 (.cons (.raw 1) (.cons (.raw 2) .nil))))
 (.seq (.asg 7 (.fR 0 (.cons (.raw 4) (.cons (.raw 5) (.cons (.raw 6) .nil)))))
 (.seq (.exp (.cL (.raw 0) 1 (.cons (.raw 2) (.cons (.raw 3) (.cons (.raw 7) .nil)))))
 (.seq (.asg 8 (.len EN))
 (.seq (.eX (.nm 9) (.cL (.raw 0) 2 (.cons (.raw 2) (.cons (.raw 3) (.cons (.raw 7) .nil)))) (.seq (.app (.nY FA (.raw 9)) FT) .nil))
 (.seq (.app EN (.tup (.cons (.raw 2) (.cons (.raw 3) (.cons (.raw 7) .nil)))))
 (.seq (.app FA (.lst (.cons R7 .nil)))
 (.seq (.fld (.raw 0) "last_day" (.raw 1))
 (.seq (.ret (.raw 8)) .nil))))))))
end Hs
def pM (h:Hd)(n:Int):Bool:=decide (0<=n)&&decide (n<h.en.length)
section
variable (φ:eP)(K:W.Frag)(HC CC:Addr)(mg:Str->Option Value)
def spPt:Sp:=λvs H Q _=>∃x dx d kvs es,vs=[.ref x]/\Crt K CC H x dx d kvs es/\∀H' v,Same H H'->Rep K H' (nw H) v (.list (es.map ent))->Q v H'
def xh:Sp:=λvs H Q E=>∃x A h n,vs=[.ref x,.int n]/\Hou K HC CC H x A h/\h.en.length<=1000/\if pM h n=true then ∀H',Same H H'->Q .aK H' else cE mg "NoRuling" H E
def spFt:Sp:=λvs H Q E=>∃x A h n,vs=[.ref x,.int n]/\Hou K HC CC H x A h/\Hok φ h/\if pM h n=true then ∀H' v,Same H H'->Rep K H' (nw H) v (.list (h.fa n.toNat))->Q v H' else cE mg "NoRuling" H E
end
theorem R8 (h0:0<=n)(e:a[n.toNat]?=some d):gW (.list a) (.int n)=.ok d:=by have:=wY e;rw[Int.toNat_of_nonneg h0]at this;exact this
theorem R9 (ck:CrtK Z.K CC)(ct:Crt Z.K CC H x dx d kvs es)(q:∀b v,Same H b->Rep Z.K b (nw H) v (.list (es.map ent))->D0.rt v b):wS Z Ct.pairs D0 [some (.ref x)] H:=by refine wO (Q:=λx H1=>tyV Z.K "dict" x H1/\yV x [] H1 λv e=>yW Z.K [v] e D0.rt) ck ct rfl ⟨.inr (.inr (.inl ⟨rfl,.inl ⟨_,ct.dG⟩⟩)),d,kvs,rfl,rfl,ct.dG,λp f=>?_⟩;have c:=Same.upd (o:=.ext λh=>h.IsItemsView p d) f;refine⟨p,d,kvs,es,rfl,bI,c _ _ ct.dG,(ct.same c).re,λw b s r=>q b w (c.trans s) ?_⟩;exact r.weak λa z=>nw.back c z
theorem Jg (d:b.length<=aR)(q:∀R:VK,(∀B,Rep Z.K H B v (.list b)->R v H)->wE Z a σ H R)(r:Rep Z.K H AnyB v (.list b))(k:∀c,Same H c->Q (.int b.length) c):wE Z (.len a) σ H Q:=by
 refine q _ λB _=>⟨AnyB,[.list b],.int b.length,Reps.cons r rfl,?_,λw c s e=>by cases e;exact k c s⟩
 first|rfl|(rw[qt d])
theorem R' (m:HouK Z.K HC)(t:Hou Z.K HC CC H x A h)(o:h.en.length<=1000)(q:if pM h n=true then ∀c j,Same H j->D0.nx c j else cE Z.mg "NoRuling" H Z.E):wS Z Hs.eC D0 [some (.ref x),some (.int n),none] H:=by
 refine⟨[none,some (.od,.int n),none],F0 H,(.fr,.bool true),nZ rfl λi g d e=>?_,rfl,λv H1 p s=>?_⟩
 ·rcases i with _|_|_|i<;>cases e;exact⟨rfl,.int n,AnyB,rfl,rfl⟩
 cases s;refine ze (uo (aF rfl ⟨true,rfl,?_⟩));refine dH λF u=>aF rfl (iE (B:=AnyB) (B':=AnyB) (dx:=.int 0) (dy:=.int n) rfl rfl rfl λw y=>⟨_,rfl,?_⟩);have a:=p.trans (u.trans y);unfold pM at q;cases h0:decide (0<=n)with
 |false=>rw[h0]at q;exact⟨_,rfl,λC e=>q C w e a⟩
 |true=>
  rw[h0]at q;have f:=t.same a;refine Jg (by rw[am];exact bq o dc) (λR r=>tm m f rfl (r AnyB f.hR)) f.hR λG z=>iE (B:=AnyB) (B':=AnyB) (dx:=.int n) (dy:=.int (h.en.map iF).length) rfl rfl rfl λk D=>⟨_,rfl,?_⟩;have b:=a.trans (z.trans D);rw[am];cases l:decide (n<h.en.length)with
  |false=>rw[l]at q;exact λC e=>q C k e b
  |true=>rw[l]at q;exact q _ k b
theorem Sa (i:HouK Z.K HC)(j:Z.me[0]?=some (HC,("check_number":Str),xh Z.K HC CC Z.mg))(t:Hou Z.K HC CC H x A h)(ok:Hok φ h)(q:if pM h n=true then ∀c v,Same H c->Rep Z.K c (nw H) v (.list (h.fa n.toNat))->D0.rt v c else cE Z.mg "NoRuling" H Z.E):wS Z Hs.xg D0 [some (.ref x),some (.int n)] H:=by
 obtain⟨fs,k,l⟩:=t.cM;refine gE j (aF rfl ⟨x,A.dx,fs,rfl,k,l _ dc dc dc dc,aG (aF rfl (bH ⟨x,A,h,n,rfl,t,ok.big,?_⟩))⟩);by_cases d:pM h n=true
 ·rw[qt d]at q ⊢;intro H1 e;have t1:=t.same e;obtain⟨f,g⟩:=ar.mp d;have f:=qx f;have g:=qx g;have b:n.toNat<h.ft.length:=by rw[ok.len];omega
  refine eN (zi i t1 rfl (aF rfl (eG t1.wW (R8 f (by rw[av,Hd.iY b];rfl)) λw r=>⟨AnyB,w,.list (h.fa n.toNat),true,h.fa n.toNat,.list (h.fa n.toNat),rfl,r,rfl,rfl,λv m o p=>q m v (e.trans o) (p.weak λa z=>?_)⟩)));rcases z with z|⟨z,_⟩
  ·exact nw.back e z
  ·rw[RZ (ok.fo _ (aw (Hd.iY b)))]at z;cases z
 ·rw[qu d]at q ⊢;exact q
def iZ (ft:List (List D))(L:List Nat)(t:D):List (List D):=L.foldl (λft k=>ft.set k (ft.getD k []++[t])) ft
def zby (n:Int)(k:Nat):D:=.tuple [.str "fell",.int n,.int k]
def Jh (n:Int)(s:Str):D:=.tuple [.str "entered",.int n,.str s]
def Hd.put (h:Hd)(n:Int)(s w:Str)(r:D)(L:List Nat):Hd:=⟨h.es,h.en++[(s,w,r)],iZ h.ft L (zby n h.en.length)++[[Jh n s]],some n⟩
section
variable {K:W.Frag}{H H':Hp}{HC CC x:Addr}{A:Ha}{h:Hd}
abbrev i' (A:Ha)(x:Addr)(H H':Hp):Prop:=∀b o,¬A.own x b->H b=some o->H' b=some o
theorem Hou.DB (t:Hou K HC CC H x A h)(a:A.own x b)(e:H b=some o):¬Fix o:=by
 rcases a with rfl|rfl|rfl|rfl|a
 ·obtain⟨i,c,_⟩:=t.ins;rw[c]at e;cases e;exact id
 ·rw[t.bW.dG]at e;cases e;exact id
 ·obtain⟨j,d,_⟩:=t.ent;rw[d]at e;cases e;exact id
 ·rw[t.iG]at e;cases e;exact id
 ·obtain⟨k,f⟩:=ce.mp a;obtain⟨l,g,_⟩:=t.eO.2 k b f;rw[g]at e;cases e;exact id
theorem Hou.fix (t:Hou K HC CC H x A h)(f:i' A x H H'):∀a o,H a=some o->Fix o->H' a=some o:=λa o e z=>f a o (λb=>t.DB b e z) e
theorem Hou.jz (t:Hou K HC CC H x A h)(b:H a=some (.lst f)):x≠a/\A.c≠a/\A.d≠a:=by
 refine⟨?_,?_,?_⟩
 ·rintro rfl
  obtain⟨g,e,_⟩:=t.ins;rw[e]at b;cases b
 ·rintro rfl
  rw[t.bW.ins]at b;cases b
 ·rintro rfl
  rw[t.bW.dG]at b;cases b
theorem DC (c:H a=some (.lst d)):∀b o,H b=some o->(NoB (some b)\/Fix o)->upd H a (.lst ys) b=some o:=λb o e z=>by
 rw[aE]
 ·exact e
 ·rintro rfl
  rw[c]at e;cases e;exact z.elim id id
theorem zm {e:Type}:∀{l:List e} {i j:Nat} {a:e},l.Nodup->l[i]?=some a->l[j]?=some a->i=j
 | [],i,_,_,_,h,_=>by simp at h
 |b::l,0,0,_,_,_,_=>rfl
 |b::l,0,j+1,a,nd,c,d=>by rw[fh]at d;cases c;exact absurd (aw d) (du.mp nd).1
 |b::l,i+1,0,a,nd,c,d=>by rw[fh]at c;cases d;exact absurd (aw c) (du.mp nd).1
 |b::l,i+1,j+1,a,nd,c,d=>by rw[zm (du.mp nd).2 c d]
theorem Hou.xl (hh:Hou K HC CC H x A h)(e:A.as[k]?=some a)(o:H a=some (.lst f))(i:Reps K H NoB f (h.fa k))(p:Rep K H NoB y t):Hou K HC CC (upd H a (.lst (f++[y]))) x A {h with ft:=h.ft.set k (h.fa k++[t])}:=by
 obtain⟨n1,n2,n3⟩:=hh.jz o;have c:=aw e;have d:=DC (ys:=f++[y]) o;obtain⟨q,r,s⟩:=hh.ins;obtain⟨u,v,w⟩:=hh.ent;have l:A.le≠a:=λz=>hh.n2 (z▸c);have m:A.lf≠a:=λz=>hh.n3 (z▸c);refine⟨⟨q,by rw[aE n1];exact r,Rep.keep d (λ_ z=>z) _ s⟩,⟨by rw[aE n2];exact hh.bW.ins,by rw[aE n3];exact hh.bW.dG,aS.keep d (λ_ z=>z) _ hh.bW.re⟩,⟨u,by rw[aE l];exact v,Reps.keep d (λ_ z=>z) _ w⟩,by rw[aE m];exact hh.iG,⟨by rw[cq];exact hh.eO.1,λj b g=>?_⟩,hh.nd,hh.n1,hh.n2,hh.n3⟩;by_cases n:j=k
 ·subst n;rw[e]at g;cases g;refine⟨f++[y],bI,?_⟩;rw[ac,cv (hh.eO.1▸((ba.mp e).1))];exact Reps.keep d (λ_ z=>z) _ (i.append (Reps.cons p rfl))
 ·obtain⟨B,C,D⟩:=hh.eO.2 j b g;refine⟨B,by rw[aE (λz=>by subst z;exact n (zm hh.nd g e))];exact C,?_⟩;rw[ac,b9 (Ne.symm n)];exact Reps.keep d (λ_ z=>z) _ D
theorem Hou.DD (hh:Hou K HC CC H x A h)(f:H A.le=some (.lst b))(r:Reps K H NoB b (h.en.map iF))(g:Rep K H NoB y (iF e)):Hou K HC CC (upd H A.le (.lst (b++[y]))) x A {h with en:=h.en++[e]}:=by obtain⟨n1,n2,n3⟩:=hh.jz f;have c:=DC (ys:=b++[y]) f;obtain⟨i,j,k⟩:=hh.ins;refine⟨⟨i,by rw[aE n1];exact j,Rep.keep c (λ_ z=>z) _ k⟩,⟨by rw[aE n2];exact hh.bW.ins,by rw[aE n3];exact hh.bW.dG,aS.keep c (λ_ z=>z) _ hh.bW.re⟩,⟨b++[y],bI,?_⟩,by rw[aE (Ne.symm hh.n1)];exact hh.iG,hh.eO.keep (λa d o e=>by rw[aE (λ(z:a=A.le)=>hh.n2 (z▸d))];exact e) (λa o e z=>c a o e (.inr z)),hh.nd,hh.n1,hh.n2,hh.n3⟩;rw[dh];exact Reps.keep c (λ_ z=>z) _ (r.append (Reps.cons g rfl))
theorem Hou.DE (hh:Hou K HC CC H x A h)(o:H p=some (.lst l))(g:Reps K H NoB l f)(q:p∉A.as)(r:p≠A.le)(m:p≠A.lf):Hou K HC CC (upd H A.lf (.lst (A.as.map V.ref++[.ref p]))) x {A with as:=A.as++[p]} {h with ft:=h.ft++[f]}:=by
 have d:=hh.iG;obtain⟨n1,n2,n3⟩:=hh.jz d;have c:=DC (ys:=A.as.map V.ref++[.ref p]) d;obtain⟨s,t,u⟩:=hh.ins;obtain⟨v,w,y⟩:=hh.ent;have i:=hh.eO.1;refine⟨⟨s,by rw[aE n1];exact t,Rep.keep c (λ_ z=>z) _ u⟩,⟨by rw[aE n2];exact hh.bW.ins,by rw[aE n3];exact hh.bW.dG,aS.keep c (λ_ z=>z) _ hh.bW.re⟩,⟨v,by rw[aE hh.n1];exact w,Reps.keep c (λ_ z=>z) _ y⟩,by rw[bI,dh];rfl,⟨by rw[bf,bf,i];rfl,λk a e=>?_⟩,?_,hh.n1,λz=>?_,λz=>?_⟩
 ·by_cases n:k<A.as.length
  ·have e:(A.as++[p])[k]?=some a:=e;rw[dn n]at e;obtain⟨B,C,D⟩:=hh.eO.2 k a e;refine⟨B,by rw[aE (λ(z:a=A.lf)=>hh.n3 (z▸aw e))];exact C,?_⟩;rw[ac,dn (i▸n),<-ac];exact Reps.keep c (λ_ z=>z) _ D
  ·have e:(A.as++[p])[k]?=some a:=e;rw[dj (by omega)]at e;have j:k=A.as.length:=by have:=(ba.mp e).1;rw[d5]at this;omega
   subst j;rw[k7]at e;cases e;refine⟨l,by rw[aE m];exact o,?_⟩;rw[ac,i,dj (ae _),k7];exact Reps.keep c (λ_ z=>z) _ g
 ·exact j0.mpr ⟨hh.nd,by simp,λa d b E z=>q (by rw[<-bu.mp E,<-z];exact d)⟩
 ·rcases cz.mp z with z|z
  ·exact hh.n2 z
  ·exact r (bu.mp z).symm
 ·rcases cz.mp z with z|z
  ·exact hh.n3 z
  ·exact m (bu.mp z).symm
theorem Hou.DF (hh:Hou K HC CC H x A h)(g:H x=some (.ins HC A.dx [("courts",.ref A.c),("entries",.ref A.le),("fates",.ref A.lf),("last_day",i)])):Hou K HC CC (upd H x (.ins HC A.dx (bX "last_day" (.int n) [("courts",.ref A.c),("entries",.ref A.le),("fates",.ref A.lf),("last_day",i)]))) x A {h with ld:=some n}:=by
 have ne:∀{b:Addr} {o:HO},H b=some o->(∀C dx fs,o≠.ins C dx fs)->b≠x:=λ{b o} e z w=>by subst w;rw[g]at e;cases e;exact z _ _ _ rfl
 have d:∀b o,H b=some o->(NoB (some b)\/Fix o)->upd H x (.ins HC A.dx (bX "last_day" (.int n) [("courts",.ref A.c),("entries",.ref A.le),("fates",.ref A.lf),("last_day",i)])) b=some o:=λb o e z=>by rw[aE (ne e λC dx fs w=>by subst w;exact z.elim id id)];exact e
 obtain⟨l,j,m⟩:=hh.ent;have f:A.c≠x:=λz=>by have:=hh.bW.ins;rw[z,g]at this;injection this with this;injection this with _ _ this;exact absurd (congrArg lq this) (by simp)
 refine⟨⟨.int n,by rw[bI];rfl,rfl⟩,⟨by rw[aE f];exact hh.bW.ins,by rw[aE (ne hh.bW.dG nofun)];exact hh.bW.dG,aS.keep d (λ_ z=>z) _ hh.bW.re⟩,⟨l,by rw[aE (ne j nofun)];exact j,Reps.keep d (λ_ z=>z) _ m⟩,by rw[aE (ne hh.iG nofun)];exact hh.iG,hh.eO.keep (λa p o e=>?_) (λa o e z=>d a o e (.inr z)),hh.nd,hh.n1,hh.n2,hh.n3⟩;obtain⟨k,q⟩:=ce.mp p;obtain⟨s,r,_⟩:=hh.eO.2 k a q;rw[aE (ne r nofun)];exact e
end
def RuS (φ:eP)(K:W.Frag)(sp:Sp):Prop:=∃m,sp=spD K 3 m/\∀a b c,φ.G (.tuple [a,b,c])->∃g,m [a,b,c]=.ok (g,.tuple [a,b,c])
theorem Ji (ft:List (List D))(t:D):∀L,(iZ ft L t).length=ft.length:=λL=>by
 unfold iZ
 induction L generalizing ft with
 |nil=>rfl
 |cons k L a=>rw[nk,a,cq]
theorem Se (ft:List (List D))(t:D)(L:List Nat)(k:Nat):iZ ft (L++[k]) t=(iZ ft L t).set k ((iZ ft L t).getD k []++[t]):=by unfold iZ;rw[List.foldl_append];rfl
theorem Jj (t:D):∀L ft k m,(∀j,(ft.getD j []).length<=m)->((iZ ft L t).getD k []).length<=m+L.length
 | [],ft,k,m,h=>h k
 |i::L,ft,k,m,h=>by
  have:=Jj t L (ft.set i (ft.getD i []++[t])) k (m+1) λj=>by
   rw[ac,dg];split
   ·split
    ·rw[Option.getD_some,bf];have:=h i;show _+1<=m+1;omega
    ·exact db _
   ·have :=h j;rw[ac]at this;omega
  rw[bh];show((iZ (ft.set i (ft.getD i []++[t])) L t).getD k []).length<=_;omega
section
variable (φ:eP)(K:W.Frag)(HC CC:Addr)(mg:Str->Option Value)
abbrev xm (K:W.Frag)(HC CC:Addr)(H:Hp)(x:Addr)(A:Ha)(h:Hd)(Q:VK):Prop:=∀H' p,i' A x H H'->H p=none->Hou K HC CC H' x {A with as:=A.as++[p]} h->Q (.int (h.en.length-1:Nat)) H'
def spEn:Sp:=λvs H Q E=>∃x A h n vc c vw w v4 v5 v6 a b r B,vs=[.ref x,.int n,vc,vw,v4,v5,v6]/\Hou K HC CC H x A h/\Hok φ h/\h.en.length<1000/\Rep K H B vc c/\Rep K H B vw (.str w)/\Rep K H B v4 a/\Rep K H B v5 b/\Rep K H B v6 r/\imms [a,b,r]=true/\φ.G (.tuple [a,b,r])/\
 if stN h.es c=true then ∃s,c=.str s/\aY h.es 999 s=true/\if late h.ld n=true then cE mg "Late" H E else
  match bar φ h s w (.tuple [a,b,r])with
  |some k=>pL mg H k E
  |none=>xm K HC CC H x A (h.put n s w (.tuple [a,b,r]) (fll φ h s w (.tuple [a,b,r]))) Q
 else cE mg "NoCourt" H E
end
theorem DG (q:wE Z o a H λx H1=>tyV Z.K "list" x H1/\wE Z v a H1 λy b=>yg x [y] b λ_ c=>d.nx a c):wS Z (.app o v) d a H:=q
theorem xn (q:wE Z e b H λy H1=>wE Z o b H1 λx c=>∃a C dx fs,x=.ref a/\c a=some (.ins C dx fs)/\Cls Z.K C/\z1z Z.K C f/\fs.length<1000/\d.nx b (upd c a (.ins C dx (bX f y fs)))):wS Z (.fld o f e) d b H:=q
theorem Jk:PyData.strOk "fell"=true:=by decide+kernel
theorem Jl:PyData.strOk "entered"=true:=by decide+kernel
theorem nI {K:W.Frag}(b:H p=none)(r:Reps K H NoB a ds):Rep K (upd H p (.tup a)) NoB (.ref p) (.tuple ds):=⟨p,a,rfl,cA.of bI,r.same (Same.upd b) λ_ z=>z⟩
theorem z90 {vw:V}(C:HouK Z.K HC)(h3:Z.me[2]?=some (HC,("felled":Str),spFe φ Z.K HC CC))(t:Hou Z.K HC CC H x A h)(ok:Hok φ h)(rc:Rep Z.K H NoB P (.str c))(U:Rep Z.K H NoB vw (.str w))(rm:Rep Z.K H NoB Q r)(hg:φ.G r)(L:List Nat)(X:L=fll φ h c w r)(I:D)(Y:I=zby n h.en.length)
  (q:∀a u,a.length=10->(∀j,j≠9->a[j]?=[some (.ref x),some (.int n),some P,some vw,some v4,some v5,some v6,some Q,some (.int h.en.length),b0][j]?)->i' A x H u->Hou Z.K HC CC u x A {h with ft:=iZ h.ft L I}->D0.nx a u):
  wS Z (.eX (.nm 9) (.cL (.raw 0) 2 (.cons (.raw 2) (.cons (.raw 3) (.cons (.raw 7) .nil)))) (.seq (.app (.nY Hs.FA (.raw 9)) Hs.FT) .nil)) D0 [some (.ref x),some (.int n),some P,some vw,some v4,some v5,some v6,some Q,some (.int h.en.length),b0] H:=by
 obtain⟨fs,i1,i2⟩:=t.cM;refine gE h3 (aF rfl ⟨x,A.dx,fs,rfl,i1,i2 _ dc dc dc dc,aG (aF rfl (aG (aF rfl (aG (aF rfl (bH ⟨x,A,h,P,c,vw,w,Q,r,NoB,rfl,t,ok,rc,U,rm,hg,λH1 p s1 Jf hp=>?_⟩))))))⟩);rw[<-X]at hp;have Sf:∀k∈L,k<h.en.length:=λk C=>by rw[X]at C;exact xb (d6.mp C).1
 have Vj:L.length<=1000:=by rw[X];refine bq (et _ _) (bq (et _ _) ?_);rw[d4];exact ok.big
 have zo:p∉A.as:=λz=>by obtain⟨k,C⟩:=ce.mp z;obtain⟨R,J,_⟩:=t.eO.2 k p C;rw[Jf]at J;cases J
 refine⟨p,rfl,⟨_,SqL.of hp⟩,?_⟩
 let W:Nat->Nat->L2.St->Hp->Prop:=λi m a u=>m=L.length-i/\i<=L.length/\a.length=10/\(∀j,j≠9->a[j]?=[some (.ref x),some (.int n),some P,some vw,some v4,some v5,some v6,some Q,some (.int h.en.length),b0][j]?)/\(∀b o,b∉A.as->H1 b=some o->u b=some o)/\Hou Z.K HC CC u x A {h with ft:=iZ h.ft (L.take i) I}
 refine⟨W,⟨_,rfl,db _,rfl,λ_ _=>rfl,λ_ _ _ e=>e,(t.same s1)⟩,?_⟩
 rintro i m a u ⟨rfl,hi,hl,M,hf,E⟩
 have v:=hf p _ zo hp;have lL:(tf L).length=L.length:=am ..;by_cases g:i<L.length
 ·refine .inr ⟨⟨_,_,SqL.of v,ah (lL▸g)⟩,W (i+1) (L.length-(i+1)),λx9 H2 w=>⟨_,by omega,w⟩,λy H2 F=>?_⟩;obtain⟨rfl,F⟩:=F;have F:=F _ (SqL.of v);have Sg:(tf L)[i]?=some (V.int (L[i]:Nat)):=by unfold tf;rw[av,ah g];rfl
  rw[Sg]at F;cases F;generalize N:L[i]=k at *
  have tk:L.take (i+1)=L.take i++[k]:=by rw[lh,ah g,N];rfl
  refine z8z (d:=.int k) (B:=AnyB) rfl (by rw[hl];decide) λx9 w2 Jm e9 r9 rest=>?_;cases r9;have f:=λj S=>(rest j S).trans (M j S);have l:k<A.as.length:=by rw[t.eO.1,ok.len];exact Sf k (N▸eh g)
  obtain⟨R,J,r1⟩:=E.eO.2 k A.as[k] (ah l);refine DG (uj (zi C E (f 0 dc) (aF e9 (.inl ⟨A.lf,_,k,.ref A.as[k],rfl,rfl,SqL.of E.iG,?_,.inl ⟨rfl,_,SqL.of J⟩,wR (aG (zc Jk λH3 s3=>aG (aF (f 1 dc) (aG (aF (f 8 dc) (bH ⟨by rw[c8];simp,λp3 O=>?_⟩))))))⟩))))
  ·have :(A.as.map V.ref)[k]?=some (.ref A.as[k]):=by rw[av,ah l];rfl
   unfold L2.cF;have Sh:L2.iL (A.as.map V.ref).length k=some k:=by unfold L2.iL;rw[qt (by omega),qt (by grind),fi]
   rw[Sh];exact this
  ·have s:Same H2 (upd H3 p3 (.tup [.str "fell",.int n,.int h.en.length])):=s3.trans (Same.upd O);have ea:=s _ _ J
   have wl:R.length<au:=by
    have h2:=Jj I (L.take i) h.ft k 2 λj=>by
     by_cases S:j<h.ft.length
     ·have :=(ok.fo _ (aw (Hd.iY S))).2.1;exact this
     ·rw[ac,eu (by omega)];simp_all
    rw[c9]at h2;rw[c8];have h3:((iZ h.ft (L.take i) I).getD k []).length=R.length:=r1.length.symm;omega
   refine⟨A.as[k],R,.ref p3,rfl,rfl,ea,wl,rfl,g,Jm.trans hl,f,λb o T e=>?_,?_⟩
   ·rw[aE (λ(z:b=A.as[k])=>T (z▸eh l))];exact s b o (hf b o T e)
   ·rw[tk,Se];exact(E.same s).xl (ah l) ea (r1.same s λ_ z=>z) (by rw[Y];exact nI O (Reps.cons ⟨rfl,Jk⟩ (Reps.cons rfl (Reps.cons rfl rfl))))
 ·have sG:i=L.length:=by omega
  subst sG;refine .inl ⟨⟨_,SqL.of v,by rw[lL];exact ae _⟩,q a u hl M (λb o T e=>hf b o (λz=>T (.inr (.inr (.inr (.inr z))))) (s1 b o e)) ?_⟩;rw[gh]at E;exact E
section
variable (φ:eP)(K:W.Frag)(HC CC:Addr)(mg:Str->Option Value)
def spFd:Sp:=λvs H Q E=>∃x A h vc va c a B,vs=[.ref x,vc,va]/\Hou K HC CC H x A h/\Rep K H B vc c/\Rep K H B va a/\h.es.length<au/\if okF h.es c a=true then ∀H' mY,(∀b o,b≠A.d->H b=some o->H' b=some o)->Hou K HC CC H' x {A with kvs:=mY} {h with es:=h.es++[(c,a)]}->Q .aK H' else cE mg "NoCourt" H E
def spHi:Sp:=λvs H Q _=>∃x dx y dy d kvs es,vs=[.ref x,.ref y]/\H x=some (.ins HC dx [])/\Crt K CC H y dy d kvs es/\z0h [] (es.map ent)=some es/\es.length<1000/\∀H' A,(∀b o,b≠x->H b=some o->H' b=some o)->(∀b,A.own x b->b=x\/H b=none)->H A.c=none->Hou K HC CC H' x A ⟨es,[],[],none⟩->Q .aK H'
end
section
variable {Z:Wc}{H:Hp}{HC CC x:Addr}{A:Ha}{h:Hd}{φ:eP}{D0:Ends}{B:Ad->Prop}
theorem z8w (j:HouK Z.K HC)(y:Z.me[0]?=some (CC,("found":Str),z6t Z.K CC Z.mg))(t:Hou Z.K HC CC H x A h)(C:Rep Z.K H B p c)(D:Rep Z.K H B r a)(F:h.es.length<au)
  (q:if okF h.es c a=true then ∀l g f,(∀b o,b≠A.d->H b=some o->g b=some o)->Hou Z.K HC CC g x {A with kvs:=f} {h with es:=h.es++[(c,a)]}->D0.nx l g else cE Z.mg "NoCourt" H Z.E):wS Z Hs.jP D0 [some (.ref x),some p,some r] H:=by
 refine gE y (zj j t rfl ⟨A.c,A.dc,_,rfl,t.bW.ins,rfl,aG (aF rfl (aG (aF rfl (bH ⟨A.c,A.dc,A.d,A.kvs,h.es,p,r,c,a,B,rfl,t.bW,C,D,F,?_⟩))))⟩);by_cases s:okF h.es c a=true
 ·rw[qt s]at q ⊢;intro g f i m;refine q _ g f i ?_;have nd:∀{b:Addr} {o:HO},H b=some o->(∀z,o≠.dK z)->b≠A.d:=λ{b o} e z w=>by subst w;rw[t.bW.dG]at e;cases e;exact z _ rfl
  have n:∀b o,H b=some o->(NoB (some b)\/Fix o)->g b=some o:=λb o e z=>i b o (nd e λw G=>by subst G;exact z.elim id id) e;obtain⟨I,u,J⟩:=t.ins;obtain⟨L,v,M⟩:=t.ent;refine⟨⟨I,i _ _ (nd u nofun) u,Rep.keep n (λ_ z=>z) _ J⟩,m,⟨L,i _ _ (nd v nofun) v,Reps.keep n (λ_ z=>z) _ M⟩,i _ _ (nd t.iG nofun) t.iG,t.eO.keep (λb N o e=>i b o ?_ e) (λb o e z=>n b o e (.inr z)),t.nd,t.n1,t.n2,t.n3⟩;obtain⟨k,j⟩:=ce.mp N;obtain⟨P,O,_⟩:=t.eO.2 k b j;exact nd O nofun
 ·rw[qu s]at q ⊢;exact q
theorem zco {vw:V}(D:HouK Z.K HC)(h1:Z.me[0]?=some (HC,("check_deed":Str),spCd Z.K HC CC Z.mg))(h2:Z.me[1]?=some (HC,("check_allowed":Str),spCa φ Z.K HC CC Z.mg))(h3:Z.me[2]?=some (HC,("felled":Str),spFe φ Z.K HC CC))(hz:Z.fn[0]?=some sp)(hs:RuS φ Z.K sp)
  (t:Hou Z.K HC CC H x A h) (ok:Hok φ h) (i:h.en.length<1000) (rc:Rep Z.K H B j c) (pN:Rep Z.K H B vw (.str w)) (r4:Rep Z.K H B v4 a) (r5:Rep Z.K H B v5 b) (r6:Rep Z.K H B v6 r) (im:imms [a,b,r]=true) (hg:φ.G (.tuple [a,b,r]))
  (q:if stN h.es c=true then ∃s,c=.str s/\aY h.es 999 s=true/\if late h.ld n=true then cE Z.mg "Late" H Z.E else
   match bar φ h s w (.tuple [a,b,r])with
   |some k=>pL Z.mg H k Z.E
   |none=>xm Z.K HC CC H x A (h.put n s w (.tuple [a,b,r]) (fll φ h s w (.tuple [a,b,r]))) D0.rt
  else cE Z.mg "NoCourt" H Z.E):wS Z Hs.enter D0 [some (.ref x),some (.int n),some j,some vw,some v4,some v5,some v6,none,none,none] H:=by
 obtain⟨m,rfl,hm⟩:=hs;obtain⟨fs,i1,i2⟩:=t.cM;refine gE h1 (aF rfl ⟨x,A.dx,fs,rfl,i1,i2 _ (by decide) (by decide) (by decide) (by decide),aG (aF rfl (aG (aF rfl (bH ⟨x,A,h,j,c,n,B,rfl,t,rc,?_⟩))))⟩);cases P:stN h.es c with
 |false=>rw[P]at q;exact q
 |true=>
 rw[P]at q;obtain⟨s,rfl,he,q⟩:=q;refine⟨⟨s,rfl,he⟩,?_⟩;cases uu:late h.ld n with
 |true=>rw[uu]at q;exact q
 |false=>
 rw[uu]at q;intro H1 s1;obtain⟨g,Si⟩:=hm a b r hg;obtain⟨ia,ib,ir⟩:imm a=true/\imm b=true/\imm r=true:=by have:=vg.mp im;exact⟨this a (by simp),this b (by simp),this r (by simp)⟩
 have Sj:=im;refine zd hz (aG (aF rfl (aG (aF rfl (aG (aF rfl (bH ⟨AnyB,[a,b,r],_,rfl,Reps.cons (r4.same s1 λ_ _=>trivial) (Reps.cons (r5.same s1 λ_ _=>trivial) (Reps.cons (r6.same s1 λ_ _=>trivial) rfl)),Si,λvm H2 s2 rm=>?_⟩)))))));have rm:Rep Z.K H2 NoB vm (.tuple [a,b,r]):=Rep.bE _ Sj rm;have l:=s1.trans s2;have t2:=t.same l;obtain⟨DH,j1,j2⟩:=t2.cM;have Q:Rep Z.K H2 NoB j (.str s):=Rep.bE _ rfl (rc.same l λ_ z=>z);have S:Rep Z.K H2 NoB vw (.str w):=Rep.bE _ rfl (pN.same l λ_ z=>z);refine gE h2 (aF rfl ⟨x,A.dx,DH,rfl,j1,j2 _ (by decide) (by decide) (by decide) (by decide),aG (aF rfl (aG (aF rfl (aG (aF rfl (bH ⟨x,A,h,j,s,vw,w,vm,_,NoB,rfl,t2,ok,Q,S,rm,hg,by unfold z2a;rw[P,he];rfl,?_⟩))))))⟩);cases F:bar φ h s w (.tuple [a,b,r])with
 |some k=>rw[F]at q;exact λC H' dp e s' hd BW=>q C H' dp e (l.trans s') (l.none hd) BW
 |none=>
 rw[F]at q;intro H3 s3;have zp:=l.trans s3;have t3:=t.same zp;refine Jg (by rw[am];exact bq ok.big (by decide)) (λR r=>tm D t3 rfl (r AnyB t3.hR)) t3.hR λH4 s4=>?_;have Jo:=zp.trans s4;have t4:=t.same Jo;have u:=s3.trans s4;rw[am];generalize hL:fll φ h s w (.tuple [a,b,r])=L at q;generalize Jp:zby n h.en.length=td;refine z90 D h3 t4 ok (Q.same u λ_ z=>z) (S.same u λ_ z=>z) (rm.same u λ_ z=>z) hg L hL.symm td Jp.symm λSk T zr d f5 t5=>?_;have xo:=t4.fix f5;have U:∀b o,H4 b=some o->(NoB (some b)\/Fix o)->T b=some o:=λb o e z=>xo b o e (z.resolve_left id);have e0:=d 0 (by decide);have I:=d 1 (by decide);have e2:=d 2 (by decide);have e3:=d 3 (by decide);have e7:=d 7 (by decide);have e8:=d 8 (by decide);have W:=Rep.keep U (λ_ z=>z) _ (Q.same u λ_ z=>z);have Sm:=Rep.keep U (λ_ z=>z) _ (S.same u λ_ z=>z);have Sn:=Rep.keep U (λ_ z=>z) _ (rm.same u λ_ z=>z);have big:au>3000:=by rw[c8];decide
 obtain⟨vs,f1,f2⟩:=t5.ent;refine DG (tm D t5 e0 ⟨.inl ⟨rfl,_,SqL.of f1⟩,wR (aG (aF e2 (aG (aF e3 (aG (aF e7 (bH ⟨by show 3<=au;omega,λJ Jq=>?_⟩)))))))⟩);have s6:Same T (upd T J (.tup [j,vw,vm])):=Same.upd Jq;have vl:vs.length<au:=by have:=f2.length;rw[am]at this;have h9:vs.length=h.en.length:=this;omega
 refine⟨A.le,vs,.ref J,rfl,rfl,s6 _ _ f1,vl,?_⟩;have y:=(t5.same s6).DD (e:=(s,w,.tuple [a,b,r])) (s6 _ _ f1) (f2.same s6 λ_ z=>z) (nI Jq (Reps.cons W (Reps.cons Sm (Reps.cons Sn rfl))));have X:∀b o,b≠A.le->T b=some o->upd (upd T J (.tup [j,vw,vm])) A.le (.lst (vs++[.ref J])) b=some o:=λb o i e=>by rw[aE i];exact s6 b o e
 have Jr:Rep Z.K (upd (upd T J (.tup [j,vw,vm])) A.le (.lst (vs++[.ref J]))) NoB j (.str s):=⟨W.1,W.2⟩;generalize Vk:upd (upd T J (.tup [j,vw,vm])) A.le (.lst (vs++[.ref J]))=H7 at y X Jr;refine DG (zi D y e0 ⟨.inl ⟨rfl,_,SqL.of y.iG⟩,uq (aG (wR (aG (zc Jl λH8 s8=>aG (aF I (aG (aF e2 (bH ⟨by show 3<=au;omega,λM Js=>bH ⟨by show 1<=au;omega,λp hp=>?_⟩⟩))))))))⟩);have s9:Same H8 (upd H8 M (.tup [.str "entered",.int n,j])):=Same.upd Js;have Jt:Same (upd H8 M (.tup [.str "entered",.int n,j])) (upd (upd H8 M (.tup [.str "entered",.int n,j])) p (.lst [.ref M])):=Same.upd hp;have N:=s8.trans (s9.trans Jt);have Ju:=y.same N;have v:=(s8.trans s9).none hp;have r9:=(nI (ds:=[.str "entered",.int n,.str s]) Js (Reps.cons ⟨rfl,Jl⟩ (Reps.cons rfl (Reps.cons (Jr.same s8 λ_ z=>z) rfl)))).same Jt λ_ z=>z;have zo:p∉A.as:=λz=>by obtain⟨k,D⟩:=ce.mp z;obtain⟨ws,I,_⟩:=y.eO.2 k p D;rw[v]at I;cases I
 have Y:p≠A.le:=λz=>by obtain⟨ws,I,_⟩:=y.ent;rw[<-z,v]at I;cases I
 have Jv:p≠A.lf:=λz=>by have:=y.iG;rw[<-z,v]at this;cases this
 have al:(A.as.map V.ref).length<au:=by have h1:=t.eO.1;rw[am,h1,ok.len];omega
 refine⟨A.lf,_,.ref p,rfl,rfl,Ju.iG,al,?_⟩;have DI:=Ju.DE (f:=[Jh n s]) bI (Reps.cons r9 rfl) zo Y Jv;have O:∀b o,b≠A.lf->H7 b=some o->upd (upd (upd H8 M (.tup [.str "entered",.int n,j])) p (.lst [.ref M])) A.lf (.lst (A.as.map V.ref++[.ref p])) b=some o:=λb o i e=>by rw[aE i];exact N b o e
 generalize So:upd (upd (upd H8 M (.tup [.str "entered",.int n,j])) p (.lst [.ref M])) A.lf (.lst (A.as.map V.ref++[.ref p]))=Jw at DI O;obtain⟨vd,k1,k2⟩:=DI.ins;refine xn (aF I (aF e0 ⟨x,HC,A.dx,_,rfl,k1,D.cls,D.a4,by show(4:Nat)<1000;decide,?_⟩));subst Jp;have Sq:=DI.DF (n:=n) k1;show wE Z (.raw 8) Sk _ D0.rt;refine aF e8 ?_;have Jx:=λb o i e=>f5 b o i (Jo b o e);have fin:=q (upd Jw x (.ins HC A.dx (bX "last_day" (.int n) _))) p (λb o i e=>?_) ?_ Sq
 ·have:((h.put n s w (.tuple [a,b,r]) L).en.length-1:Nat)=h.en.length:=by
   show(h.en++[_]).length-1=_;rw[bf];rfl
  rw[this]at fin;exact fin
 ·have n1:b≠x:=λz=>i (.inl z);have n2:=λz=>i (.inr (.inr (.inl z)));have n3:=λz=>i (.inr (.inr (.inr (.inl z))));rw[aE n1];exact O b o n3 (X b o n2 (Jx b o i e))
 ·cases e:H p with
  |none=>rfl
  |some o=>
   exfalso;by_cases i:A.own x p
   ·rcases i with z|z|z|z|z
    ·obtain⟨vd,i1,_⟩:=y.ins;rw[<-z,v]at i1;cases i1
    ·have :=y.bW.dG;rw[<-z,v]at this;cases this
    ·exact Y z
    ·exact Jv z
    ·exact zo z
   ·have :=X p o Y (Jx p o i e);rw[v]at this;cases this
end
theorem DJ:∀{ps:List D} {d es:aX},z0h d ps=some es->imms ps=true/\ps.all isPr=true
 | [],_,_,_=>⟨rfl,rfl⟩
 |p::ps,d,es,h=>by
  unfold z0h at h;split at h
  ·rename_i c a;split at h
   ·rename_i e;obtain⟨f,g⟩:=DJ h;obtain⟨i,b⟩:=ar.mp e;have j:imm c=true:=by cases c<;>first|(cases i;done)|rfl
    have k:imm a=true:=by
     rcases d2.mp b with b|b
     ·cases a<;>first|(cases b;done)|rfl
     ·unfold stN at b;cases a<;>first|(cases b;done)|rfl
    exact⟨by show(imms [c,a]&&imms ps)=true;rw[f];simp[imms,j,k],by rw[ci,g];rfl⟩
   ·cases h
  ·cases h
theorem tq {C:Addr}(h:Z.cl[j]?=some (C,b))(q:wA Z as a H λc H1=>∀x dx,H1 x=none->H1 dx=none->dx≠x->b (.ref x::(c++[])) (upd (upd H1 dx (.own x)) x (.ins C dx [])) (λv d=>v=.aK/\Q (.ref x) d) Z.E):wE Z (.mk j as) a H Q:=by show(match Z.cl[j]? with|some r=>uV r.1 r.2 [] Z.E (wA Z as)|none=>dF) a H Q;rw[h];exact q
theorem zbu (s:HouK Z.K HC)(h1:Z.me[0]?=some (CC,("pairs_told":Str),spPt Z.K CC))(h2:Z.cl[0]?=some (CC,z9g Z.K CC Z.mg))(P:H x=some (.ins HC dx []))(ct:Crt Z.K CC H y dy d kvs es)(E:z0h [] (es.map ent)=some es)(hz:es.length<1000)
  (q:∀Q R A,(∀b o,b≠x->H b=some o->R b=some o)->(∀b,A.own x b->b=x\/H b=none)->H A.c=none->Hou Z.K HC CC R x A ⟨es,[],[],none⟩->D0.nx Q R):wS Z Hs.init D0 [some (.ref x),some (.ref y)] H:=by
 refine xn (tq h2 (aG (gE h1 (aF rfl ⟨y,dy,_,rfl,ct.ins,rfl,bH ⟨y,dy,d,kvs,es,rfl,ct,λH1 v s1 rv=>bH λc dc hc S Vl=>?_⟩⟩))));have T:Same H1 (upd (upd H1 dc (.own c)) c (.ins CC dc [])):=λb o e=>by rw[aE (bQ e hc),aE (bQ e S)];exact e
 have l:=s1.trans T;obtain⟨im,U⟩:=DJ E;refine⟨c,dc,v,es.map ent,AnyB,rfl,bI,rv.same T λ_ _=>trivial,im,U,by rw[am];exact hz,?_⟩;have m:=s1.none hc;generalize Vm:upd (upd H1 dc (.own c)) c (.ins CC dc [])=H2 at T l;unfold sX;rw[E];intro C d3 F V k3 t;refine⟨rfl,?_⟩;have G:c≠x:=λz=>by subst z;rw[P]at m;cases m
 have I:=k3 _ _ (Ne.symm G) (l _ _ P);have h:=l.none V;have J:=λb o e=>k3 b o (bQ e m) (l b o e);refine aF rfl ⟨x,HC,dx,[],rfl,I,s.cls,s.a1,by decide,?_⟩;show wS Z (.seq (.fld (.raw 0) "entries" (.lst .nil)) (.seq (.fld (.raw 0) "fates" (.lst .nil)) (.seq (.fld (.raw 0) "last_day" (.aV .aK)) .nil))) D0 [some (.ref x),some (.ref y)] (upd C x (.ins HC dx [("courts",.ref c)]));have W:∀b o,b≠x->C b=some o->upd C x (.ins HC dx [("courts",.ref c)]) b=some o:=λb o f e=>by rw[aE f];exact e
 have M:upd C x (.ins HC dx [("courts",.ref c)]) x=some (.ins HC dx [("courts",.ref c)]):=bI;generalize upd C x (.ins HC dx [("courts",.ref c)])=u at W M ⊢;refine xn (uq (bH ⟨db _,λle n=>aF rfl ⟨x,HC,dx,_,rfl,by rw[aE (bQ M n)];exact M,s.cls,s.a2,by show 1<1000;decide,?_⟩⟩));have g:=Ne.symm (bQ M n);have X:∀b o,b≠x->u b=some o->upd (upd u le (.lst [])) x (.ins HC dx [("courts",.ref c),("entries",.ref le)]) b=some o:=λb o f e=>by rw[aE f,aE (bQ e n)];exact e
 have N:upd (upd u le (.lst [])) x (.ins HC dx [("courts",.ref c),("entries",.ref le)]) x=some (.ins HC dx [("courts",.ref c),("entries",.ref le)]):=bI;have Y:upd (upd u le (.lst [])) x (.ins HC dx [("courts",.ref c),("entries",.ref le)]) le=some (.lst []):=by rw[aE g,bI]
 show wS Z (.seq (.fld (.raw 0) "fates" (.lst .nil)) (.seq (.fld (.raw 0) "last_day" (.aV .aK)) .nil)) D0 [some (.ref x),some (.ref y)] (upd (upd u le (.lst [])) x (.ins HC dx [("courts",.ref c),("entries",.ref le)]));generalize upd (upd u le (.lst [])) x (.ins HC dx [("courts",.ref c),("entries",.ref le)])=B at X N Y ⊢;refine xn (uq (bH ⟨db _,λlf i=>aF rfl ⟨x,HC,dx,_,rfl,by rw[aE (bQ N i)];exact N,s.cls,s.a3,by show 2<1000;decide,?_⟩⟩));have j:=Ne.symm (bQ N i);have k6:∀b o,b≠x->B b=some o->upd (upd B lf (.lst [])) x (.ins HC dx [("courts",.ref c),("entries",.ref le),("fates",.ref lf)]) b=some o:=λb o f e=>by rw[aE f,aE (bQ e i)];exact e
 have x6:upd (upd B lf (.lst [])) x (.ins HC dx [("courts",.ref c),("entries",.ref le),("fates",.ref lf)]) x=some (.ins HC dx [("courts",.ref c),("entries",.ref le),("fates",.ref lf)]):=bI;have l6:upd (upd B lf (.lst [])) x (.ins HC dx [("courts",.ref c),("entries",.ref le),("fates",.ref lf)]) lf=some (.lst []):=by rw[aE j,bI]
 show wS Z (.seq (.fld (.raw 0) "last_day" (.aV .aK)) .nil) D0 [some (.ref x),some (.ref y)] (upd (upd B lf (.lst [])) x (.ins HC dx [("courts",.ref c),("entries",.ref le),("fates",.ref lf)]));generalize upd (upd B lf (.lst [])) x (.ins HC dx [("courts",.ref c),("entries",.ref le),("fates",.ref lf)])=H6 at k6 x6 l6 ⊢;refine xn (IZ λH7 O=>aF rfl ⟨x,HC,dx,_,rfl,O _ _ x6,s.cls,s.a4,by show 3<1000;decide,?_⟩);have r:∀b o,b≠x->C b=some o->upd H7 x (.ins HC dx (bX "last_day" .aK [("courts",.ref c),("entries",.ref le),("fates",.ref lf)])) b=some o:=λb o f e=>by rw[aE f];exact O _ _ (k6 b o f (X b o f (W b o f e)))
 have fresh:∀p,(u p=none\/B p=none)->p≠x->H p=none:=λp D L=>by
  cases e:H p with
  |none=>rfl
  |some o=>
   have e4:=W p o L (J p o e);rcases D with D|D
   ·rw[D]at e4;cases e4
   ·rw[X p o L e4]at D;cases D
 refine q _ _ ⟨dx,c,dc,d3,le,lf,F,[]⟩ (λb o f e=>r b o f (J b o e)) (λb f=>?_) m ⟨⟨.aK,bI,rfl⟩,⟨r _ _ G t.ins,r _ _ (λz=>by subst z;rw[P]at h;cases h) t.dG,aS.keep (λb o e z=>r b o (λw=>by subst w;rw[I]at e;cases e;exact z.elim id id) e) (λ_ z=>z) _ t.re⟩,⟨[],by rw[aE g];exact O _ _ (k6 _ _ g Y),rfl⟩,by rw[aE j];exact O _ _ l6,⟨rfl,λk a e=>by cases e⟩,List.nodup_nil,bQ Y i,by simp,by simp⟩;rcases f with rfl|rfl|rfl|rfl|f
 ·exact .inl rfl
 ·exact .inr h
 ·exact .inr (fresh _ (.inl n) g)
 ·exact .inr (fresh _ (.inr i) j)
 ·cases f
theorem Jy (t:D):∀L ft k,L.Nodup->(iZ ft L t).getD k []=if k∈L/\k<ft.length then ft.getD k []++[t]else ft.getD k []
 | [],ft,k,_=>by rw[qu (by simp)];rfl
 |i::L,ft,k,nd=>by
  obtain⟨c,d⟩:=du.mp nd;show(iZ (ft.set i (ft.getD i []++[t])) L t).getD k []=_;rw[Jy t L _ k d,cq]
  have e:(ft.set i (ft.getD i []++[t])).getD k []=if i=k/\k<ft.length then ft.getD k []++[t]else ft.getD k []:=by
   rw[ac,dg];by_cases a:i=k
   ·subst a;by_cases b:i<ft.length
    ·rw[qt rfl,qt b,qt ⟨rfl,b⟩];rfl
    ·rw[qt rfl,qu b,qu (λz=>b z.2),ac,eu (by omega)]
   ·rw[qu a,qu (λz=>a z.1),ac]
  rw[e];by_cases a:i=k
  ·subst a;rw[qu (λz=>c z.1)];by_cases b:i<ft.length
   ·rw[qt ⟨rfl,b⟩,qt ⟨by simp,b⟩]
   ·rw[qu (λz=>b z.2),qu (λz=>b z.2)]
  ·rw[qu (λ(z:i=k/\k<ft.length)=>a z.1)];by_cases hm:k∈L/\k<ft.length
   ·rw[qt hm,qt ⟨ay _ hm.1,hm.2⟩]
   ·rw[qu hm,qu (λz=>hm ⟨(ax.mp z.1).resolve_left (Ne.symm a),z.2⟩)]
theorem Sr (s w:Str)(r:D):(fll φ h s w r).Nodup:=(List.nodup_range.filter _).filter _
theorem Su (b:k∈fll φ h s w r):(h.fa k).length=1:=by have a:=(ar.mp ((d6.mp (d6.mp b).1).2)).2;rw[φ.s0]at a;exact q8 a
theorem Hok.put (ok:Hok φ h)(g:h.en.length<1000)(i:φ.G r)(j:imm r=true)(l:z2a h.es s=true):Hok φ (h.put n s w r (fll φ h s w r)) where
 len:=by show(iZ h.ft _ _++[_]).length=(h.en++[_]).length;rw[bf,bf,Ji,ok.len];rfl
 big:=by show(h.en++[_]).length<=1000;rw[bf];exact g
 gd:=λe a=>by
  rcases cz.mp a with a|a
  ·exact ok.gd e a
  ·cases bu.mp a;exact⟨i,j,l⟩
 fo:=λf hf=>by
  rcases cz.mp hf with hf|hf
  ·obtain⟨k,c⟩:=ce.mp hf;have b:k<h.ft.length:=by have:=(ba.mp c).1;rw[Ji]at this;exact this
   have e:=Jy (zby n h.en.length) (fll φ h s w r) h.ft k (Sr s w r);rw[ac,c]at e;have e:f=if k∈fll φ h s w r/\k<h.ft.length then h.ft.getD k []++[zby n h.en.length]else h.ft.getD k []:=e
   have fo:=ok.fo _ (aw (Hd.iY b));by_cases hm:k∈fll φ h s w r
   ·rw[qt ⟨hm,b⟩]at e;rw[e];have d:(h.ft.getD k []).length=1:=Su hm;refine⟨by rw[bf,d];exact Nat.le_add_right _ _,by rw[bf,d];exact ae 2,λr hr=>?_⟩;rcases cz.mp hr with hr|hr
    ·exact fo.2.2 r hr
    ·cases bu.mp hr;rfl
   ·rw[qu (λz=>hm z.1)]at e;rw[e];exact fo
  ·cases bu.mp hf;exact⟨ae 1,i5 1,λr hr=>by cases bu.mp hr;rfl⟩
abbrev Cw:=Str×Option Str
def fM:Option Str->D
 |none=>.none
 |some s=>.str s
def cwD (r:Cw):D:=.tuple [.str r.1,fM r.2]
theorem DK (o:Option Str):imm (fM o)=true:=by cases o<;>rfl
theorem tu (r:Cw):imm (cwD r)=true:=by show imms [.str r.1,fM r.2]=true;rw[imms,imms,imms,DK];rfl
def GoodC (rs:List Cw):Prop:=∀(k:Nat) (s a:Str),rs[k]?=some (s,some a)->a∈(rs.take k).map (·.1)
theorem GoodC.snoc (h:GoodC rs)(f:∀a,o=some a->a∈rs.map (·.1)):GoodC (rs++[(s,o)]):=λk g a e=>by
 by_cases d:k<rs.length
 ·rw[dn d]at e;rw[kl (gv d)];exact h k g a e
 ·have b:=(ba.mp e).1;rw[bf,d5]at b;have c:k=rs.length:=by omega
  subst c;rw[dj (ae _),k7]at e;cases e;rw[kl (ae _),gh];exact f a rfl
def esC (rs:List Cw):aX:=rs.map λr=>(.str r.1,fM r.2)
abbrev dJ (rs:List Cw):List Str:=rs.map (·.1)
theorem Jz (rs:List Cw):(esC rs).map ent=rs.map cwD:=by unfold esC;rw[ge];rfl
theorem zt (rs:List Cw):(esC rs).length=rs.length:=am ..
theorem xp (h:z0e es k=some w):z0e (es++fs) k=some w:=by
 unfold z0e at *
 rw[qb];obtain⟨e,a,b⟩:=bx.mp h;rw[a];exact congrArg some b
theorem DL (rs:List Cw)(s:Str):z0e (esC rs) (.str s)=(rs.find? λr=>decide (r.1=s)).map λr=>fM r.2:=by
 unfold z0e esC
 induction rs with
 |nil=>rfl
 |cons r rs a=>
  rw[bn];have b:eqK (PyData.str r.1) (.str s)=decide (r.1=s):=rfl;rw[d7,d7];rw[b];cases e:decide (r.1=s)with
  |true=>rfl
  |false=>exact a
theorem stC:stN (esC rs) (.str s)=true↔s∈dJ rs:=by
 show(z0e (esC rs) (.str s)).isSome=true↔_;rw[DL,i0,qa,bp];constructor
 ·rintro⟨r,a,b⟩
  exact⟨r,a,qx b⟩
 ·rintro⟨r,a,b⟩
  exact⟨r,a,qy b⟩
theorem zu (h:s∉dJ rs):stN (esC rs) (.str s)=false:=by
 cases e:stN (esC rs) (.str s)with
 |false=>rfl
 |true=>exact absurd (stC.mp e) h
theorem zv:∀{n m:Nat} {s:Str},aY es n s=true->n<=m->aY es m s=true
 |0,0,s,h,_=>h
 |0,m+1,s,h,_=>by
  unfold aY at h;split at h
  ·rename_i e;show(match z0e es (.str s)with|some .none=>true|some (.str a)=>aY es m a|_=>false)=true;rw[e]
  ·cases h
 |n+1,0,_,_,h=>by omega
 |n+1,m+1,s,h,hm=>by
  show(match z0e es (.str s)with|some .none=>true|some (.str a)=>aY es m a|_=>false)=true;have h:(match z0e es (.str s)with|some .none=>true|some (.str a)=>aY es n a|_=>false)=true:=h;split at h
  ·rfl
  ·exact zv h (Nat.le_of_succ_le_succ hm)
  ·cases h
theorem DM:∀{n:Nat} {s:Str},aY es n s=true->fL (es++fs) n s=fL es n s/\aY (es++fs) n s=true
 |0,s,h=>by
  unfold aY at h;split at h
  ·rename_i e;refine⟨rfl,?_⟩;show(match z0e (es++fs) (.str s)with|some .none=>true|_=>false)=true;rw[xp e]
  ·cases h
 |n+1,s,h=>by
  unfold aY at h;split at h
  ·rename_i e;constructor
   ·show(match z0e (es++fs) (.str s)with|some (.str a)=>s::fL (es++fs) n a|_=>[s])=match z0e es (.str s)with|some (.str a)=>s::fL es n a|_=>[s]
    rw[xp e,e]
   ·show(match z0e (es++fs) (.str s)with|some .none=>true|some (.str a)=>aY (es++fs) n a|_=>false)=true;rw[xp e]
  ·rename_i a e;obtain⟨b,c⟩:=DM h;constructor
   ·show(match z0e (es++fs) (.str s)with|some (.str a)=>s::fL (es++fs) n a|_=>[s])=match z0e es (.str s)with|some (.str a)=>s::fL es n a|_=>[s]
    rw[xp e,e];exact congrArg (s:: ·) b
   ·show(match z0e (es++fs) (.str s)with|some .none=>true|some (.str a)=>aY (es++fs) n a|_=>false)=true;rw[xp e];exact c
  ·cases h
section
variable {rs:List Cw}
theorem tx (a:k<rs.length):rs.take (k+1)=rs.take k++[rs[k]]:=by rw[lh,ah a];rfl
theorem DN (nd:(dJ rs).Nodup)(c:k<rs.length):rs[k].1∉dJ (rs.take k):=λz=>by obtain⟨r,d,e⟩:=bp.mp z;obtain⟨j,a⟩:=ce.mp d;have b:=(ba.mp a).1;rw[c9]at b;rw[gy (by omega)]at a;have:=zm nd (by rw[av,a];exact congrArg some e) (by rw[av,ah c];rfl);omega
theorem JA (nd:(dJ rs).Nodup)(g:GoodC rs)(b:k<rs.length):okF (esC (rs.take k)) (.str rs[k].1) (fM rs[k].2)=true:=by
 have c:(z0e (esC (rs.take k)) (.str rs[k].1)).isSome=false:=zu (DN nd b);unfold okF;rw[c];cases e:rs[k].2 with
 |none=>rfl
 |some a=>have:=g k rs[k].1 a (by rw[ah b,<-e]);show(true&&(false||stN (esC (rs.take k)) (.str a)))=true;rw[stC.mpr this];rfl
theorem DO (h:s∈dJ rs):okF (esC rs) (.str s) a=false:=by have b:(z0e (esC rs) (.str s)).isSome=true:=stC.mpr h;unfold okF;rw[b];rfl
theorem DP (h:a∉dJ rs):okF (esC rs) (.str s) (.str a)=false:=by unfold okF;rw[zu h];show(_&&(false||false))=false;rw[oz,Bool.and_false]
theorem tE (nd:(dJ rs).Nodup)(g:GoodC rs):∀k,k<=rs.length->∀s∈dJ (rs.take k),aY (esC (rs.take k)) k s=true
 |0,_,s,h=>by cases h
 |k+1,c,s,h=>by
  have b:=c;have e:esC (rs.take (k+1))=esC (rs.take k)++[(.str rs[k].1,fM rs[k].2)]:=by rw[tx b];unfold esC;rw[dh];rfl
  have old:∀t∈dJ (rs.take k),aY (esC (rs.take (k+1))) k t=true:=λt d=>by rw[e];exact(DM (tE nd g k (gv b) t d)).2
  rw[tx b]at h;have h:s∈dJ (rs.take k)++[rs[k].1]:=by rw[<-List.map_singleton,<-dh];exact h
  rcases cz.mp h with h|h
  ·exact zv (old s h) (i5 _)
  ·have hs:s=rs[k].1:=bu.mp h
   have hn:z0e (esC (rs.take (k+1))) (.str s)=some (fM rs[k].2):=by
    rw[DL,tx b,qb];have:(rs.take k).find? (λr=>decide (r.1=s))=none:=by rw[List.find?_eq_none];intro r hr z;exact DN nd b (bp.mpr ⟨r,hr,(qx z).trans hs⟩)
    rw[this,Option.none_or,d7,show decide (rs[k].1=s)=true from qy hs.symm];rfl
   show(match z0e (esC (rs.take (k+1))) (.str s)with|some .none=>true|some (.str a)=>aY (esC (rs.take (k+1))) k a|_=>false)=true;rw[hn];cases f:rs[k].2 with
   |none=>rfl
   |some a=>exact old a (g k rs[k].1 a (by rw[ah b,<-f]))
theorem nJ (nd:(dJ rs).Nodup)(g:GoodC rs)(b:rs.length<=999)(a:k<=rs.length)(h:s∈dJ (rs.take k)):z2a (esC (rs.take k)) s=true:=by unfold z2a;rw[stC.mpr h,zv (tE nd g k a s h) (show k<=999 by omega)];rfl
theorem Sv (nd:(dJ rs).Nodup)(g:GoodC rs)(b:rs.length<=999)(a:k<=rs.length)(h:s∈dJ (rs.take k)):ln (esC (rs.take k)) s=ln (esC rs) s:=by
 have e:esC rs=esC (rs.take k)++esC (rs.drop k):=by unfold esC;rw[<-dh,j5]
 rw[e];exact(DM (zv (tE nd g k a s h) (show k<=999 by omega))).1.symm
theorem zw (nd:(dJ rs).Nodup)(g:GoodC rs):∀k,k<=rs.length->z0h [] ((rs.take k).map cwD)=some (esC (rs.take k))
 |0,_=>rfl
 |k+1,l=>by
  have d:=l;have f:=zw nd g k (gv d)
  have app:∀{ps:List D} {b es:aX} {c a:D},z0h b ps=some es->okF es c a=true->z0h b (ps++[.tuple [c,a]])=some (es++[(c,a)]):=λ{ps}=>by
   induction ps with
   |nil=>intro b es c a e h;cases e;show(if okF b c a=true then z0h (b++[(c,a)]) []else none)=_;rw[qt h];rfl
   |cons p ps f=>
    intro b es c a e h;unfold z0h at e;split at e
    ·rename_i i j;split at e
     ·rename_i m;show(if okF b i j=true then z0h (b++[(i,j)]) (ps++[.tuple [c,a]])else none)=_;rw[qt m];exact f e h
     ·cases e
    ·cases e
  rw[tx d,dh];refine(app f (JA nd g d)).trans ?_;unfold esC;rw[dh];rfl
end
def Hd.bN (h:Hd)(es:aX):Hd:={h with es:=es}
theorem DQ (dy:D)(e:ln es s=ln h.es s):stg φ (h.bN es) s w dy=stg φ h s w dy:=by unfold stg;show(nD φ h w dy).filter (λk=>(ln es s).contains (h.at k).1)=_;rw[e]
theorem Sw (r:D)(e:ln es s=ln h.es s):bar φ (h.bN es) s w r=bar φ h s w r:=by unfold bar;rw[DQ _ e];rfl
theorem Sx (r:D)(e:∀x∈h.en,ln es x.1=ln h.es x.1):fll φ (h.bN es) s w r=fll φ h s w r:=by show(nD φ h w .none).filter (λk=>!((h.at k).1==s)&&(ln es (h.at k).1).contains s&&φ.ag (h.at k).2.2 r)=_;refine List.filter_congr λk a=>?_;rw[e _ (aw (Hd.get (xb a)))]
namespace Hl
abbrev gF (i:Nat)(k:Int):W:=.ix (.raw i) (.aV (.int k))
abbrev Sy:WS:=.seq (.asg 5 (.tup (.cons (.aV (.str "number")) (.cons (.cL (.raw 0) 0 (.cons (.raw 1) (.cons (.raw 2) (.cons (.raw 3) (.cons (gF 4 0) (.cons (gF 4 1) (.cons (gF 4 2) .nil))))))) .nil)))) .nil
abbrev JB:WS:=.seq (.asg 5 (.tup (.cons (.aV (.str "barred")) (.cons (.iJ "by") .nil)))) .nil
def te:WS:=.seq (.asg 5 (.aV (.tup (.cons (.str "number") (.cons (.neg (.int 1)) .nil))))) (.seq (.qZ Sy (.hn "NotAllowed" (some "by") JB .nil) 6 7) (.seq (.ret (.raw 5)) .nil))
abbrev Sz:WS:=.seq (.bV (.fK (.ti false (gF 1 1)) (.iC (.raw 2))) (.seq (.exp (.kS (.raw 0) 0 (.cons (gF 1 0) .nil))) .nil) (.seq (.exp (.sT (.raw 0) 0 (.cons (gF 1 0) .nil) (gF 1 1))) .nil)) .nil
abbrev DR:C:=.or (.lD false "Late") (.or (.lD false "NoSide") (.lD false "NotAllowed"))
abbrev DS:C:=.bin .Add (.bi "int" (.cons (.lD true "NoCourt") .nil)) (.bin .Mult (.int 2) (.bi "int" (.cons (.or (.var 5) (.not (.lD true "ValueError"))) .nil)))
abbrev JC:WS:=.seq (.asg 5 (.aV DR)) (.seq (.asg 3 (.aV DS)) .nil)
def fo:WS:=.seq (.asg 3 (.aV (.int 0))) (.seq (.qZ Sz (.hn "NoCourt" none JC .nil) 4 6) (.seq (.ret (.raw 3)) .nil))
def un:WS:=.seq (.asg 3 (.aV (.int 0))) (.seq (.sV (.seq (.exp (.kS (.raw 0) 0 (.cons (.raw 1) (.cons (.raw 2) .nil)))) .nil) "NoCourt" 4 (.seq (.asg 3 (.aV (.int 1))) .nil)) (.seq (.ret (.cmp .Eq (.raw 3) (.aV (.int 1)))) .nil))
abbrev rF:WS:=.seq (.ret (.aV (.bl false))) .nil
abbrev JD:WS:=.seq (.bV (.tc .NotEq (.kS (.raw 0) 0 (.cons (gF 4 0) (.cons (.raw 5) .nil))) (.kS (.raw 1) 0 (.cons (gF 4 0) (.cons (.raw 5) .nil)))) rF .nil) (.seq (.bV (.tc .NotEq (.cL (.raw 0) 0 (.cons (gF 4 0) (.cons (.raw 5) .nil))) (.cL (.raw 1) 0 (.cons (gF 4 0) (.cons (.raw 5) .nil)))) rF .nil) .nil)
def al:WS:=.seq (.eX (.nm 4) (.raw 2) (.seq (.eX (.nm 5) (.raw 3) JD) .nil)) (.seq (.ret (.aV (.bl true))) .nil)
end Hl
theorem fF (q:wE Z e a H λv H1=>wS Z b c (a.set i (some v)) H1):wS Z (.seq (.asg i e) b) c a H:=q
theorem JE {rest:WS}(c:wX Z hs ⟨wS Z rest a,a.rt,a.bk,a.ct⟩ i n=E)(q:wS {Z with E:=E} b ⟨wS Z rest a,a.rt,λ_ _=>False,λ_ _=>False⟩ σ H):wS Z (.seq (.qZ b hs i n) rest) a σ H:=by subst c;exact q
theorem SA {rest:WS}(q:wS {Z with E:=λv _ a=>∃C,Z.mg c=some (.ref C)/\v=.ref C/\wS {Z with E:=λ_ _ _=>False,xf:=none} h ⟨wS Z rest D0,D0.rt,λ_ _=>False,λ_ _=>False⟩ (ao n none) a} b ⟨wS Z rest D0,D0.rt,λ_ _=>False,λ_ _=>False⟩ σ H):wS Z (.seq (.sV b c n h) rest) D0 σ H:=q
theorem JF:PyData.strOk "number"=true:=by decide+kernel
theorem JG:PyData.strOk "barred"=true:=by decide+kernel
section
variable (φ:eP)(K:W.Frag)(HC CC:Addr)(mg:Str->Option Value)
def spTe:Sp:=λvs H Q _=>∃x A h n vc s vw w vm a b r B,vs=[.ref x,.int n,vc,vw,vm]/\Hou K HC CC H x A h/\Hok φ h/\h.en.length<1000/\Rep K H B vc (.str s)/\Rep K H B vw (.str w)/\Rep K H B vm (.tuple [a,b,r])/\imms [a,b,r]=true/\φ.G (.tuple [a,b,r])/\z2a h.es s=true/\late h.ld n=false/\
 match bar φ h s w (.tuple [a,b,r])with
 |some k=>∀H' v,Same H H'->Rep K H' NoB v (.tuple [.str "barred",.int k])->Q v H'
 |none=>∀H' p v,i' A x H H'->H p=none->Hou K HC CC H' x {A with as:=A.as++[p]} (h.put n s w (.tuple [a,b,r]) (fll φ h s w (.tuple [a,b,r])))->Rep K H' NoB v (.tuple [.str "number",.int h.en.length])->Q v H'
def spFo:Sp:=λvs H Q _=>∃x A h vr c a bare B,vs=[.ref x,vr,.bl bare]/\Hou K HC CC H x A h/\Rep K H B vr (.tuple [c,a])/\h.es.length<au/\if okF h.es c a=true then ∀H' mY,(∀b o,b≠A.d->H b=some o->H' b=some o)->Hou K HC CC H' x {A with kvs:=mY} {h with es:=h.es++[(c,a)]}->Q (.int 0) H' else ∀H',Same H H'->Q (.int 1) H'
def spUn:Sp:=λvs H Q _=>∃x A h vc c vw w B,vs=[.ref x,vc,vw]/\Hou K HC CC H x A h/\Hok φ h/\Rep K H B vc c/\Rep K H B vw (.str w)/\stN h.es c=false/\∀H',Same H H'->Q (.bl true) H'
def spAl:Sp:=λvs H Q _=>∃x A h y A' h' vr,∃(rs:List Cw),∃vw,∃(ws:List Str),∃B,vs=[.ref x,.ref y,vr,vw]/\Hou K HC CC H x A h/\Hok φ h/\Hou K HC CC H y A' h'/\Hok φ h'/\Rep K H B vr (.list (rs.map cwD))/\Rep K H B vw (.list (ws.map .str))/\h.en=h'.en/\(∀r∈rs,z2a h.es r.1=true/\z2a h'.es r.1=true/\∀w∈ws,stg φ h r.1 w .none=stg φ h' r.1 w .none)/\∀H',Same H H'->Q (.bl true) H'
end
theorem SD (s:Same H a)(hd:H d=none):Same H (iD a d):=λb o e=>by unfold iD;rw[qu (bQ e hd)];exact s b o e
theorem zpc {vw:V}(O:Z.me[0]?=some (HC,("enter":Str),spEn φ Z.K HC CC Z.mg))(t:Hou Z.K HC CC H x A h)(ok:Hok φ h)(F:h.en.length<1000)(P:Rep Z.K H B M (.str s))(I:Rep Z.K H B vw (.str w))(rm:Rep Z.K H B Q (.tuple [a,b,r]))(R:imms [a,b,r]=true)(S:φ.G (.tuple [a,b,r]))(T:z2a h.es s=true)(J:late h.ld n=false)
  (q:match bar φ h s w (.tuple [a,b,r])with
   |some k=>∀d v,Same H d->Rep Z.K d NoB v (.tuple [.str "barred",.int k])->D0.rt v d
   |none=>∀d p v,i' A x H d->H p=none->Hou Z.K HC CC d x {A with as:=A.as++[p]} (h.put n s w (.tuple [a,b,r]) (fll φ h s w (.tuple [a,b,r])))->Rep Z.K d NoB v (.tuple [.str "number",.int h.en.length])->D0.rt v d):
  wS Z Hl.te D0 [some (.ref x),some (.int n),some M,some vw,some Q,none,none] H:=by
 have big:au>3000:=by rw[c8];decide
 refine fF (nB ui rfl λv0 H0 s0 _=>?_);obtain⟨U,W⟩:=ar.mp T;generalize N:wX Z (.hn "NotAllowed" (some "by") Hl.JB .nil) ⟨wS Z (.seq (.ret (.raw 5)) .nil) D0,D0.rt,D0.bk,D0.ct⟩ 6 7=E;refine JE N (fF (wR (aG (zc JF λH1 X=>aG (gE O (aF rfl ?_))))));have g:=s0.trans X;obtain⟨fs,Y,i2⟩:=(t.same g).cM;have i:=rm.same g λ_ z=>z;refine⟨x,A.dx,fs,rfl,Y,i2 _ dc dc dc dc,aG (aF rfl (aG (aF rfl (aG (aF rfl (aG (eN (aF rfl (dH λH2 m=>eG (i.same m λ_ z=>z) rfl λw4 r4=>aG (eN (aF rfl (dH λH3 u=>eG (i.same (m.trans u) λ_ z=>z) rfl λw5 r5=>aG (eN (aF rfl (dH λH4 y=>eG (i.same (m.trans (u.trans y)) λ_ z=>z) rfl λw6 r6=>bH ?_)))))))))))))))⟩;have c:=g.trans (m.trans (u.trans y));refine⟨x,A,h,n,M,.str s,vw,w,w4,w5,w6,a,b,r,B,rfl,t.same c,ok,F,P.same c λ_ z=>z,I.same c λ_ z=>z,r4.same (u.trans y) λ_ z=>z,r5.same y λ_ z=>z,r6,R,S,?_⟩;rw[qt U];refine⟨s,rfl,W,?_⟩;rw[qu (by rw[J];decide)];cases f:bar φ h s w (.tuple [a,b,r])with
 |some k=>rw[f]at q;intro C H5 dp hC s5 hd L;rw[<-N];refine .inl ⟨C,hC,rfl,dp,_,rfl,L,?_⟩;refine fF (wR (aG (zc JG λH6 s6=>aG (RU rfl (bH ⟨by show 2<=au;omega,λp D=>?_⟩)))));refine⟨.ref p,rfl,q _ _ ((SD (c.trans s5) (c.none hd)).trans (s6.trans (Same.upd D))) ?_⟩;exact nI D (Reps.cons ⟨rfl,JG⟩ (Reps.cons rfl rfl))
 |none=>
  rw[f]at q;intro H5 p f5 D t5;refine bH ⟨by show 2<=au;omega,λp6 j=>?_⟩;have l:((h.put n s w (.tuple [a,b,r]) (fll φ h s w (.tuple [a,b,r]))).en.length-1:Nat)=h.en.length:=by show(h.en++[_]).length-1=_;rw[bf];rfl
  rw[l];refine⟨.ref p6,rfl,q _ p _ (λb o F e=>Same.upd j b o (f5 b o F (c b o e))) (c.none D) (t5.same (Same.upd j)) ?_⟩;exact nI j (Reps.cons ⟨rfl,JF⟩ (Reps.cons rfl rfl))
theorem zqs (P:Z.md[0]?=some (HC,("founded":Str),spFd Z.K HC CC Z.mg))(Q:Z.mq[0]?=some (HC,("founded":Str),spFd Z.K HC CC Z.mg))(t:Hou Z.K HC CC H x A h)(rr:Rep Z.K H B r (.tuple [c,a]))(R:h.es.length<au)
  (q:if okF h.es c a=true then ∀k f,(∀b o,b≠A.d->H b=some o->k b=some o)->Hou Z.K HC CC k x {A with kvs:=f} {h with es:=h.es++[(c,a)]}->D0.rt (.int 0) k else ∀k,Same H k->D0.rt (.int 1) k):
  wS Z Hl.fo D0 [some (.ref x),some r,some (.bl bare),none,none,none] H:=by
 refine fF (dH λH0 s0=>?_);generalize J:wX Z (.hn "NoCourt" none Hl.JC .nil) ⟨wS Z (.seq (.ret (.raw 3)) .nil) D0,D0.rt,D0.bk,D0.ct⟩ 4 6=E;refine JE J ?_
 have s:∀l y D,Same H l->Rep Z.K l AnyB y c->Rep Z.K l AnyB D a->spFd Z.K HC CC Z.mg [.ref x,y,D] l (λ_ S=>wS Z (.seq (.ret (.raw 3)) .nil) D0 [some (.ref x),some r,some (.bl bare),some (.int 0),none,none] S) E:=λl y D m u v=>by
  refine⟨x,A,h,y,D,c,a,AnyB,rfl,t.same m,u,v,R,?_⟩;by_cases L:okF h.es c a=true
  ·rw[qt L]at q ⊢;exact λk f T U=>⟨.int 0,rfl,q k f (λb o V e=>T b o V (m b o e)) U⟩
  ·rw[qu L]at q ⊢;intro C k W X;rw[<-J];refine .inl ⟨C,W,rfl,?_⟩;refine nB ui rfl λv5 H5 Y r5=>?_;cases r5;refine nB (ρ:=[none,none,none,none,none,some (.od,.bool false)]) (nZ rfl λi g d e=>?_) rfl λv6 H6 s6 r6=>?_
   ·rcases i with _|_|_|_|_|_|i<;>cases e;exact⟨rfl,.bl false,AnyB,rfl,rfl⟩
   ·cases r6;exact⟨.int 1,rfl,q H6 (m.trans (X.trans (Y.trans s6)))⟩
 refine ze (eN (aF rfl (dH λH1 w=>eG ((rr.same (s0.trans w) λ_ _=>trivial:Rep Z.K H1 AnyB r (.tuple [c,a]))) rfl λM v=>⟨_,rfl,?_⟩)));have j:=s0.trans w;obtain⟨fs,F,G⟩:=(t.same j).cM;have N:∀H1,Same H H1->Rep Z.K H1 AnyB r (.tuple [c,a])->wS {Z with E:=E} (.seq (.exp (.sT (.raw 0) 0 (.cons (Hl.gF 1 0) .nil) (Hl.gF 1 1))) .nil) ⟨wS Z (.seq (.ret (.raw 3)) .nil) D0,D0.rt,λ_ _=>False,λ_ _=>False⟩ [some (.ref x),some r,some (.bl bare),some (.int 0),none,none] H1:=λH1 w n=>by obtain⟨fs,F,G⟩:=(t.same w).cM;refine RV Q (aF rfl ⟨x,A.dx,fs,rfl,F,G _ dc dc dc dc,aG (eN (aF rfl (dH λO p=>eG (n.same p λ_ z=>z) rfl λI u=>bH (eN (aF rfl (dH λl m=>eG (n.same (p.trans m) λ_ z=>z) rfl λM v=>?_))))))⟩);exact s l I M (w.trans (p.trans m)) (u.same m λ_ z=>z) v
 rw[v.aK];have n:=rr.same j λ_ _=>trivial;cases hn:uh a with
 |false=>exact N H1 j n
 |true=>
  have ha:a=.none:=by cases a<;>first|(cases hn;done)|rfl
  subst ha;refine uo (aF rfl ⟨bare,rfl,?_⟩);cases bare with
  |false=>exact N H1 j n
  |true=>refine wU P (aF rfl ⟨x,A.dx,fs,rfl,F,G _ dc dc dc dc,aG (eN (aF rfl (dH λO p=>eG (n.same p λ_ z=>z) rfl λI u=>bH ?_)))⟩);exact s O I .aK (j.trans p) u rfl
theorem zrt {vw:V}(e:Z.md[0]?=some (HC,("standing":Str),spSt φ Z.K HC CC Z.mg))(t:Hou Z.K HC CC H x A h)(ok:Hok φ h)(f:Rep Z.K H B d c)(a:Rep Z.K H B vw (.str w))(hs:stN h.es c=false)(q:∀b,Same H b->D0.rt (.bl true) b):
  wS Z Hl.un D0 [some (.ref x),some d,some vw,none] H:=by
 refine fF (dH λH0 s0=>?_);obtain⟨fs,g,i⟩:=(t.same s0).cM;refine SA (wU e (aF rfl ⟨x,A.dx,fs,rfl,g,i _ dc dc dc dc,aG (aF rfl (aG (aF rfl (bH ⟨x,A,h,d,c,vw,w,.aK,.none,B,rfl,t.same s0,ok,f.same s0 λ_ z=>z,a.same s0 λ_ z=>z,rfl,φ.d0,?_⟩))))⟩));rw[qu (by rw[hs];decide)];intro C b j k;refine⟨C,j,rfl,?_⟩;refine dH λp l=>um (aF rfl (dH λr m=>iE (B:=AnyB) (B':=AnyB) (dx:=.int 1) (dy:=.int 1) rfl rfl rfl λn o=>q n (s0.trans (k.trans (l.trans (m.trans o))))))
theorem iH (q:wS Z a {c with nx:=wS Z b c} σ H):wS Z (.seq a b) c σ H:=q
theorem lJ (q:wT Z c d H λk H1=>if k=true then wS Z a e d H1 else wS Z b e d H1):wS Z (.bV c a b) e d H:=q
theorem gG (Z:Wc)(q:a.nx b H):wS Z .nil a b H:=q
theorem uw (q:wE Z e a H c.rt):wS Z (.seq (.ret e) b) c a H:=q
theorem SE (ks:List Nat):bA 40 (.list (z39 ks))=true:=qA.mpr λx a=>by obtain⟨k,_,rfl⟩:=bp.mp a;rfl
theorem SF (q:∀a,Same H a->Q (.bl b) a):wE Z (.aV (.bl b)) d H Q:=⟨_,F0 H,(.fr,.bool b),ui,rfl,λv H1 c r=>by cases r;exact q H1 c⟩
theorem zkj (h1:Z.md[0]?=some (HC,("standing":Str),spSt φ Z.K HC CC Z.mg))(h2:Z.me[0]?=some (HC,("book":Str),spBk φ Z.K HC CC Z.mg))(t:Hou Z.K HC CC H x A h)(ok:Hok φ h)(P:Hou Z.K HC CC H y A' h')(j:Hok φ h')(Q:σ[0]?=some (some (.ref x)))(S:σ[1]?=some (some (.ref y)))(T:σ[4]?=some (some vr))(U:σ[5]?=some (some w))(rr:Rep Z.K H AnyB vr (cwD r))(l:Rep Z.K H AnyB w (.str e))(c1:z2a h.es r.1=true)(c2:z2a h'.es r.1=true)(he:h.en=h'.en)(hs:stg φ h r.1 e .none=stg φ h' r.1 e .none)
  (q:∀V,Same H V->D0.nx σ V):wS Z Hl.JD D0 σ H:=by
 obtain⟨a1,a2⟩:=ar.mp c1;obtain⟨W,X⟩:=ar.mp c2;have m:∀{i:Nat} {z:Addr} {f:Ha} {a:Hd} {H1:Hp} {R:VK},σ[i]?=some (some (.ref z))->Same H H1->Hou Z.K HC CC H1 z f a->Hok φ a->stN a.es (.str r.1)=true->aY a.es 999 r.1=true->(∀d v,Same H1 d->Rep Z.K d AnyB v (.list (z39 (stg φ a r.1 e .none)))->R v d)->wE Z (.kS (.raw i) 0 (.cons (Hl.gF 4 0) (.cons (.raw 5) .nil))) σ H1 R:=λ{i z f a H1 R} B g n C D E k=>by obtain⟨fs,F,G⟩:=n.cM;refine wU h1 (aF B ⟨z,f.dx,fs,rfl,F,G _ dc dc dc dc,aG (eN (aF T (dH λd b=>eG (rr.same (g.trans b) λ_ z=>z) rfl λI J=>aG (aF U (bH ⟨z,f,a,I,.str r.1,w,e,.aK,.none,AnyB,rfl,n.same b,C,J,l.same (g.trans b) λ_ z=>z,rfl,φ.d0,?_⟩)))))⟩);rw[qt D];exact⟨r.1,rfl,E,λu p o L M=>k u _ (b.trans o) ⟨p,_,rfl,.inl ⟨M,trivial⟩,tj⟩⟩
 have s:∀{i:Nat} {z:Addr} {f:Ha} {a:Hd} {H1:Hp} {R:VK},σ[i]?=some (some (.ref z))->Same H H1->Hou Z.K HC CC H1 z f a->Hok φ a->stN a.es (.str r.1)=true->aY a.es 999 r.1=true->(∀d v,Same H1 d->Rep Z.K d AnyB v (.list ((stg φ a r.1 e .none).map λk=>(a.at k).2.2))->R v d)->wE Z (.cL (.raw i) 0 (.cons (Hl.gF 4 0) (.cons (.raw 5) .nil))) σ H1 R:=λ{i z f a H1 R} B g n C D E k=>by obtain⟨fs,F,G⟩:=n.cM;refine gE h2 (aF B ⟨z,f.dx,fs,rfl,F,G _ dc dc dc dc,aG (eN (aF T (dH λd b=>eG (rr.same (g.trans b) λ_ z=>z) rfl λI J=>aG (aF U (bH ⟨z,f,a,I,.str r.1,w,e,AnyB,rfl,n.same b,C,J,l.same (g.trans b) λ_ z=>z,?_⟩)))))⟩);rw[qt D];exact⟨r.1,rfl,E,λu p ys o L M ry=>k u _ (b.trans o) ⟨p,ys,rfl,.inl ⟨M,trivial⟩,ry.weak λ_ z=>z.elim⟩⟩
 have e2:((stg φ h r.1 e .none).map λk=>(h.at k).2.2)=(stg φ h' r.1 e .none).map λk=>(h'.at k).2.2:=by rw[hs];refine kt λk _=>?_;unfold Hd.at;rw[he]
 have N:bA 40 (.list ((stg φ h' r.1 e .none).map λk=>(h'.at k).2.2))=true:=qA.mpr λz a=>by obtain⟨k,hk,rfl⟩:=bp.mp a;exact φ.sh _ (j.gd _ (aw (Hd.get (zl hk)))).1
 refine iH (lJ (sY (m Q (Same.refl H) t ok a1 a2 λH1 v1 g r1=>m S g (P.same g) j W X λd v2 b r2=>?_)));rw[hs]at r1;refine iE (r1.same b λ_ z=>z) r2 (wV (SE _)) λu o=>⟨_,rfl,?_⟩;have c:=g.trans (b.trans o);refine gG Z (iH (lJ (sY (s Q c (t.same c) ok a1 a2 λH4 v4 O r4=>s S (c.trans O) (P.same (c.trans O)) j W X λH5 v5 s5 r5=>?_))));rw[e2]at r4;exact iE (r4.same s5 λ_ z=>z) r5 (wV N) λH6 s6=>⟨_,rfl,gG Z (gG Z (q H6 (c.trans (O.trans (s5.trans s6)))))⟩
theorem zqb {vw:V}{rs:List Cw}{G:List Str}(L:Z.md[0]?=some (HC,("standing":Str),spSt φ Z.K HC CC Z.mg))(M:Z.me[0]?=some (HC,("book":Str),spBk φ Z.K HC CC Z.mg))(t:Hou Z.K HC CC H x A h)(ok:Hok φ h)(N:Hou Z.K HC CC H y A' h')(m:Hok φ h')(rr:Rep Z.K H B O (.list (rs.map cwD)))(n:Rep Z.K H B vw (.list (G.map .str)))(Q:h.en=h'.en)(hs:∀r∈rs,z2a h.es r.1=true/\z2a h'.es r.1=true/\∀w∈G,stg φ h r.1 w .none=stg φ h' r.1 w .none)
  (q:∀I,Same H I->D0.rt (.bl true) I):wS Z Hl.al D0 [some (.ref x),some (.ref y),some O,some vw,none,none] H:=by
 refine iH (zf8 (P:=λj=>j=4\/j=5) (λR k=>aF rfl k) rr (by simp) (.inl rfl) (λd hd D2 S w2 H2 T i e U W o p=>?_) λb s c a f=>?_)
 ·obtain⟨r,hr,rfl⟩:=bp.mp hd;obtain⟨c1,c2,u⟩:=hs r hr;have g:=λj v=>e j (by omega);refine iH (zf8 (P:=λj=>j=5) (λR k=>aF (g 3 (by decide)) k) (n.same o λ_ z=>z) (by rw[i];simp) rfl (λd hd D3 b w3 s J c a X Y f C=>?_) λb s c a f=>?_)
  ·obtain⟨wd,hw,rfl⟩:=bp.mp hd;have l:=o.trans f;have D:=a;exact zkj L M (t.same l) ok (N.same l) m ((D 0 (by decide)).trans (g 0 (by decide))) ((D 1 (by decide)).trans (g 1 (by decide))) ((D 4 (by decide)).trans U) X (W.same f λ_ z=>z) Y c1 c2 Q (u wd hw) λE F=>C b E c a (f.trans F)
  ·refine gG Z (p b s (c.trans i) (λj v=>(a j (λz=>v (.inr z))).trans (e j v)) (o.trans f))
 ·exact uw (SF λE F=>q E (f.trans F))
end Mi
namespace Mk
open PySem Mi
def xq:S:=(.seq (.bV (.not (.and (.tv (.kE (.var 0) ["str"])) (.tv (.cmp .In (.var 0) (.tup (.cons (.str "for") (.cons (.str "against") .nil)))))))
 (.seq .bad
 .nil)
 .nil)
 .nil)
def tF:Fn:=bC [] [] 1 xq
def xr:S:=(.seq (.drop (.call 0 "check_side" (.cons (.var 1) .nil)))
 (.seq (.ret (.se (.tv (.cmp .Eq (.var 1) (.str "for"))) (.ix (.var 0) (.int 0)) (.ix (.var 0) (.int 1))))
 .nil))
def nK:Fn:=bC [] [tF] 2 xr
def xu:S:=(.seq (.asg (.nm 2) (.lC "dict" (.tv (.var 1))))
 (.seq (.ret (.comp 2 [2] ["name","amount","held"] (.tp [0,1]) (.tv (.var 0)) (.tv (.cmp .Gt (.var 1) (.mt "get" (.var 2) (.cons (.var 0) (.cons (.int 0) .nil))))) (.var 0)))
 .nil))
def tG:Fn:=bC [] [] 3 xu
def xv:S:=(.seq (.ret (.cmp .Eq (.call 0 "over" (.cons (.var 0) (.cons (.var 1) .nil))) (.lst .nil))) .nil)
def nM:Fn:=bC [] [tG] 2 xv
def xw:S:=(.seq (.bV (.not (.tv (.call 0 "within" (.cons (.var 2) (.cons (.call 1 "side_of" (.cons (.var 0) (.cons (.var 1) .nil))) .nil)))))
 (.seq .bad
 .nil)
 .nil)
 (.seq (.ret (.tup (.cons (.var 0) (.cons (.var 1) (.cons (.var 2) .nil)))))
 .nil))
def pO:Fn:=bC [] [nM,nK] 3 xw
def xx:S:=(.seq (.ret (.and (.cmp .NotEq (.ix (.var 0) (.int 1)) (.ix (.var 1) (.int 1))) (.and (.call 0 "within" (.cons (.ix (.var 0) (.int 2)) (.cons (.call 1 "side_of" (.cons (.ix (.var 1) (.int 0)) (.cons (.ix (.var 0) (.int 1)) .nil))) .nil))) (.call 0 "within" (.cons (.ix (.var 1) (.int 2)) (.cons (.call 1 "side_of" (.cons (.ix (.var 0) (.int 0)) (.cons (.ix (.var 1) (.int 1)) .nil))) .nil)))))) .nil)
def gI:Fn:=bC [] [nM,nK] 2 xx
def xy:S:=(.seq (.bP (.tp [2,3]) (.enum (.var 0))
 (.seq (.bV (.tv (.call 0 "against" (.cons (.var 3) (.cons (.var 1) .nil))))
 (.seq (.ret (.var 2))
 .nil)
 .nil)
 .nil))
 (.seq (.ret .aK)
 .nil))
def pP:Fn:=bC [] [gI] 4 xy
def xA:S:=(.seq (.bV (.tv (.qB false (.var 1)))
 (.seq (.ret (.cmp .Eq (.bi "len" (.cons (.var 0) .nil)) (.int 1)))
 .nil)
 .nil)
 (.seq (.ret (.and (.cmp .LtE (.ix (.ix (.var 0) (.int 0)) (.int 1)) (.var 1)) (.or (.cmp .Eq (.bi "len" (.cons (.var 0) .nil)) (.int 1)) (.cmp .Gt (.ix (.ix (.var 0) (.int 1)) (.int 1)) (.var 1)))))
 .nil))
def pQ:Fn:=bC [] [] 2 xA
def xB:S:=(.seq (.bV (.tv (.cmp .Lt (.var 1) (.bi "len" (.cons (.var 0) .nil))))
 (.seq (.ret (.ix (.var 0) (.var 1)))
 .nil)
 .nil)
 (.seq (.ret (.int 0))
 .nil))
def pR:Fn:=bC [] [] 2 xB
def xE:S:=(.seq (.asg (.nm 2) (.bin .Mod (.bin .Mult (.bin .Add (.bin .Add (.bin .Add (.bin .Mod (.var 0) (.int 2147483647)) (.bin .Mult (.bin .Mult (.int 7919) (.var 1)) (.var 1))) (.bin .Mult (.var 1) (.var 1))) (.int 1)) (.int 48271)) (.int 2147483629)))
 (.seq (.ret (.bin .Mod (.bin .Mult (.var 2) (.var 2)) (.int 2147483587)))
 .nil))
def dX:Fn:=bC [] [] 3 xE
def JH:S:=(.seq (.bV (.tv (.var 2))
 (.seq (.ret (.tup (.cons (.ix (.var 0) (.var 1)) (.cons (.bl true) .nil))))
 .nil)
 .nil)
 (.seq (.ret (.tup (.cons (.call 0 "_law_mix" (.cons (.ix (.var 0) (.var 1)) (.cons (.var 1) .nil))) (.cons (.bl false) .nil))))
 .nil))
def DT:Fn:=bC [] [dX] 3 JH
def DU:S:=(.seq (.asg (.tp [2,3]) (.var 0))
 (.seq (.bV (.not (.tv (.var 3)))
 (.seq (.ret (.bin .Mod (.call 0 "_law_mix" (.cons (.var 2) (.cons (.var 1) .nil))) (.int 60)))
 .nil)
 .nil)
 (.seq (.bP (.nm 4) (.fA (.cons (.var 1) .nil))
 (.seq (.asg (.nm 2) (.bin .FloorDiv (.var 2) (.int 60)))
 .nil))
 (.seq (.ret (.bin .Mod (.var 2) (.int 60)))
 .nil))))
def iI:Fn:=bC [] [dX] 5 DU
def DV:S:=(.seq (.asg (.nm 2) (.str "abcdefghijklmnopqrstuvwxyz"))
 (.seq (.asg (.nm 3) (.mt "join" (.str "") (.cons (.comp 1 [2,0] ["_law_k","_law_letters","_law_cell_here"] (.nm 0) (.fA (.cons (.bin .Mod (.call 0 "_law_mix" (.cons (.var 0) (.cons (.int 29) .nil))) (.int 10)) .nil)) .nil (.ix (.var 1) (.bin .Mod (.call 0 "_law_mix" (.cons (.var 2) (.cons (.bin .Add (.int 30) (.var 0)) .nil))) (.int 26)))) .nil)))
 (.seq (.asg (.nm 4) (.bin .Mod (.call 0 "_law_mix" (.cons (.var 0) (.cons (.int 28) .nil))) (.bin .Add (.bi "len" (.cons (.var 3) .nil)) (.int 1))))
 (.seq (.asg (.nm 5) (.lst (.cons (.str "j") (.cons (.str "q") (.cons (.str "v") (.cons (.str "x") (.cons (.str "z") (.cons (.str "jz") (.cons (.str "qz") (.cons (.str "vz") (.cons (.str "xz") (.cons (.str "zj") .nil))))))))))))
 (.seq (.ret (.comp 1 [3,5,4,0] ["_law_k","_law_base","_law_signs","_law_at","_law_cell_here"] (.nm 0) (.fA (.cons (.var 1) .nil)) .nil (.bin .Add (.bin .Add (.sl (.var 1) .nil (.tv (.var 3))) (.ix (.var 2) (.bin .Mod (.bin .Add (.var 0) (.var 4)) (.int 10)))) (.sl (.var 1) (.tv (.var 3)) .nil))))
 .nil)))))
def DW:Fn:=bC [] [dX] 6 DV
def JI:S:=(.seq (.ret (.ix (.lst (.cons (.int 0) (.cons (.int 1) (.cons (.int 2) (.cons (.var 1) (.cons (.bin .Add (.var 1) (.int 1)) (.cons (.int 0) .nil))))))) (.bin .Mod (.var 0) (.int 6)))) .nil)
def tH:Fn:=bC [] [] 2 JI
def JJ:S:=(.seq (.asg (.nm 4) (.comp 1 [0,3,1,2] ["_law_k","_law_names_here","_law_great_here","_law_cell_here","_law_at"] (.nm 0) (.fA (.cons (.bi "len" (.cons (.var 0) .nil)) .nil)) .nil (.tup (.cons (.ix (.var 1) (.var 0)) (.cons (.call 0 "_law_degree" (.cons (.call 1 "_law_pick" (.cons (.var 3) (.cons (.bin .Add (.var 4) (.var 0)) .nil))) (.cons (.var 2) .nil))) .nil)))))
 (.seq (.ret (.lC "tuple" (.tv (.lC "sorted" (.tv (.comp 1 [] ["_law_pair"] (.nm 0) (.tv (.var 4)) (.tv (.cmp .Gt (.ix (.var 0) (.int 1)) (.int 0))) (.var 0)))))))
 .nil))
def ux:Fn:=bC [] [tH,iI] 5 JJ
def JK:S:=(.seq (.asg (.nm 2) (.lC "dict" (.tv (.var 1))))
 (.seq (.asg (.nm 3) (.comp 1 [2] ["_law_pair","_law_some"] (.nm 0) (.tv (.var 0)) .nil (.tup (.cons (.ix (.var 0) (.int 0)) (.cons (.bi "min" (.cons (.ix (.var 0) (.int 1)) (.cons (.mt "get" (.var 1) (.cons (.ix (.var 0) (.int 0)) (.cons (.int 0) .nil))) .nil))) .nil)))))
 (.seq (.ret (.lC "tuple" (.tv (.comp 1 [] ["_law_pair"] (.nm 0) (.tv (.var 3)) (.tv (.cmp .Gt (.ix (.var 0) (.int 1)) (.int 0))) (.var 0)))))
 .nil)))
def xF:Fn:=bC [] [] 4 JK
def JL:S:=(.seq (.bV (.tv (.var 1))
 (.seq (.ret (.bin .Add (.int 3) (.bin .Mod (.bin .FloorDiv (.var 0) (.int 60)) (.bin .Sub (.bin .Pow (.int 10) (.int 30)) (.int 4)))))
 .nil)
 .nil)
 (.seq (.ret (.bin .Add (.int 3) (.bin .Mod (.bin .Mult (.bin .Mult (.bin .Mult (.call 0 "_law_mix" (.cons (.var 0) (.cons (.int 50) .nil))) (.call 0 "_law_mix" (.cons (.var 0) (.cons (.int 51) .nil)))) (.call 0 "_law_mix" (.cons (.var 0) (.cons (.int 52) .nil)))) (.call 0 "_law_mix" (.cons (.var 0) (.cons (.int 53) .nil)))) (.bin .Sub (.bin .Pow (.int 10) (.int 30)) (.int 4)))))
 .nil))
def DX:Fn:=bC [] [dX] 2 JL
def JM:S:=(.seq (.ret (.tup (.cons (.call 0 "_law_pack" (.cons (.sl (.var 0) .nil (.tv (.int 2))) (.cons (.var 1) (.cons (.var 2) (.cons (.var 3) .nil))))) (.cons (.call 0 "_law_pack" (.cons (.sl (.var 0) (.tv (.int 1)) (.tv (.int 3))) (.cons (.var 1) (.cons (.bin .Add (.var 2) (.int 2)) (.cons (.var 3) .nil))))) .nil)))) .nil)
def xG:Fn:=bC [] [ux] 4 JM
def JN:S:=(.seq (.ret (.ix (.var 0) (.bi "int" (.cons (.cmp .Eq (.var 1) (.str "against")) .nil)))) .nil)
def xH:Fn:=bC [] [] 2 JN
def DY:S:=(.seq (.asg (.nm 3) (.call 4 "_law_case" (.cons (.var 0) (.cons (.var 1) (.cons (.int 4) (.cons (.var 2) .nil))))))
 (.seq (.asg (.nm 4) (.ix (.lst (.cons (.str "for") (.cons (.str "against") .nil))) (.bin .Mod (.call 0 "_law_pick" (.cons (.var 1) (.cons (.int 8) .nil))) (.int 2))))
 (.seq (.asg (.nm 5) (.call 3 "_law_side" (.cons (.var 3) (.cons (.var 4) .nil))))
 (.seq (.bV (.tv (.cmp .Gt (.bin .Mod (.call 0 "_law_pick" (.cons (.var 1) (.cons (.int 9) .nil))) (.int 3)) (.int 0)))
 (.seq (.asg (.nm 5) (.call 1 "_law_meet" (.cons (.var 5) (.cons (.call 2 "_law_pack" (.cons (.sl (.var 0) .nil (.tv (.int 3))) (.cons (.var 1) (.cons (.int 10) (.cons (.var 2) .nil))))) .nil))))
 .nil)
 .nil)
 (.seq (.ret (.tup (.cons (.var 3) (.cons (.var 4) (.cons (.var 5) .nil)))))
 .nil)))))
def zx:Fn:=bC [] [iI,xF,ux,xH,xG] 6 DY
def JO:S:=(.seq (.asg (.nm 2) (.lst (.cons (.tup (.cons (.ix (.var 1) (.int 0)) (.cons .aK .nil))) .nil)))
 (.seq (.bP (.nm 3) (.fA (.cons (.int 1) (.cons (.int 7) .nil)))
 (.seq (.asg (.nm 4) (.bin .Add (.bin .Add (.lst (.cons .aK .nil)) (.comp 1 [] ["_law_row"] (.nm 0) (.tv (.var 2)) .nil (.ix (.var 0) (.int 0)))) (.lst (.cons (.ix (.ix (.var 2) (.neg (.int 1))) (.int 0)) .nil))))
 (.seq (.mut "append" 2 (.cons (.tup (.cons (.ix (.var 1) (.var 3)) (.cons (.ix (.var 4) (.bin .Mod (.call 0 "_law_pick" (.cons (.var 0) (.cons (.var 3) .nil))) (.bi "len" (.cons (.var 4) .nil)))) .nil))) .nil))
 .nil)))
 (.seq (.ret (.var 2))
 .nil)))
def zy:Fn:=bC [] [iI] 5 JO
theorem DZ (c:PK b):tG [pk a,pk b]=.ok (.fr,.list ((a.filter λp=>decide (look b p.1<p.2)).map λp=>.str p.1)):=by exact eV (iX (Ir (C9 (aD rfl) rfl (Ib _ c.nd) (HM b)) (HL b)) (dD (Iv nofun (z3l (λp=>decide (look b p.1<p.2)) (λp=>.str p.1) (iT (v_var rfl (gP a)).1 rfl) rfl (λp=>[some (.al,.str p.1),some (.al,.int p.2),some (.al,.dict (en b))]) (λp _=>rfl) (λp _=>bU (hJ (aD rfl) (sR (aD rfl) (aJ (aD rfl) (aJ aM.e bG)) (Ia _ _) rfl).e rfl).e rfl) (λp _ _=>v_var rfl rfl)))))
theorem eq_nil (a:List D)(h:fO 39 a=true):cmpD .Eq (.list a) (.list [])=.ok a.isEmpty:=by show(if(bA 40 (.list a)&&bA 40 (.list []))=true then Res.ok (dZ (.list a) (.list []))else .no)=_;rw[qt (by show(fO 39 a&&true)=true;rw[h];rfl)];cases a<;>simp[dZ,PyData.eqv,PyData.eqvAll]
theorem zk (l:P):fO 39 (l.map λp=>PyData.str p.1)=true:=qA.mpr λx a=>by obtain⟨p,_,rfl⟩:=bp.mp a;rfl
def wi (a b:P):Bool:=(a.filter λp=>decide (look b p.1<p.2)).isEmpty
theorem tI (c:PK b):nM [pk a,pk b]=.ok (.fr,.bool (wi a b)):=by refine eV ?_;refine dD (eM (hJ (qW (aJ (aD rfl) (aJ (aD rfl) bG)) rfl (DZ c)) (Ev.of (mV fE)) ?_));rw[eq_nil _ (zk _)];unfold wi;rw[List.isEmpty_map]
theorem SG (c:PK a)(d:PK b):wi a b=true↔∀n,look a n<=look b n:=by
 unfold wi;rw[ml,nc];constructor
 ·intro h n;by_cases hn:n∈ks a
  ·obtain⟨v,e⟩:=QD hn;have:=h _ (CM e);have f:look a n=v:=by unfold look;rw[e];rfl
   simp at this;rw[f];omega
  ·have :look a n=0:=by unfold look;rw[HG hn];rfl
   rw[this];exact d.pH n
 ·intro h p g;have:=h p.1;rw[c.hI g]at this;simp;omega
def sd (b:Bool):Str:=if b then "for"else "against"
def own (b:Bool)(f a:P):P:=if b then f else a
def jQ (f a:P):D:=.tuple [pk f,pk a]
def rl (b:Bool)(f a r:P):D:=.tuple [jQ f a,.str (sd b),pk r]
theorem xI (f a:P):imm (jQ f a)=true:=by show imms [pk f,pk a]=true;rw[imms,imms,imms,gP,gP];rfl
theorem SH (b:Bool)(f a r:P):imm (rl b f a r)=true:=by show imms [jQ f a,.str (sd b),pk r]=true;rw[imms,imms,imms,xI,gP];rfl
theorem SI (b:Bool):tF [.str (sd b)]=.ok (.fr,.none):=by cases b<;>rfl
theorem SJ (h:Ev Κ Φ t a d):aU Κ Φ (.drop t) a=.ok (.nx a):=by obtain⟨g,h⟩:=h;show(aL Κ Φ t a>>=λ_=>Res.ok (Out.nx a))=_;rw[h];rfl
theorem D1 (b:Bool)(f a:P):nK [jQ f a,.str (sd b)]=.ok (.fr,pk (own b f a)):=by
 refine eV (iX (SJ (qW (aJ (aD rfl) bG) rfl (SI b))) ?_);cases b with
 |true=>exact dD (eM (Ip (k:=true) (bU (hJ (aD rfl) gD.e rfl).e rfl) (λ_=>aP (aD rfl) aM.e rfl (gP f)) (y:=pk f) λz=>by cases z))
 |false=>exact dD (eM (Ip (k:=false) (bU (hJ (aD rfl) gD.e rfl).e rfl) (x:=pk a) nofun λ_=>aP (aD rfl) aM.e rfl (gP a)))
theorem D4 (h:0<b)(c:b<2 ^ 200):dE .FloorDiv (.int a) (.int b)=.ok (.int (a/b)):=by show(if _ then _ else _)=_;rw[qt ⟨h,c⟩]
theorem SK (cs:List Int):hX "len" [.list (cs.map .int)]=.ok (.int (cs.length:Int)):=by show Res.ok (PyData.int ((cs.map PyData.int).length:Int))=_;rw[am]
theorem gK (e:Ev Κ Φ a f x)(g:Oo Κ Φ b f i)(k:Oo Κ Φ c f j)(h:oP x i j=.ok d):Ev Κ Φ (.sl a b c) f d:=by obtain⟨l,e⟩:=e;unfold Oo at g k;exact⟨_,by rw[wx];rw[e,Res.aB,g,Res.aB,k,Res.aB];dsimp only;rw[h,Res.aB]⟩
theorem SM {a c:Type}(f:a->c)(b:List a)(i j:Option Int):cut (b.map f) i j=(cut b i j).map f:=by unfold cut;rw[am,List.map_take,List.map_drop]
def ag (b:Bool)(f a r:P)(b':Bool)(f' a' r':P):Bool:=(!(b==b'))&&(wi r (own b f' a')&&wi r' (own b' f a))
theorem SN (b a:Bool):(sd b==sd a)=(b==a):=by cases b<;>cases a<;>rfl
theorem zA (hf:PK f)(c:PK a):PK (own b f a):=by cases b<;>assumption
theorem D5 (hf:PK f)(q:PK a)(l:PK m)(n:PK o):gI [rl b f a r,rl p m o s]=.ok (.fr,.bool (ag b f a r p m o s)):=by refine eV ?_;have c:∀{Φ:List Fn} {d:Rho} {i:Nat} {g:G} {b:Bool} {f a r:P},d[i]?=some (some (g,rl b f a r))->Vv [] Φ (.ix (.var i) (.int 1)) d (.str (sd b)):=λh=>aP (aD h) aM.e rfl rfl;have j:∀{Φ:List Fn} {d:Rho} {i:Nat} {g:G} {b:Bool} {f a r:P},d[i]?=some (some (g,rl b f a r))->Vv [] Φ (.ix (.var i) (.int 2)) d (pk r):=λh=>aP (aD h) aM.e rfl (gP _);have k:∀{Φ:List Fn} {d:Rho} {i:Nat} {g:G} {b:Bool} {f a r:P},d[i]?=some (some (g,rl b f a r))->Vv [] Φ (.ix (.var i) (.int 0)) d (jQ f a):=λh=>aP (aD h) aM.e rfl (xI _ _);refine dD (eM (v_and (hJ (c rfl).e (c rfl).e (by show Res.ok (!(sd b==sd p))=_;rw[SN])).e λ_=>v_and (dP (aJ (j rfl).e (aJ (qW (aJ (k rfl).e (aJ (c rfl).e bG)) rfl (D1 b m o)) bG)) rfl (tI (zA l n)) rfl).e λ_=>dP (aJ (j rfl).e (aJ (qW (aJ (k rfl).e (aJ (c rfl).e bG)) rfl (D1 p f a)) bG)) rfl (tI (zA hf q)) rfl))
def Nx (I:Rho->Prop)(z:Res Out):Prop:=∃jK,z=.ok (.nx jK)/\I jK
theorem xJ (a:imm d=true):fB (.nm j) (gJ d g,d) ρ=.ok (ρ.set j (some (.al,d))):=by rw[mT a];rfl
theorem q_nm {Q:Res Out->Prop}{c:Type}{m:c->D}{xs:List c}(h:evF Κ Φ e n=.ok (g,xs.map m,d))(hm:∀x,imm (m x)=true)(I:List c->Rho->Prop)(h0:I [] d)
  (hf:∀pre x a n,xs=pre++x::a->I pre n->Nx (I (pre++[x])) (aU Κ Φ p (n.set j (some (.al,m x))))) (hk:∀b,I xs b->Q (aU Κ Φ rest b)):Q (aU Κ Φ (.seq (.bP (.nm j) e p) rest) n):=
 zso h I h0 (λpre x a n f i=>by obtain⟨b,k,l⟩:=hf pre x a n f i;exact⟨_,b,xJ (hm x),k,l⟩) hk
theorem xK {b:Type}(m:b->D){a:List b}{i:Int}(d:b)(h0:0<=i)(c:i<a.length):gW (.list (a.map m)) (.int i)=.ok (m (a.getD i.toNat d)):=by
 show Res.eJ (cF (a.map m) i)=_;rw[yR _ i (m d) h0 (by rw[am];exact c)]
 congr 1
 have:i.toNat<a.length:=by omega
 rw[ac,ac,av,ah this];rfl
theorem D6 (a:List D):hX "len" [.list a]=.ok (.int (a.length:Int)):=rfl
theorem zB {a:Type}{m:a->D}(h:∀x,imm (m x)=true)(b:List a):imms (b.map m)=true:=vg.mpr λx c=>by obtain⟨p,_,rfl⟩:=bp.mp c;exact h p
theorem JP {s:Type}{m:s->D}{Q:Res Out->Prop}(I:List s->Rho->Prop):∀k pre j,(∀l x n j,pre++k=l++x::n->I l j->(∃i,f (m x) j=.ok (.nx i)/\I (l++[x]) i)\/∃g d,f (m x) j=.ok (.rt g d)/\Q (.ok (.rt g d)))->I pre j->(∃i,cZ f (k.map m) j=.ok (.nx i)/\I (pre++k) i)\/∃g d,cZ f (k.map m) j=.ok (.rt g d)/\Q (.ok (.rt g d))
 | [],pre,j,_,h=>.inl ⟨j,rfl,by rw[dz];exact h⟩
 |x::k,pre,j,hf,h=>by
  rcases hf pre x k j rfl h with⟨i,e,u⟩|⟨g,d,e,q⟩
  ·have t:pre++x::k=(pre++[x])++k:=by simp
   rcases JP I k (pre++[x]) i (λa b c r hh=>hf a b c r (t.trans hh)) u with⟨o,p,v⟩|⟨g,d,p,q⟩
   ·exact .inl ⟨o,by rw[bn];show(match f (m x) j with|.ok (.nx i)=>cZ f (k.map m) i|.ok (.rt g d)=>.ok (.rt g d)|.exc e=>.exc e|.no=>.no)=_;rw[e];exact p,by rw[t];exact v⟩
   ·exact .inr ⟨g,d,by rw[bn];show(match f (m x) j with|.ok (.nx i)=>cZ f (k.map m) i|.ok (.rt g d)=>.ok (.rt g d)|.exc e=>.exc e|.no=>.no)=_;rw[e];exact p,q⟩
  ·exact .inr ⟨g,d,by rw[bn];show(match f (m x) j with|.ok (.nx i)=>cZ f (k.map m) i|.ok (.rt g d)=>.ok (.rt g d)|.exc e=>.exc e|.no=>.no)=_;rw[e],q⟩
theorem zto {Q:Res Out->Prop}{k:Type}{m:k->D}{xs:List k}(h:evF Κ Φ s ρ=.ok (g,xs.map m,j))(I:List k->Rho->Prop)(h0:I [] j)
  (hf:∀pre x c ρ,xs=pre++x::c->I pre ρ->∃a,fB o (gJ (m x) g,m x) ρ=.ok a/\(Nx (I (pre++[x])) (aU Κ Φ p a)\/∃g d,aU Κ Φ p a=.ok (.rt g d)/\Q (.ok (.rt g d)))) (hk:∀b,I xs b->Q (aU Κ Φ rest b)):Q (aU Κ Φ (.seq (.bP o s p) rest) ρ):=by
 rcases JP (f:=λx j=>fB o (gJ x g,x) j>>=λa=>aU Κ Φ p a) I xs [] j (λpre x c ρ t u=>by
  obtain⟨a,e,hh⟩:=hf pre x c ρ t u;rcases hh with⟨b,l,n⟩|⟨r,d,l,n⟩
  ·exact .inl ⟨b,by rw[e,Res.aB,l],n⟩
  ·exact .inr ⟨r,d,by rw[e,Res.aB,l],n⟩) h0 with⟨b,e,i⟩|⟨r,d,e,q⟩
 ·rw[iX (Dc h e) rfl];exact hk b i
 ·rw[dD (Dc h e)];exact q
theorem SO {a:Type}{b:List a}{x:a×Nat}(h:x∈b.zipIdx):b[x.2]?=some x.1:=kr.mp h
theorem pS (c:Int)(h0:0<=k)(f:k<=100):∃m,(0<=m/\m<2147483587)/\dX [.int c,.int k]=.ok (.fr,.int m):=by generalize b:(c%2147483647+7919*k*k+k*k+1)*48271%2147483629=a;refine⟨a*a%2147483587,⟨fv _ dc,iw _ dc⟩,eV ?_⟩;exact iX (pI (d:=.int a) (by rw[<-b];exact bL (bL (bL (bL (bL (bL (aD rfl) aM.e (eL dc) rfl).e (bL (bL aM.e (aD rfl) (C3 dc) rfl).e (aD rfl) (wt ⟨by omega,by omega⟩) rfl).e rfl rfl).e (bL (aD rfl) (aD rfl) (C3 ⟨by omega,by omega⟩) rfl).e rfl rfl).e aM.e rfl rfl).e aM.e (wt dc) rfl).e aM.e (eL dc) rfl)) (dD (eM (bL (bL (aD rfl) (aD rfl) (C3 ⟨by omega,by omega⟩) rfl).e aM.e (eL dc) rfl)))
theorem JQ (a:List Int)(d:a.length<=63)(h0:0<=k):∃v,pR [.list (a.map .int),.int k]=.ok (.fr,.int v):=by
 have c:Tt [] [] (.tv (.cmp .Lt (.var 1) (.bi "len" (.cons (.var 0) .nil)))) [some (.od,.list (a.map .int)),some (.od,.int k)] (decide (k<a.length)):=bU (hJ (aD rfl) (eW (aJ (aD rfl) bG) (by show Res.ok (PyData.int ((a.map PyData.int).length:Nat))=_;rw[am]) rfl).e rfl).e rfl;cases b:decide (k<a.length)with
 |true=>exact⟨_,eV (wF c b (dD (eM (aP (aD rfl) (aD rfl) (C1 h0 (qx b)) rfl))))⟩
 |false=>exact⟨0,eV (wG c b (dD (eM aM)))⟩
def clD (c:Int×Bool):D:=.tuple [.int c.1,.bool c.2]
theorem JR (c:Int×Bool):imm (clD c)=true:=rfl
theorem SQ (a:List Int){k:Int}(h0:0<=k)(d:k<a.length)(g:k<=100)(f:Bool):∃c,DT [.list (a.map .int),.int k,.bool f]=.ok (.fr,clD c):=by
 have b:∀{Φ:List Fn},Vv [] Φ (.ix (.var 0) (.var 1)) [some (.od,.list (a.map .int)),some (.od,.int k),some (.od,.bool f)] (.int (a.getD k.toNat 0)):=aP (aD rfl) (aD rfl) (C1 h0 d) rfl;obtain⟨m,_,hm⟩:=pS (a.getD k.toNat 0) h0 g;cases f with
 |true=>exact⟨(_,true),eV (wF (bU (aD rfl) rfl) rfl (dD (eM (mU (bM b (bM wy fE))))))⟩
 |false=>exact⟨(m,false),eV (wG (bU (aD rfl) rfl) rfl (dD (eM (mU (bM (dP (aJ b.e (aJ (aD rfl) bG)) rfl hm rfl) (bM wy fE))))))⟩
theorem SR (h:Vv Κ Φ t ρ (.tuple [x,y]))(b:imm x=true)(c:imm y=true):aU Κ Φ (.asg (.tp [i,j]) t) ρ=.ok (.nx ((ρ.set i (some (.al,x))).set j (some (.al,y)))):=by
 show(aL Κ Φ t ρ>>=λz=>fB (.tp [i,j]) z ρ>>=λa=>Res.ok (Out.nx a))=_;rw[h.1,Res.aB,show fB (.tp [i,j]) (G.fr,PyData.tuple [x,y]) ρ=.ok ((ρ.set i (some (.al,x))).set j (some (.al,y)))from ?_]
 ·rfl
 ·have :=Iy (i:=i) (j:=j) (g:=.fr) (ρ:=ρ) b c;rw[mT (by show imms [x,y]=true;rw[imms,imms,b,c];rfl)]at this;exact this
theorem xM (c:Int×Bool)(h0:0<=k)(a:k<=100):∃m,(0<=m/\m<60)/\iI [clD c,.int k]=.ok (.fr,.int m):=by
 obtain⟨n,f⟩:=c
 suffices h:∃m,(0<=m/\m<60)/\aU [] [dX] DU [some (.od,clD (n,f)),some (.od,.int k),none,none,none]=.ok (.rt .fr (.int m)) by obtain⟨m,a,i⟩:=h;exact⟨m,a,eV i⟩
 let Q:Res Out->Prop:=λz=>∃m,(0<=m/\m<60)/\z=.ok (.rt .fr (.int m))
 show Q _;refine fJ (SR (v_var rfl rfl) rfl rfl) ?_;obtain⟨m,_,hm⟩:=pS n h0 a;cases f with
 |false=>refine⟨m%60,⟨fv _ dc,iw _ dc⟩,?_⟩;exact wF (vM (bU (aD rfl) rfl)) rfl (dD (eM (bL (dP (aJ (aD rfl) (aJ (aD rfl) bG)) rfl hm rfl).e aM.e (eL dc) rfl)))
 |true=>
  refine Iz (vM (bU (aD rfl) rfl)) rfl (q_nm (Iw (aJ (aD rfl) bG) (yS h0 (by omega))) (λ_=>rfl) (λ_ b=>∃z d,b=[some (.od,clD (n,true)),some (.od,.int k),some (.al,.int z),some (.al,.bool true),d]) ⟨n,none,rfl⟩ ?_ ?_)
  ·rintro pre x g b j ⟨z,d,rfl⟩
   exact⟨_,iX (pI (bL (aD rfl) aM.e (D4 dc dc) rfl)) ud,z/60,some (.al,.int x),rfl⟩
  ·rintro b ⟨z,d,rfl⟩
   exact⟨z%60,⟨fv _ dc,iw _ dc⟩,dD (eM (bL (aD rfl) aM.e (eL dc) rfl))⟩
theorem SS (c:Int)(f:Bool):∃g,3<=g/\DX [.int c,.bool f]=.ok (.fr,.int g):=by
 obtain⟨a,n,i⟩:=pS c (k:=50) dc dc;obtain⟨m1,a1,j⟩:=pS c (k:=51) dc dc;obtain⟨b,a2,l⟩:=pS c (k:=52) dc dc;obtain⟨d,a3,m⟩:=pS c (k:=53) dc dc;have h:∀{Φ:List Fn},Vv [] Φ (.bin .Sub (.bin .Pow (.int 10) (.int 30)) (.int 4)) [some (.od,.int c),some (.od,.bool f)] (.int 999999999999999999999999999996):=bL (bL aM.e aM.e QX rfl).e aM.e rfl rfl;cases f with
 |true=>exact⟨3+c/60%999999999999999999999999999996,by have:=fv (c/60) (show 999999999999999999999999999996≠0 by decide);omega,eV (wF (bU (aD rfl) rfl) rfl (dD (eM (bL aM.e (bL (bL (aD rfl) aM.e (D4 dc dc) rfl).e h.e (eL dc) rfl).e rfl rfl))))⟩
 |false=>exact⟨3+a*m1*b*d%999999999999999999999999999996,by have:=fv (a*m1*b*d) (show 999999999999999999999999999996≠0 by decide);omega,eV (wG (bU (aD rfl) rfl) rfl (dD (eM (bL aM.e (bL (bL (bL (bL (dP (aJ (aD rfl) (aJ aM.e bG)) rfl i rfl).e (dP (aJ (aD rfl) (aJ aM.e bG)) rfl j rfl).e (wt ⟨by omega,by omega⟩) rfl).e (dP (aJ (aD rfl) (aJ aM.e bG)) rfl l rfl).e (wt ⟨by omega,by omega⟩) rfl).e (dP (aJ (aD rfl) (aJ aM.e bG)) rfl m rfl).e (wt ⟨by omega,by omega⟩) rfl).e h.e (eL dc) rfl).e rfl rfl))))⟩
theorem SU (a:0<=k):∃n,tH [.int k,.int g]=.ok (.fr,.int n):=by refine⟨[0,1,2,g,g+1,0].getD (k%6).toNat 0,eV ?_⟩;exact dD (eM (aP (Ev.of (mV (bM aM (bM aM (bM aM (bM (v_var rfl rfl) (bM (bL (aD rfl) aM.e rfl rfl) (bM aM fE)))))))) (bL (aD rfl) aM.e (eL (by decide)) rfl).e (C1 (ns:=[0,1,2,g,g+1,0]) (by omega) (by show k%6<6;omega)) rfl))
theorem SV (a b:Str):(a++b).cps.toList=a.cps.toList++b.cps.toList:=by show(a.cps++b.cps).toList=_;simp
theorem SW {a b:Type}{f:a->b}{l:List a}(h:∀x∈l,∀y∈l,f x=f y->x=y)(nd:l.Nodup):(l.map f).Nodup:=jx.mpr (nd.imp_of_mem λc d hn e=>hn (h _ c _ d e))
def rj:List Str:=["j","q","v","x","z","jz","qz","vz","xz","zj"]
theorem SX:rj.Nodup:=by decide+kernel
theorem SY (c:Int)(hn:n<=10):∃ns:List Str,(ns.length=n/\ns.Nodup)/\DW [.int c,.int n]=.ok (.fr,.list (ns.map .str)):=by
 suffices h:∃ns:List Str,(ns.length=n/\ns.Nodup)/\aU [] [dX] DV [some (.od,.int c),some (.od,.int n),none,none,none,none]=.ok (.rt .fr (.list (ns.map .str))) by obtain⟨ns,g,p⟩:=h;exact⟨ns,g,eV p⟩
 let Q:Res Out->Prop:=λr=>∃ns:List Str,(ns.length=n/\ns.Nodup)/\r=.ok (.rt .fr (.list (ns.map .str)))
 show Q _;obtain⟨m1,⟨P,_⟩,I⟩:=pS c (k:=29) dc dc;obtain⟨q,⟨R,_⟩,J⟩:=pS c (k:=28) dc dc;have hm:∀i:Nat,i<10->∃m,0<=m/\dX [.int c,.int (30+i)]=.ok (.fr,.int m):=λi b=>by obtain⟨m,g,p⟩:=pS c (k:=30+i) (by omega) (by omega);exact⟨m,g.1,p⟩
 refine fJ (pI gD) ?_
 let f:Nat->Int:=λi=>if h:i<10 then(hm i h).choose else 0
 have hf:∀i,i<10->0<=f i/\dX [.int c,.int (30+i)]=.ok (.fr,.int (f i)):=λi b=>by show 0<=(if h:i<10 then(hm i h).choose else 0)/\dX _=.ok (.fr,.int (if h:i<10 then(hm i h).choose else 0));rw[dif_pos b];exact(hm i b).choose_spec
 have A:=z3l (Κ:=[]) (Φ:=[dX]) (ρ:=[some (.od,.int c),some (.od,.int n),some (.al,.str "abcdefghijklmnopqrstuvwxyz"),none,none,none]) (nt:=1) (js:=[2,0]) (N':=["_law_k","_law_letters","_law_cell_here"]) (tg:=.nm 0) (it:=.fA (.cons (.bin .Mod (.call 0 "_law_mix" (.cons (.var 0) (.cons (.int 29) .nil))) (.int 10)) .nil)) (cond:=.nil) (elt:=.ix (.var 1) (.bin .Mod (.call 0 "_law_mix" (.cons (.var 2) (.cons (.bin .Add (.int 30) (.var 0)) .nil))) (.int 26))) (λ_=>true) (λi=>PyData.str (chr "abcdefghijklmnopqrstuvwxyz" (f i%26)))
  (wB (aJ (bL (dP (aJ (aD rfl) (aJ aM.e bG)) rfl I rfl).e aM.e (eL dc) rfl).e bG) (yS (by omega) (by omega))) rfl (λi=>[some (.al,.int i),some (.al,.str "abcdefghijklmnopqrstuvwxyz"),some (.od,.int c)]) (λ_ _=>rfl) (λ_ _=>rfl) λi b _=>by
   have b:i<10:=by have:=gj.mp b;omega
   obtain⟨S,K⟩:=hf i b;exact aP (aD rfl) (bL (dP (aJ (aD rfl) (aJ (bL aM.e (aD rfl) rfl rfl).e bG)) rfl K rfl).e aM.e (eL dc) rfl).e (Ar (by omega) (by show f i%26<26;omega) dc) rfl
 let o:List Str:=(cg (m1%10).toNat).map λi=>chr "abcdefghijklmnopqrstuvwxyz" (f i%26)
 have t:(((cg (m1%10).toNat).filter λ_=>true).map λi=>PyData.str (chr "abcdefghijklmnopqrstuvwxyz" (f i%26)))=o.map .str:=by rw[fz.mpr λ_ _=>rfl];rw[ge];rfl
 rw[t]at A;have g:∀s∈o,s.length=1:=λs hs=>by obtain⟨i,_,rfl⟩:=bp.mp hs;rfl
 have L:o.length=(m1%10).toNat:=by rw[am,d4]
 have M:=QY o g;generalize N:qF "" o=B at M;refine fJ (pI (d:=.str B) (N▸sR gD.e (aJ (Ev.of A) bG) (QZ g (by omega)) rfl)) ?_;have u:0<=q%(B.length+1):=fv _ (by omega);refine fJ (pI (d:=.int (q%(B.length+1))) (bL (dP (aJ (aD rfl) (aJ aM.e bG)) rfl J rfl).e (bL (eW (aJ (aD rfl) bG) (by show(if B.length<=aR then Res.ok (PyData.int B.length)else Res.no)=_;rw[qt (by unfold aR;omega)]) rfl).e aM.e rfl rfl).e (eL (by omega)) rfl)) ?_;generalize q%(B.length+1)=a at u;refine fJ (wC (mV (bM gD (bM gD (bM gD (bM gD (bM gD (bM gD (bM gD (bM gD (bM gD (bM gD fE))))))))))) rfl) ?_;have v:∀k,(rj.getD k ⟨#[]⟩).length<=2:=λk=>by rcases k with _|_|_|_|_|_|_|_|_|_|k<;>first|decide|exact db _
 let w:Nat->Str:=λi=>lE B none (some a)++rj.getD ((i+c)%10).toNat ⟨#[]⟩++lE B (some a) none
 have O:=z3l (Κ:=[]) (Φ:=[dX]) (ρ:=[some (.od,.int c),some (.od,.int n),some (.al,.str "abcdefghijklmnopqrstuvwxyz"),some (.al,.str B),some (.al,.int a),some (.fr,.list (rj.map .str))]) (nt:=1) (js:=[3,5,4,0]) (N':=["_law_k","_law_base","_law_signs","_law_at","_law_cell_here"]) (tg:=.nm 0) (it:=.fA (.cons (.var 1) .nil)) (cond:=.nil) (elt:=.bin .Add (.bin .Add (.sl (.var 1) .nil (.tv (.var 3))) (.ix (.var 2) (.bin .Mod (.bin .Add (.var 0) (.var 4)) (.int 10)))) (.sl (.var 1) (.tv (.var 3)) .nil)) (λ_=>true) (λi=>PyData.str (w i)) (wB (aJ (aD rfl) bG) (yS (by omega) (by omega))) rfl (λi=>[some (.al,.int i),some (.al,.str B),some (.al,.list (rj.map .str)),some (.al,.int a),some (.od,.int c)]) (λ_ _=>rfl) (λ_ _=>rfl) λi b _=>by have T:=Ic B none (some a);have U:=Ic B (some a) none;have V:=v ((i+c)%10).toNat;have W:=QW (lE B none (some a)) (rj.getD ((i+c)%10).toNat ⟨#[]⟩);exact bL (bL (wz (aD rfl) nU (jO (aD rfl)) (yi (by omega)) rfl).e (aP (aD rfl) (bL (bL (aD rfl) (aD rfl) rfl rfl).e aM.e (eL dc) rfl).e (mS (by omega) (by show(i+c)%10<10;omega)) rfl).e (add_str (by omega)) rfl).e (wz (aD rfl) (jO (aD rfl)) nU (yi (by omega)) rfl).e (add_str (by omega)) rfl
 refine⟨(cg n).map w,⟨by rw[am,d4],SW (λx C y D e=>?_) List.nodup_range⟩,dD (Iv (λ_ z=>nomatch z) (O.trans ?_))⟩
 ·have C:=gj.mp C;have D:=gj.mp D;have E:=congrArg (λs:Str=>s.cps.toList) e;simp only[w,SV,i3]at E;have F:=HF (List.append_cancel_right (List.append_cancel_left E));have G:((x+c)%10).toNat<rj.length:=by show _<10;omega
  have H:((y+c)%10).toNat<rj.length:=by show _<10;omega
  rw[ac,ac,ah G,ah H]at F;have:=(λ{l i j} b X nd h=>(List.getElem_inj nd).mp h) G H SX F;omega
 ·rw[fz.mpr λ_ _=>rfl,ge];rfl
def mr (p:Bool×P×P×P):D:=rl p.1 p.2.1 p.2.2.1 p.2.2.2
theorem ro (p:Bool×P×P×P):imm (mr p)=true:=SH _ _ _ _
def lK (p q:Bool×P×P×P):Bool:=ag p.1 p.2.1 p.2.2.1 p.2.2.2 q.1 q.2.1 q.2.2.1 q.2.2.2
structure GR (p:Bool×P×P×P):Prop where
 f:PK p.2.1
 a:PK p.2.2.1
 r:PK p.2.2.2
 w:wi p.2.2.2 (own p.1 p.2.1 p.2.2.1)=true
theorem tJ (b:GR p)(c:GR q):gI [mr p,mr q]=.ok (.fr,.bool (lK p q)):=D5 b.f b.a c.f c.a
theorem S2 (ps:List (Bool×P×P×P)):imms (ps.map mr)=true:=zB ro ps
theorem JS {b:Type}(f:b->D):∀(a:List b) (k:Nat),z29 k (a.map f)=(a.zipIdx k).map λx=>.tuple [.int x.2,f x.1]
 | [],_=>rfl
 |x::a,k=>by rw[bn,z29,List.zipIdx_cons,bn,JS f a (k+1)]
theorem S3 {ps:List (Bool×P×P×P)}(h:a[i]?=some (some (.od,.list (ps.map mr))))(b:ps.length<=1000):evF Κ Φ (.enum (.var i)) a=.ok (.al,ps.zipIdx.map λx=>.tuple [.int x.2,mr x.1],a):=by rw[Rg (by rw[wu];rw[h];rfl) rfl (Ri (S2 ps) (by grind)),JS]
def xO:Option Nat->D
 |none=>.none
 |some k=>.int k
theorem S4 {b:Type}{G:b->Bool}{pre a:List b}{x:b}(h:∀y∈pre,G y=false)(c:G x=true):(pre++x::a).findIdx? G=some pre.length:=by grind
theorem D7 {ps:List (Bool×P×P×P)}(c:∀p∈ps,GR p)(o:GR q)(r:ps.length<=1000):pP [.list (ps.map mr),mr q]=.ok (.fr,xO (ps.findIdx? λp=>lK p q)):=by
 refine eV ?_
 let Q:Res Out->Prop:=λz=>z=.ok (.rt .fr (xO (ps.findIdx? λp=>lK p q)))
 show Q _;refine zto (S3 rfl r) (λpre d=>(∀y∈pre,lK y.1 q=false)/\∃f g,d=[some (.od,.list (ps.map mr)),some (.od,mr q),f,g]) ⟨nofun,none,none,rfl⟩ ?_ ?_
 ·rintro pre x a d h ⟨hn,f,g,rfl⟩
  have i:=SO (h▸br _ bj);have hs:ps=pre.map (·.1)++x.1::a.map (·.1):=by have:=congrArg (qr (·.1)) h;rw[List.zipIdx_map_fst,dh]at this;exact this
  have j:x.2=pre.length:=by
   have:=congrArg (λl:List ((Bool×P×P×P)×Nat)=>l[pre.length]?) h;simp only[dj (ae _),k7,List.getElem?_cons_zero,List.getElem?_zipIdx]at this;cases hh:ps[pre.length]? with
   |none=>rw[hh]at this;cases this
   |some y=>rw[hh]at this;cases this;simp
  refine⟨_,Iy rfl (ro x.1),?_⟩;have n:Tt [] [gI] (.tv (.call 0 "against" (.cons (.var 3) (.cons (.var 1) .nil)))) [some (.od,.list (ps.map mr)),some (.od,mr q),some (.al,.int x.2),some (.al,mr x.1)] (lK x.1 q):=bU (dP (aJ (aD rfl) (aJ (aD rfl) bG)) rfl (tJ (c _ (aw i)) o) rfl).e rfl;cases b:lK x.1 q with
  |true=>
   refine .inr ⟨.fr,.int x.2,dD (wD n (λ_=>dD (eM (v_var rfl rfl))) λz=>by rw[b]at z;cases z),?_⟩;show _=_;have e:(ps.findIdx? λp=>lK p q)=some x.2:=by rw[hs,S4 (G:=λp=>lK p q) (λy m=>?_) b,am,j];obtain⟨z,i,rfl⟩:=bp.mp m;exact hn z i
   rw[e];rfl
  |false=>exact .inl ⟨_,iX (wD n (λz=>by rw[b]at z;cases z) λ_=>ud) ud,(λy m=>by
   rcases cz.mp m with z|z
   ·exact hn y z
   ·rw[bu.mp z];exact b),_,_,rfl⟩
 ·rintro d ⟨hn,f,g,rfl⟩
  have e:(ps.findIdx? λp=>lK p q)=none:=List.findIdx?_eq_none_iff.mpr λp c=>by obtain⟨k,s⟩:=ce.mp c;exact hn (p,k) (kr.mpr s)
  show aU _ _ _ _=_;rw[e];exact dD (eM yT)
theorem S5 (h:GR p):pO [jQ p.2.1 p.2.2.1,.str (sd p.1),pk p.2.2.2]=.ok (.fr,mr p):=by
 refine eV ?_;have c:Vv [] [nM,nK] (.call 0 "within" (.cons (.var 2) (.cons (.call 1 "side_of" (.cons (.var 0) (.cons (.var 1) .nil))) .nil))) [some (.od,jQ p.2.1 p.2.2.1),some (.od,.str (sd p.1)),some (.od,pk p.2.2.2)] (.bool true):=by have:=tI (a:=p.2.2.2) (zA (b:=p.1) h.f h.a);rw[h.w]at this;exact dP (aJ (aD rfl) (aJ (qW (aJ (aD rfl) (aJ (aD rfl) bG)) rfl (D1 p.1 _ _)) bG)) rfl this rfl
 exact wG (vM (bU c.e rfl)) rfl (dD (eM (mU (bM (v_var rfl (xI _ _)) (bM (v_var rfl rfl) (bM (v_var rfl (gP _)) fE))))))
theorem S6 (a:f.length<=2):pQ [.list f,.none]=.ok (.fr,.bool (f.length==1)):=by
 refine eV ?_;refine wF (bU (Q9 (aD rfl)).e rfl) rfl (dD (eM (hJ (eW (aJ (aD rfl) bG) rfl rfl).e aM.e ?_)));show Res.ok (dZ (.int _) (.int _))=_;rw[Ig]
 congr 1
 rw[nq,decide_eq_true_iff,beq_iff_eq];omega
theorem zC (l:P):imms (l.map pr)=true:=zB uc l
theorem S7 (a:l.length<64):aggD "sorted" true (l.map pr)=.ok (.list ((pG l).map pr)):=by show(if(true&&ym (l.map pr)&&decide ((l.map pr).length<64))=true then Res.ok (PyData.list (lX (l.map pr)))else .no)=_;rw[QJ,HR,am,qy a];rfl
theorem D8 {ns:List Str}(nd:ns.Nodup)(r:ns.length<=10)(c:Int×Bool)(z:0<=k)(A:k<=80):∃l,PK l/\ux [.list (ns.map .str),clD c,.int k,.int g]=.ok (.fr,pk l):=by
 have hd:∀i:Nat,i<10->∃n,∃m,iI [clD c,.int (k+i)]=.ok (.fr,.int m)/\tH [.int m,.int g]=.ok (.fr,.int n):=λi a=>by obtain⟨m,⟨s,_⟩,hm⟩:=xM c (k:=k+i) (by omega) (by omega);obtain⟨n,hn⟩:=SU s;exact⟨n,m,hm,hn⟩
 let f:Nat->Int:=λi=>if h:i<10 then(hd i h).choose else 0
 have t:∀i:Nat,i<10->∃m,iI [clD c,.int (k+i)]=.ok (.fr,.int m)/\tH [.int m,.int g]=.ok (.fr,.int (f i)):=λi a=>by show ∃m,_/\tH _=.ok (.fr,.int (if h:i<10 then(hd i h).choose else 0));rw[dif_pos a];exact(hd i a).choose_spec
 let d:P:=(cg ns.length).map λi=>(ns.getD i ⟨#[]⟩,f i)
 have j:ks d=ns:=by
  show(qr _ (qr _ _))=_;rw[ge];apply er;intro i;rw[av];by_cases a:i<ns.length
  ·rw[jc a];show some (ns.getD i ⟨#[]⟩)=_;rw[ac,ah a];rfl
  ·rw[eu (by grind),eu (by omega)];rfl
 let b:P:=d.filter λp=>decide (0<p.2)
 have o:(ks b).Nodup:=by have:(ks b).Sublist ns:=j▸List.filter_sublist.map _;exact this.nodup nd
 have B:b.length<=10:=by refine bq (et _ _) ?_;rw[am,d4];exact r
 refine⟨pG b,⟨HV o,λp u=>?_⟩,eV ?_⟩
 ·have :=(CS b).mem_iff.mp u;simpa using(d6.mp this).2
 have q:=z3l (Κ:=[]) (Φ:=[tH,iI]) (ρ:=[some (.od,.list (ns.map .str)),some (.od,clD c),some (.od,.int k),some (.od,.int g),none]) (nt:=1) (js:=[0,3,1,2]) (N':=["_law_k","_law_names_here","_law_great_here","_law_cell_here","_law_at"]) (tg:=.nm 0) (it:=.fA (.cons (.bi "len" (.cons (.var 0) .nil)) .nil)) (cond:=.nil) (elt:=.tup (.cons (.ix (.var 1) (.var 0)) (.cons (.call 0 "_law_degree" (.cons (.call 1 "_law_pick" (.cons (.var 3) (.cons (.bin .Add (.var 4) (.var 0)) .nil))) (.cons (.var 2) .nil))) .nil))) (xs:=cg ns.length) (λ_=>true) (λi=>pr (ns.getD i ⟨#[]⟩,f i)) (wB (aJ (eW (aJ (aD rfl) bG) (by rw[D6,am]) rfl).e bG) (yS (by omega) (by omega))) rfl (λi=>[some (.al,.int i),some (.od,.list (ns.map .str)),some (.od,.int g),some (.od,clD c),some (.od,.int k)]) (λ_ _=>rfl) (λ_ _=>rfl) λi a _=>by have a:=gj.mp a;obtain⟨m,v,x⟩:=t i (by omega);exact mU (bM (aP (aD rfl) (aD rfl) (mS (by omega) (by omega)) rfl) (bM (dP (aJ (dP (aJ (aD rfl) (aJ (bL (aD rfl) (aD rfl) rfl rfl).e bG)) rfl v rfl).e (aJ (aD rfl) bG)) rfl x rfl) fE))
 have y:(((cg ns.length).filter λ_=>true).map λi=>pr (ns.getD i ⟨#[]⟩,f i))=d.map pr:=by rw[fz.mpr λ_ _=>rfl];rw[ge];rfl
 rw[y]at q;exact iX (wC q (zC d)) (dD (eM (Iq (w:=(true,(pG b).map pr)) (Ev.of (C9 (w:=(true,b.map pr)) (Ev.of (z3l (ρ:=[some (.od,.list (ns.map .str)),some (.od,clD c),some (.od,.int k),some (.od,.int g),some (.fr,.list (d.map pr))]) (nt:=1) (js:=[]) (N':=["_law_pair"]) (tg:=.nm 0) (cond:=.tv (.cmp .Gt (.ix (.var 0) (.int 1)) (.int 0))) (elt:=.var 0) (λp=>decide (0<p.2)) pr (iT rfl rfl) rfl (λp=>[some (.al,pr p)]) (λp _=>xJ (uc p)) (λp _=>bU (hJ (aP (aD rfl) aM.e rfl rfl).e aM.e rfl).e rfl) λp _ _=>v_var rfl (uc p))) rfl (S7 (by omega)) (zC b))) rfl rfl (gP _))))
theorem S8 (f:PK a)(h:PK b):∃r,(PK r/\wi r a=true)/\xF [pk a,pk b]=.ok (.fr,pk r):=by
 let r0:P:=a.map λp=>(p.1,min p.2 (look b p.1))
 let r:P:=r0.filter λp=>decide (0<p.2)
 have c:Sd r0:=by exact jx.mpr f.sd
 refine⟨r,⟨⟨c.filter _,λp d=>by simpa using(d6.mp d).2⟩,?_⟩,eV ?_⟩
 ·unfold wi;rw[ml,nc];intro p d z;obtain⟨q,i,rfl⟩:=bp.mp (d6.mp d).1;have:=qx z;rw[show look a q.1=q.2 from f.hI i]at this;omega
 refine iX (Ir (C9 (aD rfl) rfl (Ib false h.nd) (zC b)) (HL b)) ?_;have j:aL [] [] (.var 0) [some (.od,pk a),some (.od,pk b),some (.fr,.dict (en b)),none]=.ok (.fr,pk a):=by show Res.ok (if imm (pk a)=true then G.fr else _,pk a)=_;rw[gP];rfl
 have g:=z3l (ρ:=[some (.od,pk a),some (.od,pk b),some (.fr,.dict (en b)),none]) (nt:=1) (js:=[2]) (N':=["_law_pair","_law_some"]) (tg:=.nm 0) (cond:=.nil) (elt:=.tup (.cons (.ix (.var 0) (.int 0)) (.cons (.bi "min" (.cons (.ix (.var 0) (.int 1)) (.cons (.mt "get" (.var 1) (.cons (.ix (.var 0) (.int 0)) (.cons (.int 0) .nil))) .nil))) .nil))) (λ_=>true) (λp=>pr (p.1,min p.2 (look b p.1))) (iT j rfl) rfl (λp=>[some (.al,pr p),some (.al,.dict (en b))]) (λp _=>xJ (uc p)) (λ_ _=>rfl) λp _ _=>mU (bM (aP (aD rfl) aM.e rfl rfl) (bM (eW (aJ (aP (aD rfl) aM.e rfl rfl).e (aJ (sR (aD rfl) (aJ (aP (aD rfl) aM.e rfl rfl).e (aJ aM.e bG)) (Ia b p.1) rfl).e bG)) (QU _ _) rfl) fE));have k:((a.filter λ_=>true).map λp=>pr (p.1,min p.2 (look b p.1)))=r0.map pr:=by rw[fz.mpr λ_ _=>rfl];rw[ge];rfl
 rw[k]at g;exact iX (wC g (zC r0)) (dD (eM (Iq (Ev.of (z3l (ρ:=[some (.od,pk a),some (.od,pk b),some (.fr,.dict (en b)),some (.fr,.list (r0.map pr))]) (nt:=1) (js:=[]) (N':=["_law_pair"]) (tg:=.nm 0) (cond:=.tv (.cmp .Gt (.ix (.var 0) (.int 1)) (.int 0))) (elt:=.var 0) (λp=>decide (0<p.2)) pr (iT rfl rfl) rfl (λp=>[some (.al,pr p)]) (λp _=>xJ (uc p)) (λp _=>bU (hJ (aP (aD rfl) aM.e rfl rfl).e aM.e rfl).e rfl) λp _ _=>v_var rfl (uc p))) rfl rfl (gP _))))
theorem uy {b:Type}(a:List b)(i j:Option Int):(cut a i j).Sublist a:=(lr _ _).trans (List.drop_sublist _ _)
theorem xP (i j:Option Int):oP (.list (ns.map .str)) i j=.ok (.list ((cut ns i j).map .str)):=by show Res.ok (PyData.list (cut (ns.map PyData.str) i j))=_;unfold cut;rw[am,List.map_take,List.map_drop]
theorem S9 {ns:List Str}(nd:ns.Nodup)(b:ns.length<=10)(c:Int×Bool)(d:0<=k)(l:k<=60):∃f a,(PK f/\PK a)/\xG [.list (ns.map .str),clD c,.int k,.int g]=.ok (.fr,jQ f a):=by obtain⟨f,hf,h⟩:=D8 ((uy ns none (some 2)).nodup nd) (bq (uy ns none (some 2)).length_le b) c d (show k<=80 by omega);obtain⟨a,i,j⟩:=D8 ((uy ns (some 1) (some 3)).nodup nd) (bq (uy ns (some 1) (some 3)).length_le b) c (show 0<=k+2 by omega) (show k+2<=80 by omega);refine⟨f,a,⟨hf,i⟩,eV ?_⟩;exact dD (eM (mU (bM (dP (aJ (gK (aD rfl) nU (jO aM.e) (xP _ _)) (aJ (aD rfl) (aJ (aD rfl) (aJ (aD rfl) bG)))) rfl h (gP _)) (bM (dP (aJ (gK (aD rfl) (jO aM.e) (jO aM.e) (xP _ _)) (aJ (aD rfl) (aJ (bL (aD rfl) aM.e rfl rfl).e (aJ (aD rfl) bG)))) rfl j (gP _)) fE))))
theorem S' (b:Bool)(f a:P):xH [jQ f a,.str (sd b)]=.ok (.fr,pk (own b f a)):=by
 refine eV ?_;cases b with
 |true=>exact dD (eM (aP (aD rfl) (eW (aJ (hJ (aD rfl) gD.e rfl).e bG) rfl rfl).e rfl (gP f)))
 |false=>exact dD (eM (aP (aD rfl) (eW (aJ (hJ (aD rfl) gD.e rfl).e bG) rfl rfl).e rfl (gP a)))
theorem Ta (h:Ev [] Φ t a (.int (w%2))):Vv [] Φ (.ix (.lst (.cons (.str "for") (.cons (.str "against") .nil))) t) a (.str (sd (decide (w%2=0)))):=by
 refine aP (Ev.of (mV (bM gD (bM gD fE)))) h ?_ rfl;rcases(show w%2=0\/w%2=1 by omega)with e|e
 ·rw[e];rfl
 ·rw[e];rfl
theorem Tb (b:PK a):wi a a=true:=(SG b b).mpr λ_=>qh _
theorem D9 {ns:List Str}(nd:ns.Nodup)(t:ns.length<=10)(c:Int×Bool)(g:Int):∃p,GR p/\zx [.list (ns.map .str),clD c,.int g]=.ok (.fr,mr p):=by
 obtain⟨f,a,⟨hf,u⟩,A⟩:=S9 nd t c (k:=4) dc dc;obtain⟨w,_,B⟩:=xM c (k:=8) dc dc;obtain⟨z,_,C⟩:=xM c (k:=9) dc dc;obtain⟨l,j,D⟩:=D8 ((uy ns none (some 3)).nodup nd) (bq (uy ns none (some 3)).length_le t) c (k:=10) dc dc;generalize E:decide (w%2=0)=b;have m:PK (own b f a):=zA hf u;obtain⟨r,⟨hr,F⟩,G⟩:=S8 m j
 suffices h:∃p,GR p/\aU [] [iI,xF,ux,xH,xG] DY [some (.od,.list (ns.map .str)),some (.od,clD c),some (.od,.int g),none,none,none]=.ok (.rt .fr (mr p)) by obtain⟨p,n,o⟩:=h;exact⟨p,n,eV o⟩
 let Q:Res Out->Prop:=λy=>∃p,GR p/\y=.ok (.rt .fr (mr p))
 show Q _;refine fJ (pI (dP (aJ (aD rfl) (aJ (aD rfl) (aJ aM.e (aJ (aD rfl) bG)))) rfl A (xI _ _))) (fJ (pI (d:=.str (sd b)) (by rw[<-E];exact Ta (bL (dP (aJ (aD rfl) (aJ aM.e bG)) rfl B rfl).e aM.e (eL dc) rfl).e)) (fJ (pI (dP (aJ (aD rfl) (aJ (aD rfl) bG)) rfl (S' b f a) (gP _))) ?_));have i:∀s Φ,PK s->wi s (own b f a)=true->∃p,GR p/\aU [] Φ (.seq (.ret (.tup (.cons (.var 3) (.cons (.var 4) (.cons (.var 5) .nil))))) .nil) [some (.od,.list (ns.map .str)),some (.od,clD c),some (.od,.int g),some (.al,jQ f a),some (.al,.str (sd b)),some (.al,pk s)]=.ok (.rt .fr (mr p)):=λs Φ n o=>⟨(b,f,a,s),⟨hf,u,n,o⟩,dD (eM (mU (bM (v_var rfl (xI _ _)) (bM (v_var rfl rfl) (bM (v_var rfl (gP _)) fE)))))⟩;have v:Tt [] [iI,xF,ux,xH,xG] (.tv (.cmp .Gt (.bin .Mod (.call 0 "_law_pick" (.cons (.var 1) (.cons (.int 9) .nil))) (.int 3)) (.int 0))) [some (.od,.list (ns.map .str)),some (.od,clD c),some (.od,.int g),some (.al,jQ f a),some (.al,.str (sd b)),some (.al,pk (own b f a))] (decide (0<z%3)):=bU (hJ (bL (dP (aJ (aD rfl) (aJ aM.e bG)) rfl C rfl).e aM.e (eL dc) rfl).e aM.e rfl).e rfl;cases x:decide (0<z%3)with
 |false=>exact Iz v x (i _ _ m (Tb m))
 |true=>exact fJ (wD v (λ_=>iX (pI (dP (aJ (aD rfl) (aJ (qW (aJ (gK (aD rfl) nU (jO aM.e) (xP _ _)) (aJ (aD rfl) (aJ aM.e (aJ (aD rfl) bG)))) rfl D) bG)) rfl G (gP _))) ud) λq=>by rw[x]at q;cases q) (i _ _ hr F)
theorem Tc (rs:List Cw)(r:Cw):gW (.list ((rs++[r]).map cwD)) (.int (-1))=.ok (cwD r):=by show Res.eJ (cF _ _)=_;unfold cF iL;rw[qu (by decide),am,bf,d5,qt (by omega)];show Res.eJ (((rs++[r]).map cwD)[((-1:Int)+((rs.length+1:Nat):Int)).toNat]?)=_;rw[show((-1:Int)+((rs.length+1:Nat):Int)).toNat=rs.length by omega,av,dj (ae _),k7];rfl
theorem Td {ns:List Str}(hn:n<=7)(d:1<=n)(R:n<=ns.length)(H:ns.length<=10)(c:Int×Bool)(I:zy=bC [] [iI] 5 (.seq (.asg (.nm 2) (.lst (.cons (.tup (.cons (.ix (.var 1) (.int 0)) (.cons .aK .nil))) .nil)))
 (.seq (.bP (.nm 3) (.fA (.cons (.int 1) (.cons (.int n) .nil)))
 (.seq (.asg (.nm 4) (.bin .Add (.bin .Add (.lst (.cons .aK .nil)) (.comp 1 [] ["_law_row"] (.nm 0) (.tv (.var 2)) .nil (.ix (.var 0) (.int 0)))) (.lst (.cons (.ix (.ix (.var 2) (.neg (.int 1))) (.int 0)) .nil))))
 (.seq (.mut "append" 2 (.cons (.tup (.cons (.ix (.var 1) (.var 3)) (.cons (.ix (.var 4) (.bin .Mod (.call 0 "_law_pick" (.cons (.var 0) (.cons (.var 3) .nil))) (.bi "len" (.cons (.var 4) .nil)))) .nil))) .nil))
 .nil)))
 (.seq (.ret (.var 2))
 .nil)))):∃rs,(GoodC rs/\rs.map (·.1)=ns.take n)/\zy [clD c,.list (ns.map .str)]=.ok (.fr,.list (rs.map cwD)):=by
 suffices h:∃rs,(GoodC rs/\rs.map (·.1)=ns.take n)/\aU [] [iI] (.seq (.asg (.nm 2) (.lst (.cons (.tup (.cons (.ix (.var 1) (.int 0)) (.cons .aK .nil))) .nil)))
 (.seq (.bP (.nm 3) (.fA (.cons (.int 1) (.cons (.int n) .nil)))
 (.seq (.asg (.nm 4) (.bin .Add (.bin .Add (.lst (.cons .aK .nil)) (.comp 1 [] ["_law_row"] (.nm 0) (.tv (.var 2)) .nil (.ix (.var 0) (.int 0)))) (.lst (.cons (.ix (.ix (.var 2) (.neg (.int 1))) (.int 0)) .nil))))
 (.seq (.mut "append" 2 (.cons (.tup (.cons (.ix (.var 1) (.var 3)) (.cons (.ix (.var 4) (.bin .Mod (.call 0 "_law_pick" (.cons (.var 0) (.cons (.var 3) .nil))) (.bi "len" (.cons (.var 4) .nil)))) .nil))) .nil))
 .nil)))
 (.seq (.ret (.var 2))
 .nil))) [some (.od,clD c),some (.od,.list (ns.map .str)),none,none,none]=.ok (.rt .fr (.list (rs.map cwD))) by obtain⟨rs,d,u⟩:=h;exact⟨rs,d,by rw[I];exact eV u⟩
 let Q:Res Out->Prop:=λy=>∃rs,(GoodC rs/\rs.map (·.1)=ns.take n)/\y=.ok (.rt .fr (.list (rs.map cwD)))
 show Q _;have t1:∀{k:Nat},k<ns.length->ns.take (k+1)=ns.take k++[ns.getD k ⟨#[]⟩]:=λ{k} J=>by rw[lh,ac,ah J];rfl
 refine fJ (wC (xs:=[cwD (ns.getD 0 ⟨#[]⟩,none)]) (mV (bM (mU (bM (aP (aD rfl) aM.e (mS dc (by omega)) rfl) (bM yT fE))) fE)) rfl) (q_nm (xs:=cg ((n:Int)-1).toNat) (Iw (aJ aM.e (aJ aM.e bG)) (by show(if _ then _ else _)=_;rw[qt (by unfold aR;omega)])) (λ_=>rfl) (λpre t=>pre=cg pre.length/\∃rs r v f,t=[some (.od,clD c),some (.od,.list (ns.map .str)),some (.fr,.list ((rs++[r]).map cwD)),v,f]/\GoodC (rs++[r])/\(rs++[r]).map (·.1)=ns.take (pre.length+1)) ⟨rfl,[],(ns.getD 0 ⟨#[]⟩,none),none,none,rfl,λk s a e=>?_,?_⟩ ?_ ?_)
 ·rcases k with _|k<;>cases e
 ·show[ns.getD 0 ⟨#[]⟩]=ns.take 1;rw[t1 (by omega)];rfl
 ·rintro pre x D t E ⟨w,rs,r,v,f,rfl,A,hm⟩
  have d:=congrArg lq E;rw[d4,bf,bh]at d;have g:x=pre.length:=by have:=congrArg (λl:List Nat=>l[pre.length]?) E;simp at this;rw[jc (by omega)]at this;exact(qv this)▸rfl
  have K:rs.length=pre.length:=by have:=congrArg lq hm;rw[am,bf,d5,c9]at this;omega
  let hs:List (Option Str):=none::((rs++[r]).map λq=>some q.1)++[some r.1]
  have L:hs.length=rs.length+3:=by rw[bf];simp
  have M:aL [] [iI] (.var 2) [some (.od,clD c),some (.od,.list (ns.map .str)),some (.fr,.list ((rs++[r]).map cwD)),some (.al,.int (1+x)),f]=.ok (.al,.list ((rs++[r]).map cwD)):=by rw[wu];rfl
  have F:=z3l (ρ:=[some (.od,clD c),some (.od,.list (ns.map .str)),some (.fr,.list ((rs++[r]).map cwD)),some (.al,.int (1+x)),f]) (nt:=1) (js:=[]) (N':=["_law_row"]) (tg:=.nm 0) (cond:=.nil) (elt:=.ix (.var 0) (.int 0)) (λ_=>true) (λq=>.str q.1) (iT M rfl) rfl (λq=>[some (.al,cwD q)]) (λq _=>xJ (tu q)) (λ_ _=>rfl) λq _ _=>aP (aD rfl) aM.e rfl rfl;rw[fz.mpr λ_ _=>rfl]at F;have i:hs.map fM=(PyData.none::(rs++[r]).map λq=>PyData.str q.1)++[.str r.1]:=by rw[dh,bn,ge];rfl
  have j:=zB DK hs;have B:imms (PyData.none::(rs++[r]).map λq=>PyData.str q.1)=true:=by show(true&&imms ((rs++[r]).map λq=>PyData.str q.1))=true;rw[zB (λ_=>rfl)];rfl
  have N:aL [] [iI] (.bin .Add (.bin .Add (.lst (.cons .aK .nil)) (.comp 1 [] ["_law_row"] (.nm 0) (.tv (.var 2)) .nil (.ix (.var 0) (.int 0)))) (.lst (.cons (.ix (.ix (.var 2) (.neg (.int 1))) (.int 0)) .nil))) [some (.od,clD c),some (.od,.list (ns.map .str)),some (.fr,.list ((rs++[r]).map cwD)),some (.al,.int (1+x)),f]=.ok (.fr,.list (hs.map fM)):=by rw[i];refine Io (x:=.list (PyData.none::(rs++[r]).map λq=>PyData.str q.1)) (Ev.of (Io (Ev.of (mV (bM yT fE))) (Ev.of F) (add_list (by rw[am];simp;omega)) B)) (Ev.of (mV (bM (aP (aP (aD rfl) (Ev.of rfl) (Tc rs r) (tu r)).e aM.e rfl rfl) fE))) (add_list (by rw[bh];simp;omega)) (i▸j)
  obtain⟨m,⟨S,_⟩,O⟩:=xM c (k:=1+x) (by omega) (by omega);have p:0<=m%(hs.length:Int):=fv _ (by omega);have kL:m%(hs.length:Int)<hs.length:=iw _ (by omega);generalize G:hs.getD (m%(hs.length:Int)).toNat none=o
  have C:∀a,o=some a->a∈(rs++[r]).map (·.1):=λa P=>by
   have b:o∈hs:=G▸getD_mem p kL;rw[P]at b;rcases cz.mp b with z|z
   ·rcases ax.mp z with z|z
    ·cases z
    ·obtain⟨q,d,u⟩:=bp.mp z;cases u;exact bp.mpr ⟨q,d,rfl⟩
   ·cases bu.mp z;exact bp.mpr ⟨r,br _ (bu.mpr rfl),rfl⟩
  refine⟨_,iX (wC N j) (iX (Rf (x:=cwD (ns.getD (1+x) ⟨#[]⟩,o)) (mU (bM (aP (aD rfl) (aD rfl) (mS (by omega) (by omega)) (by rfl)) (bM (aP (aD rfl) (bL (dP (aJ (aD rfl) (aJ (aD rfl) bG)) rfl O rfl).e (eW (aJ (aD rfl) bG) (by rw[D6,am]) rfl).e (eL (by omega)) rfl).e (by rw[xK fM none p kL,G]) (DK o)) fE))) rfl (by rw[am];simp;omega)) ud),?_,rs++[r],(ns.getD (1+x) ⟨#[]⟩,o),some (.al,.int (1+x)),qD (some (.fr,.list (hs.map fM))),?_,A.snoc C,?_⟩
  ·rw[bf,d5,List.range_succ,<-w,g]
  ·rw[dh (l₁:=rs++[r])];rfl
  ·rw[dh,hm,bf,d5,t1 (k:=pre.length+1) (by omega),<-g,Nat.add_comm x 1];rfl
 ·rintro t ⟨_,rs,r,v,f,rfl,A,hm⟩
  rw[d4]at hm;exact Dd (zfb rfl) ⟨rs++[r],⟨A,by rw[hm];congr 1;omega⟩,rfl⟩
open PySem.Spec PyProof.Rows L2
namespace L6
abbrev H0:W:=.nY (.raw 0) (.aV (.int 0))
abbrev H1:W:=.nY (.raw 0) (.aV (.int 1))
abbrev tK (k:Int):C:=.call 0 "_law_pick" (.cons (.var 4) (.cons (.int k) .nil))
abbrev N1:W:=.aV (.neg (.int 1))
abbrev n7:W:=.aV (.ix (.var 3) (.int 7))
abbrev bare:W:=.aV (.cmp .Eq (.bin .Mod (tK 1) (.int 2)) (.int 0))
abbrev JT:WS:=.seq (.bV (.not (.iC (.fR 2 (.cons H0 (.cons (.aV (.ix (.ix (.var 1) (.var 2)) (.int 0))) (.cons n7 .nil)))))) (.seq (.ret N1) .nil) .nil) (.seq (.ret (.ix (.lst (.cons N1 (.cons (.aV (.bin .Add (.var 2) (.int 1))) .nil))) (.ue (.cmp .Eq (.fR 1 (.cons H0 (.cons (.aV (.ix (.var 1) (.var 2))) (.cons bare .nil)))) (.aV (.int 0)))))) .nil)
abbrev xQ:WS:=.seq (.ret (.ix (.lst (.cons N1 (.cons (.raw 2) .nil))) (.ue (.cmp .Eq (.fR 1 (.cons H0 (.cons (.raw 8) (.cons bare .nil)))) (.aV (.int 1)))))) .nil
abbrev JU:WS:=.seq (.asg 8 (.aV (.tup (.cons (.ix (.ix (.var 1) (.bin .Mod (tK 2) (.var 2))) (.int 0)) (.cons .aK .nil)))))
 (.seq (.bV (.tp (.tv (.cmp .Eq (.bin .Mod (tK 3) (.int 2)) (.int 0)))) (.seq (.asg 8 (.aV (.tup (.cons (.ix (.var 3) (.int 9)) (.cons (.ix (.lst (.cons (.ix (.var 3) (.int 8)) (.cons (.ix (.var 3) (.int 9)) .nil))) (.bin .Mod (tK 4) (.int 2))) .nil))))) .nil) .nil)
 xQ)
abbrev JV (h:W):W:=.cons h (.cons (.raw 5) (.cons (.raw 9) (.cons n7 (.cons (.raw 10) .nil))))
abbrev xR:WS:=.seq (.bV (.fK (.tp (.tv (.cmp .Eq (.ix (.var 11) (.int 0)) (.str "number")))) (.tc .NotEq (.cL H0 0 (.cons (Hl.gF 11 1) .nil)) (.cL H1 0 (.cons (Hl.gF 11 1) .nil)))) (.seq (.ret N1) .nil) .nil) (.seq (.ret (.raw 2)) .nil)
abbrev D':WS:=.seq (.asg 11 (.fR 0 (JV H0))) (.seq (.bV (.tc .NotEq (.raw 11) (.fR 0 (JV H1))) (.seq (.ret N1) .nil) .nil) xR)
abbrev JW:WS:=.seq (.asg 9 (.aV (.ix (.ix (.var 1) (.bin .Mod (tK 2) (.var 2))) (.int 0)))) (.seq (.asg 10 (.aV (.call 1 "_law_ruling" (.cons (.var 3) (.cons (.var 4) (.cons (.var 6) .nil)))))) D')
def de:WS:=.seq (.asg 7 (.aV (.bin .Mod (tK 0) (.int 4))))
 (.seq (.bV (.tp (.and (.tv (.cmp .Eq (.var 7) (.int 0))) (.tv (.cmp .Lt (.var 2) (.bi "len" (.cons (.var 1) .nil)))))) JT .nil)
 (.seq (.bV (.tp (.tv (.cmp .Eq (.var 7) (.int 1)))) JU .nil) JW))
end L6
inductive Sl (K:W.Frag)(H:Hp):L2.St->Rho->Prop where
 |nil:Sl K H [] []
 |no {o:Option V} {σ:L2.St} {ρ:Rho} (t:Sl K H σ ρ):Sl K H (o::σ) (none::ρ)
 |da {v:V} {d:D} {B:Ad->Prop} {σ:L2.St} {ρ:Rho} (r:Rep K H B v d) (t:Sl K H σ ρ):Sl K H (some v::σ) (some (.od,d)::ρ)
theorem Sl.len {K:W.Frag}(s:Sl K H σ ρ):σ.length=ρ.length:=by
 induction s with
 |nil=>rfl
 |no t a=>rw[bh,bh,a]
 |da r t a=>rw[bh,bh,a]
theorem Sl.at {K:W.Frag}(s:Sl K H σ ρ):∀(i:Nat) g d,ρ[i]?=some (some (g,d))->g=G.od/\∃v B,σ[i]?=some (some v)/\Rep K H B v d:=by
 induction s with
 |nil=>intro i g d e;cases e
 |no t a=>
  intro i g d e;cases i with
  |zero=>cases e
  |succ i=>exact a i g d e
 |da r t a=>
  intro i g d e;cases i with
  |zero=>cases e;exact⟨rfl,_,_,rfl,r⟩
  |succ i=>exact a i g d e
theorem Sl.so {K:W.Frag}(s:Sl K H a b):StOk K (F0 H) H a b:=nZ s.len s.at
theorem Sl.same {K:W.Frag}(s:Sl K H σ ρ)(m:Same H b):Sl K b σ ρ:=by
 induction s with
 |nil=>exact .nil
 |no t a=>exact .no a
 |da r t a=>exact .da (r.same m λ_ z=>z) a
structure Fx6 (rs:List Cw)(ns:List Str):Prop where
 nd:ns.Nodup
 rq:ns.length=10
 l7:rs.length=7
 nm:dJ rs=ns.take 7
 gd:GoodC rs
structure Two (φ:eP)(K:W.Frag)(HC CC:Addr)(H:Hp)(hl x0 x1:Addr)(A0 A1:Ha)(h:Hd)(rs:List Cw)(m:Nat):Prop where
 rA:H hl=some (.lst [.ref x0,.ref x1])
 t0:Hou K HC CC H x0 A0 h
 t1:Hou K HC CC H x1 A1 (h.bN (esC rs))
 uz:∀b,A0.own x0 b->¬(A1.own x1 b\/b=A1.c)
 Ea:∀b,A1.own x1 b->¬(A0.own x0 b\/b=A0.c)
 n0:¬A0.own x0 hl
 n1:¬A1.own x1 hl
 ok:Hok φ h
 es:h.es=esC (rs.take m)
 m1:1<=m
 m7:m<=rs.length
 en:∀e∈h.en,e.1∈dJ (rs.take m)
section
variable {φ:eP}{K:W.Frag}{HC CC:Addr}{H H':Hp}{hl x0 x1:Addr}{A0 A1:Ha}{h:Hd}{rs:List Cw}{ns:List Str}{m:Nat}
theorem Fx6.lM (f:Fx6 rs ns):(dJ rs).Nodup:=by rw[f.nm];exact(lr 7 ns).nodup f.nd
theorem Two.same (t:Two φ K HC CC H hl x0 x1 A0 A1 h rs m)(s:Same H H'):Two φ K HC CC H' hl x0 x1 A0 A1 h rs m:=⟨s _ _ t.rA,t.t0.same s,t.t1.same s,t.uz,t.Ea,t.n0,t.n1,t.ok,t.es,t.m1,t.m7,t.en⟩
theorem uA (h:s∈dJ (rs.take k)):s∈dJ rs:=by grind
theorem nN (f:Fx6 rs ns)(h:s∈dJ rs):z2a (esC rs) s=true:=by have:=nJ f.lM f.gd (by rw[f.l7];decide) (ae rs.length) (by rw[gh];exact h);rw[gh]at this;exact this
theorem Two.xS (t:Two φ K HC CC H hl x0 x1 A0 A1 h rs m)(f:Fx6 rs ns):Hok φ (h.bN (esC rs)):=⟨t.ok.len,t.ok.big,λe a=>⟨(t.ok.gd e a).1,(t.ok.gd e a).2.1,nN f (uA (t.en e a))⟩,t.ok.fo⟩
theorem Two.ln (t:Two φ K HC CC H hl x0 x1 A0 A1 h rs m)(f:Fx6 rs ns)(hs:s∈dJ (rs.take m)):ln (esC rs) s=ln h.es s:=by rw[t.es];exact(Sv f.lM f.gd (by rw[f.l7];decide) t.m7 hs).symm
theorem Two.bW (t:Two φ K HC CC H hl x0 x1 A0 A1 h rs m)(f:Fx6 rs ns)(hs:s∈dJ (rs.take m)):z2a h.es s=true:=by rw[t.es];exact nJ f.lM f.gd (by rw[f.l7];decide) t.m7 hs
structure oA (H H':Hp)(x0 x1:Addr)(A0 A1 zD zE:Ha):Prop where
 fr:∀b o,¬A0.own x0 b->¬A1.own x1 b->H b=some o->H' b=some o
 o0:∀b,zD.own x0 b->A0.own x0 b\/H b=none
 o1:∀b,zE.own x1 b->A1.own x1 b\/H b=none
theorem oA.of_same (s:Same H H'):oA H H' x0 x1 A0 A1 A0 A1:=⟨λb o _ _ e=>s b o e,λb h=>.inl h,λb h=>.inl h⟩
theorem xT (t:Two φ Z.K HC CC H hl x0 x1 A0 A1 h rs m)(e:b[0]?=some (some (.ref hl)))(q:∀H',Same H H'->Q (.ref x0) H'):wE Z L6.H0 b H Q:=uj (aF e (dH λH1 a=>.inl ⟨hl,_,0,.ref x0,rfl,rfl,SqL.of (a _ _ t.rA),rfl,q H1 a⟩))
theorem JX (t:Two φ Z.K HC CC H hl x0 x1 A0 A1 h rs m)(e:b[0]?=some (some (.ref hl)))(q:∀H',Same H H'->Q (.ref x1) H'):wE Z L6.H1 b H Q:=uj (aF e (dH λH1 a=>.inl ⟨hl,_,1,.ref x1,rfl,rfl,SqL.of (a _ _ t.rA),rfl,q H1 a⟩))
end
abbrev Φd:List Fn:=[iI,zx]
def zmf (φ:eP):Prop:=∀p,GR p->φ.G (mr p)
section
variable {φ:eP}{Z:Wc}{HC CC:Addr}{H:Hp}{hl x0 x1:Addr}{A0 A1:Ha}{h:Hd}{rs:List Cw}{ns:List Str}{m:Nat}
abbrev lN (rs:List Cw)(m:Nat)(ns:List Str)(c:Int×Bool)(dy g:Int)(t:Rho):Rho:=none::some (.od,.list (rs.map cwD))::some (.od,.int m)::some (.od,.list (ns.map .str))::some (.od,clD c)::some (.od,.int dy)::some (.od,.int g)::t
theorem uB (c:Int×Bool)(h0:0<=k)(a:k<=100)(b:ρ[4]?=some (some (.od,clD c))):∃n,(0<=n/\n<60)/\Vv [] Φd (L6.tK k) ρ (.int n):=by obtain⟨n,hn,e⟩:=xM c h0 a;exact⟨n,hn,dP (aJ (aD b) (aJ aM.e bG)) rfl e rfl⟩
theorem zF {k:Int}(h0:0<=k)(a:k<rs.length):gW (.list (rs.map cwD)) (.int k)=.ok (cwD (rs.getD k.toNat ("",none))):=xK cwD ("",none) h0 a
theorem zI (h:Ev [] Φ t a (.int i)):Vv [] Φ (.cmp .Eq t (.int j)) a (.bool (decide (i=j))):=hJ (k:=decide (i=j)) h aM.e (by show Res.ok (dZ (.int _) (.int _))=_;rw[Ig])
theorem Eb (f:Fx6 rs ns)(t:Two φ Z.K HC CC H hl x0 x1 A0 A1 h rs m){n:Int}(hn:0<=n):0<=n%m/\n%m<rs.length/\(rs.getD (n%m).toNat ("",none)).1∈dJ (rs.take m):=by
 have m1:=t.m1;have m7:=t.m7;have h0:=fv n (show(m:Int)≠0 by omega);have b:=iw n (show(0:Int)<m by omega);refine⟨h0,by omega,?_⟩;have a:(n%m).toNat<rs.length:=by omega
 refine bp.mpr ⟨rs.getD (n%m).toNat ("",none),?_,rfl⟩;rw[ac,ah a];exact ce.mpr ⟨(n%m).toNat,by rw[gy (by omega),ah a];rfl⟩
theorem JY (f:Z.Κ=[])(d:Z.Φ=Φd)(so:Sl Z.K H σ ρ)(g:ρ[4]?=some (some (.od,clD c)))(q:∀b a,Same H a->Q (.bl b) a):wE Z L6.bare σ H Q:=by obtain⟨n,hn,e⟩:=uB c (k:=1) dc dc g;exact nB so.so (d▸(zI (bL e.e aM.e (eL dc) rfl).e).1) λv a s r=>by cases r;exact q _ a s
theorem zl4 (y:Z.Κ=[])(A:Z.Φ=Φd)(f1:Z.fn[1]?=some (spFo Z.K HC CC))(f2:Z.fn[2]?=some (spUn φ Z.K HC CC))(fx:Fx6 rs ns)(t:Two φ Z.K HC CC H hl x0 x1 A0 A1 h rs m)(rr:Rep Z.K H B vr (.list (rs.map cwD)))(rn:Rep Z.K H B vn (.list (ns.map .str)))(rc:Rep Z.K H B vc (clD c))(hm:m<rs.length)
  (q:∀n F R,Two φ Z.K HC CC n hl x0 x1 F A1 R rs (m+1)->oA H n x0 x1 A0 A1 F A1->R.ld=h.ld->R.en=h.en->D0.rt (.int (m+1:Nat)) n):
  wS Z L6.JT D0 (some (.ref hl)::some vr::some (.int m)::some vn::some vc::some (.int dy)::some (.int g)::i) H:=by
 have big:au>3000:=by rw[c8];decide
 have tn:∀i,Sl Z.K H i (ao i.length none):=λi=>by
  induction i with
  |nil=>exact .nil
  |cons o i ih=>exact .no ih
 have sl:∀{H1:Hp},Same H H1->Sl Z.K H1 (some (.ref hl)::some vr::some (.int m)::some vn::some vc::some (.int dy)::some (.int g)::i) (lN rs m ns c dy g (ao i.length none)):=λ{H1} s=>(Sl.no (.da rr (.da (d:=.int m) (B:=AnyB) rfl (.da rn (.da rc (.da (d:=.int dy) (B:=AnyB) rfl (.da (d:=.int g) (B:=AnyB) rfl (tn i)))))))).same s;have G:∀{c':C} {d:D} {H1:Hp} {Q:VK},Same H H1->Vv [] Φd c' (lN rs m ns c dy g (ao i.length none)) d->(∀v n,Same H1 n->Rep Z.K n AnyB v d->Q v n)->wE Z (.aV c') (some (.ref hl)::some vr::some (.int m)::some vn::some vc::some (.int dy)::some (.int g)::i) H1 Q:=λs e q=>nB (sl s).so (by rw[y,A];exact e.1) q;have I:rs.getD ((m:Int)).toNat ("",none)=rs[m]:=by rw[fi,ac,ah hm];rfl
 have u:Vv [] Φd (.ix (.var 1) (.var 2)) (lN rs m ns c dy g (ao i.length none)) (cwD rs[m]):=aP (aD rfl) (aD rfl) (by rw[zF (by omega) (by omega),I]) (tu _);refine iH (lJ ?_);refine uo ?_;show(match Z.fn[2]? with|some S=>hW S [] Z.E (wA Z _)|none=>dF) _ H _;rw[f2];refine aG (xT t rfl λH1 s=>aG (G s (aP u.e aM.e rfl rfl) λv2 H2 T U=>aG (G (s.trans T) (aP (aD rfl) aM.e (mS dc (by rw[fx.rq];decide)) rfl) λv3 H3 V r3=>bH ⟨x0,A0,h,v2,.str rs[m].1,v3,_,AnyB,rfl,t.t0.same (s.trans (T.trans V)),t.ok,U.same V λ_ z=>z,r3,(t.es▸zu (DN fx.lM hm)),λH4 s4=>⟨true,rfl,?_⟩⟩)));have x:=s.trans (T.trans (V.trans s4));refine gG Z (uw (eN (uq (aG (G x ⟨rfl,rfl⟩ λv5 H5 s5 r5=>aG (G (x.trans s5) (bL (aD rfl) aM.e rfl rfl) λv6 H6 s6 r6=>bH ⟨by show 2<=au;omega,λp hp=>?_⟩))))));cases r5;cases r6;have J:=x.trans (s5.trans s6);have s7:Same H6 (upd H6 p (.lst [.int (-1),.int (m+1)])):=Same.upd hp;have j:=J.trans s7;refine I0 (um ?_);show(match Z.fn[1]? with|some S=>hW S [] Z.E (wA Z _)|none=>dF) _ _ _;rw[f1];refine aG (xT (t.same j) rfl λH8 L=>aG (G (j.trans L) u λv9 H9 P r9=>aG (JY y A (sl (j.trans (L.trans P))) rfl λb Vn k=>bH ⟨x0,A0,h,v9,.str rs[m].1,fM rs[m].2,b,AnyB,rfl,t.t0.same (j.trans (L.trans (P.trans k))),r9.same k λ_ z=>z,?_,?_⟩)))
 ·rw[t.es,zt,c9];have:=t.m7;rw[fx.l7]at this;omega
 rw[qt (t.es▸JA fx.lM fx.gd hm)];intro n M kf th;refine dH λJw W=>iE (B:=AnyB) (B':=AnyB) (dx:=.int 0) (dy:=.int 0) rfl rfl rfl λJZ X=>⟨AnyB,[.bool true],.int 1,Reps.cons rfl rfl,rfl,λw Y zp pN=>?_⟩;cases pN;have f:=W.trans (X.trans zp);have Te:p≠A0.d:=λz=>by have:=t.t0.bW.dG;rw[<-z,J.none hp]at this;cases this
 refine eG (B:=AnyB) (dx:=.list [.int (-1),.int (m+1)]) ⟨p,_,rfl,.inl ⟨f _ _ (kf p _ Te (L.trans (P.trans k) _ _ bI)),trivial⟩,Reps.cons rfl (Reps.cons rfl rfl)⟩ rfl λw2 U=>?_;cases U;have fr:=λb o l e=>f b o (kf b o l ((j.trans (L.trans (P.trans k))) b o e));have N:h.es++[(PyData.str rs[m].1,fM rs[m].2)]=esC (rs.take (m+1)):=by rw[t.es,tx hm];unfold esC;rw[dh];rfl
 refine q Y {A0 with kvs:=M} {h with es:=h.es++[(.str rs[m].1,fM rs[m].2)]} ⟨?_,th.same f,?_,t.uz,t.Ea,t.n0,t.n1,⟨t.ok.len,t.ok.big,λe O=>⟨(t.ok.gd e O).1,(t.ok.gd e O).2.1,?_⟩,t.ok.fo⟩,N,by omega,hm,λe O=>?_⟩ ⟨λb o l _ e=>fr b o (λz=>l (.inr (.inl z))) e,λb l=>.inl l,λb l=>.inl l⟩ rfl rfl
 ·exact fr _ _ (λz=>t.n0 (.inr (.inl z))) t.rA
 ·exact t.t1.keep (λb o l e=>fr b o (λz=>t.uz b (.inr (.inl z)) l) e) (λa o e z=>fr a o (λw=>by subst w;rw[t.t0.bW.dG]at e;cases e;exact z) e)
 ·show z2a (h.es++_) e.1=true;rw[N];refine nJ fx.lM fx.gd (by rw[fx.l7];decide) hm ?_;obtain⟨r,h1,h2⟩:=bp.mp (t.en e O);exact bp.mpr ⟨r,by rw[tx hm];exact dk _ h1,h2⟩
 ·obtain⟨r,h1,h2⟩:=bp.mp (t.en e O);exact bp.mpr ⟨r,by rw[tx hm];exact dk _ h1,h2⟩
end
theorem pT {K:W.Frag}(a:L2.St):Sl K H a (ao a.length none):=by
 induction a with
 |nil=>exact .nil
 |cons o a b=>exact .no b
abbrev jR (hl:Addr)(vr:V)(m:Nat)(vn vc:V)(dy g:Int)(tl:L2.St):L2.St:=some (.ref hl)::some vr::some (.int m)::some vn::some vc::some (.int dy)::some (.int g)::tl
theorem tL {K:W.Frag}(a:L2.St)(rr:Rep K H B vr (.list (rs.map cwD)))(rn:Rep K H B vn (.list (ns.map .str)))(b:Rep K H B vc (clD c)):Sl K H (jR hl vr m vn vc dy g a) (lN rs m ns c dy g (ao a.length none)):=Sl.no (.da rr (.da (B:=AnyB) rfl (.da rn (.da b (.da (B:=AnyB) rfl (.da (B:=AnyB) rfl (pT a)))))))
theorem gL (a:Z.Κ=[])(b:Z.Φ=Φd)(rr:Rep Z.K H B vr (.list (rs.map cwD)))(rn:Rep Z.K H B vn (.list (ns.map .str)))(h:Rep Z.K H B vc (clD c))(i:Same H H1)(e:Vv [] Φd j (lN rs m ns c dy g (ao tl.length none)) d)(q:∀v f,Same H1 f->Rep Z.K f AnyB v d->Q v f):wE Z (.aV j) (jR hl vr m vn vc dy g tl) H1 Q:=nB ((tL tl rr rn h).same i).so (by rw[a,b];exact e.1) q
theorem z9l (e:Z.Κ=[])(f:Z.Φ=Φd)(C:Z.fn[1]?=some (spFo Z.K HC CC))(fx:Fx6 rs ns)(t:Two φ Z.K HC CC H hl x0 x1 A0 A1 h rs m)(rr:Rep Z.K H B vr (.list (rs.map cwD)))(rn:Rep Z.K H B vn (.list (ns.map .str)))(u:Rep Z.K H B vc (clD c))(D:Rep Z.K H B v (.tuple [x,y]))(j:okF h.es x y=false)
  (q:∀k,Same H k->D0.rt (.int m) k):wS Z L6.xQ D0 (jR hl vr m vn vc dy g (some R::some v::tl)) H:=by
 have big:au>3000:=by rw[c8];decide
 refine uw (eN (uq (aG (gL e f rr rn u (Same.refl H) ⟨rfl,rfl⟩ λS A F G=>aG (aF rfl (bH ⟨by show 2<=au;omega,λp I=>?_⟩))))));cases G;have J:Same A (upd A p (.lst [.int (-1),.int m])):=Same.upd I;have a:=F.trans J;refine I0 (um ?_);show(match Z.fn[1]? with|some L=>hW L [] Z.E (wA Z _)|none=>dF) _ _ _;rw[C];refine aG (xT (t.same a) rfl λT i=>aG (aF rfl (aG (JY e f ((tL _ rr rn u).same (a.trans i)) rfl λb M d=>bH ⟨x0,A0,h,v,x,y,b,B,rfl,t.t0.same (a.trans (i.trans d)),D.same (a.trans (i.trans d)) λ_ z=>z,?_,?_⟩))))
 ·rw[t.es,zt,c9];have:=t.m7;rw[fx.l7]at this;omega
 rw[qu (by rw[j];decide)];intro k N;refine dH λO l=>iE (B:=AnyB) (B':=AnyB) (dx:=.int 1) (dy:=.int 1) rfl rfl rfl λP n=>⟨AnyB,[.bool true],.int 1,Reps.cons rfl rfl,rfl,λw o r s=>?_⟩;cases s;have sa:=i.trans (d.trans (N.trans (l.trans (n.trans r))));refine eG (B:=AnyB) (dx:=.list [.int (-1),.int m]) ⟨p,_,rfl,.inl ⟨sa _ _ bI,trivial⟩,Reps.cons rfl (Reps.cons rfl rfl)⟩ rfl λU Q=>?_;cases Q;exact q o (a.trans sa)
theorem Tf (fx:Fx6 rs ns)(d:7<=k)(a:k<10):ns.getD k ⟨#[]⟩∉dJ (rs.take m):=λz=>by have z:=uA z;rw[fx.nm]at z;obtain⟨j,b⟩:=ce.mp z;have c:=(ba.mp b).1;rw[c9]at c;rw[gy (by omega)]at b;have:=zm fx.nd b (by rw[ac,ah (fx.rq▸a)];rfl);omega
theorem zkp (b:Z.Κ=[])(a:Z.Φ=Φd)(A:Z.fn[1]?=some (spFo Z.K HC CC))(fx:Fx6 rs ns)(t:Two φ Z.K HC CC H hl x0 x1 A0 A1 h rs m)(rr:Rep Z.K H B vr (.list (rs.map cwD)))(rn:Rep Z.K H B vn (.list (ns.map .str)))(C:Rep Z.K H B vc (clD c))
  (q:∀D,Same H D->D0.rt (.int m) D):wS Z L6.JU D0 (jR hl vr m vn vc dy g [some I,none,none,none,none]) H:=by
 have m1:=t.m1;obtain⟨n2,y,J⟩:=uB (ρ:=lN rs m ns c dy g (ao 5 none)) c (k:=2) dc dc rfl;obtain⟨n3,L,M⟩:=uB (ρ:=lN rs m ns c dy g (ao 5 none)) c (k:=3) dc dc rfl;obtain⟨r,N,O⟩:=uB (ρ:=lN rs m ns c dy g (ao 5 none)) c (k:=4) dc dc rfl;obtain⟨P,Q,R⟩:=Eb fx t y.1;refine fF (gL b a rr rn C (Same.refl H) (d:=.tuple [.str (rs.getD (n2%m).toNat ("",none)).1,.none]) (mU (bM (aP (x:=cwD (rs.getD (n2%m).toNat ("",none))) (aP (aD rfl) (bL J.e (aD rfl) (eL (by omega)) rfl).e (zF P Q) (tu _)).e aM.e rfl rfl) (bM yT fE))) λS H1 w T=>?_);have l:=rr.same w λ_ _=>trivial;have n:=rn.same w λ_ _=>trivial;have o:=C.same w λ_ _=>trivial;refine iH (lJ (wQ ((tL [some I,some S,none,none,none] l n o)).so (a▸bU (zI (bL M.e aM.e (eL dc) rfl).e).e rfl) λU j=>?_));have f:=w.trans j;cases hb:decide (n3%2=0)with
 |false=>refine gG Z (z9l b a A fx (t.same f) (l.same j λ_ z=>z) (n.same j λ_ z=>z) (o.same j λ_ z=>z) (T.same j λ_ z=>z) ?_ λE p=>q E (f.trans p));rw[t.es];exact DO R
 |true=>
  have F:=mS (i:=9) dc (by rw[fx.rq];decide);have s:=l.same j λ_ z=>z;have u:=n.same j λ_ z=>z;have v:=o.same j λ_ z=>z;refine fF (gL b a s u v (Same.refl U) (d:=.tuple [.str (ns.getD 9 ⟨#[]⟩),.str ([ns.getD 8 ⟨#[]⟩,ns.getD 9 ⟨#[]⟩].getD (r%2).toNat ⟨#[]⟩)]) (mU (bM (aP (aD rfl) aM.e F rfl) (bM (aP (Ev.of (mV (bM (aP (aD rfl) aM.e (mS (i:=8) dc (by rw[fx.rq];decide)) rfl) (bM (aP (aD rfl) aM.e F rfl) fE)))) (bL O.e aM.e (eL dc) rfl).e (mS (ns:=[ns.getD 8 ⟨#[]⟩,ns.getD 9 ⟨#[]⟩]) (by omega) (by show r%2<2;omega)) rfl) fE))) λv9 E p V=>?_);refine gG Z (z9l b a A fx (t.same (f.trans p)) (s.same p λ_ z=>z) (u.same p λ_ z=>z) (v.same p λ_ z=>z) V ?_ λW X=>q W (f.trans (p.trans X)));rw[t.es]
  have:∃k,(7<=k/\k<10)/\[ns.getD 8 ⟨#[]⟩,ns.getD 9 ⟨#[]⟩].getD (r%2).toNat ⟨#[]⟩=ns.getD k ⟨#[]⟩:=by
   rcases(show r%2=0\/r%2=1 by omega)with e|e
   ·exact⟨8,by decide,by rw[e];rfl⟩
   ·exact⟨9,by decide,by rw[e];rfl⟩
  obtain⟨k,G,Y⟩:=this;rw[Y];exact DP (Tf fx G.1 G.2)
section
variable {K:W.Frag}{HC CC x:Addr}{H:Hp}{A:Ha}{h:Hd}
theorem _root_.Mi.Hou.there (t:Hou K HC CC H x A h)(a:A.own x b\/b=A.c):H b≠none:=λz=>by
 rcases a with(rfl|rfl|rfl|rfl|a)|rfl
 ·obtain⟨i,d,_⟩:=t.ins;rw[z]at d;cases d
 ·have :=t.bW.dG;rw[z]at this;cases this
 ·obtain⟨j,e,_⟩:=t.ent;rw[z]at e;cases e
 ·have :=t.iG;rw[z]at this;cases this
 ·obtain⟨k,g⟩:=ce.mp a;obtain⟨l,f,_⟩:=t.eO.2 k b g;rw[z]at f;cases f
 ·have :=t.bW.ins;rw[z]at this;cases this
theorem rB (a:({A with as:=A.as++[p]}:Ha).own x b):A.own x b\/b=p:=by
 rcases a with h|h|h|h|h
 ·exact .inl (.inl h)
 ·exact .inl (.inr (.inl h))
 ·exact .inl (.inr (.inr (.inl h)))
 ·exact .inl (.inr (.inr (.inr (.inl h))))
 ·rcases cz.mp h with h|h
  ·exact .inl (.inr (.inr (.inr (.inr h))))
  ·exact .inr (bu.mp h)
theorem J1 (a:A.own x b):({A with as:=A.as++[p]}:Ha).own x b:=by
 rcases a with h|h|h|h|h
 ·exact .inl h
 ·exact .inr (.inl h)
 ·exact .inr (.inr (.inl h))
 ·exact .inr (.inr (.inr (.inl h)))
 ·exact .inr (.inr (.inr (.inr (dk _ h))))
end
theorem Th (p:Bool×P×P×P):bA 39 (mr p)=true:=by
 refine qA.mpr λw a=>?_;simp at a;rcases a with rfl|rfl|rfl
 ·show fO 37 [pk p.2.1,pk p.2.2.1]=true;refine qA.mpr λw a=>?_;simp at a;rcases a with rfl|rfl<;>exact HP 35 _
 ·rfl
 ·exact HP 36 _
section
variable {φ:eP}{Z:Wc}{HC CC:Addr}{H:Hp}{hl x0 x1:Addr}{A0 A1:Ha}{h:Hd}{rs:List Cw}{ns:List Str}{m:Nat}{D0:Ends}
variable {vr vn vc:V}{c:Int×Bool}{dy g:Int}
abbrev tM (φ:eP)(K:W.Frag)(HC CC:Addr)(H:Hp)(hl x0 x1:Addr)(A0 A1:Ha)(h:Hd)(rs:List Cw)(dy:Int)(Q:VK):Prop:=∀H' m' zD zE h',Two φ K HC CC H' hl x0 x1 zD zE h' rs m'->oA H H' x0 x1 A0 A1 zD zE->(h'.ld=h.ld\/h'.ld=some dy)->h'.en.length<=h.en.length+1->Q (.int (m':Nat)) H'
theorem zal {k:Nat}(F:Z.Κ=[])(G:Z.Φ=Φd)(I:Z.me[0]?=some (HC,("fate":Str),spFt φ Z.K HC CC Z.mg))(fx:Fx6 rs ns)(t:Two φ Z.K HC CC H hl x0 x1 A0 A1 h rs m)
  (n:Rep Z.K H NoB a (.tuple [.str (if b then "number"else "barred"),.int k])) (J:b=true->k<h.en.length) (q:∀B,Same H B->D0.rt (.int m) B):
  wS Z L6.xR D0 (jR hl vr m vn vc dy g [some r,s,some u,some x,some a]) H:=by
 have so:Sl Z.K H (jR hl vr m vn vc dy g [some r,s,some u,some x,some a]) [none,none,none,none,none,none,none,none,none,none,none,some (.od,.tuple [.str (if b then "number"else "barred"),.int k])]:=.no (.no (.no (.no (.no (.no (.no (.no (.no (.no (.no (.da n .nil)))))))))));refine iH (lJ (ze (wQ so.so (b:=b) (by exact bU (hJ (aP (aD rfl) aM.e rfl rfl).e gD.e (by cases b<;>rfl)).e rfl) λH1 c=>?_)));cases b with
 |false=>exact gG Z (uw (aF rfl (q H1 c)))
 |true=>
  have y:=J rfl
  have eO:∀{w:W} {z:Addr} {p:Ha} {i:Hd} {d:Hp} {R:VK},(∀R,(∀f,Same d f->R (.ref z) f)->wE Z w (jR hl vr m vn vc dy g [some r,s,some u,some x,some a]) d R)->Same H d->Hou Z.K HC CC d z p i->Hok φ i->i.en.length=h.en.length->(∀f v,Same d f->Rep Z.K f AnyB v (.list (i.fa k))->R v f)->wE Z (.cL w 0 (.cons (Hl.gF 11 1) .nil)) (jR hl vr m vn vc dy g [some r,s,some u,some x,some a]) d R:=λ{w z p i d R} L l C M D kk=>by
   refine gE I (L _ λf j=>?_);obtain⟨fs,N,O⟩:=(C.same j).cM;refine⟨z,p.dx,fs,rfl,N,O _ dc dc dc dc,aG (eN (aF rfl (dH λE o=>eG (n.same (l.trans (j.trans o)) λ_ z=>z) rfl λX P=>?_)))⟩;cases P;refine bH ⟨z,p,i,k,rfl,C.same (j.trans o),M,?_⟩;have A:pM i k=true:=by unfold pM;simp;omega
   rw[qt A];exact λQ v S T=>kk Q v (j.trans (o.trans S)) (T.weak λ_ _=>trivial)
  refine sY (eO (λR kk=>xT (t.same c) rfl kk) c (t.t0.same c) t.ok rfl λd v2 l U=>eO (λR kk=>JX (t.same (c.trans l)) rfl kk) (c.trans l) (t.t1.same (c.trans l)) (t.xS fx) rfl λf v3 j V=>?_);exact iE (U.same j λ_ z=>z) V (wV (R0 (t.ok.fo _ (aw (Hd.iY (t.ok.len▸y)))))) λE o=>⟨_,rfl,gG Z (uw (aF rfl (q E (c.trans (l.trans (j.trans o))))))⟩
theorem zlp (hG:zmf φ)(j:Z.Κ=[])(l:Z.Φ=Φd)(f0:Z.fn[0]?=some (spTe φ Z.K HC CC))(f1:Z.me[0]?=some (HC,("fate":Str),spFt φ Z.K HC CC Z.mg))(fx:Fx6 rs ns)(t:Two φ Z.K HC CC H hl x0 x1 A0 A1 h rs m)(f:h.en.length<900)(rr:Rep Z.K H B vr (.list (rs.map cwD)))(rn:Rep Z.K H B vn (.list (ns.map .str)))(rc:Rep Z.K H B vc (clD c))(hB:∀b,B (some b)->¬A0.own x0 b)(Q:late h.ld dy=false)
  (q:tM φ Z.K HC CC H hl x0 x1 A0 A1 h rs dy D0.rt):wS Z L6.JW D0 (jR hl vr m vn vc dy g [some v7,none,none,none,none]) H:=by
 have m1:=t.m1;obtain⟨n2,Ec,e2⟩:=uB (ρ:=lN rs m ns c dy g (ao 5 none)) c (k:=2) (by decide) (by decide) rfl;obtain⟨p0,p1,p2⟩:=Eb fx t Ec.1;obtain⟨p,hp,ep⟩:=D9 fx.nd (by rw[fx.rq];decide) c g;generalize hs:(rs.getD (n2%m).toNat ("",none)).1=s at p2;refine fF (gL j l rr rn rc (Same.refl H) (d:=.str s) (by rw[<-hs];exact aP (x:=cwD (rs.getD (n2%m).toNat ("",none))) (aP (aD rfl) (bL e2.e (aD rfl) (eL (by omega)) rfl).e (zF p0 p1) (tu _)).e aM.e rfl rfl) λG H1 s1 R=>?_);refine fF (gL j l rr rn rc s1 (dP (aJ (aD rfl) (aJ (aD rfl) (aJ (aD rfl) bG))) rfl ep (ro p)) λI H2 s2 ra=>?_);have S:=s1.trans s2;have R:=R.same s2 λ_ z=>z;generalize hw:ns.getD (7:Int).toNat ⟨#[]⟩=w;have T:∀tl:L2.St,Vv [] Φd (.ix (.var 3) (.int 7)) (lN rs m ns c dy g (ao tl.length none)) (.str w):=λtl=>by rw[<-hw];exact aP (aD rfl) aM.e (mS (by decide) (by rw[fx.rq];decide)) rfl
 have t2:=t.same S;have gp:=hG p hp;have cr:=t.bW fx p2;have bc:bar φ (h.bN (esC rs)) s w (mr p)=bar φ h s w (mr p):=Sw _ (t.ln fx p2);have fc:fll φ (h.bN (esC rs)) s w (mr p)=fll φ h s w (mr p):=Sx _ λe M=>t.ln fx (t.en e M);refine fF ?_;show(match Z.fn[0]? with|some sp=>hW sp [] Z.E (wA Z _)|none=>dF) (jR hl vr m vn vc dy g [some v7,none,some G,some I,none]) H2 _;rw[f0];refine aG (xT t2 rfl λH3 s3=>aG (aF rfl (aG (aF rfl (aG (gL j l rr rn rc (S.trans s3) (T [some v7,none,some G,some I,none]) λvw H4 s4 Ti=>aG (aF rfl (bH ?_))))))));have U:=s3.trans s4;have n:=S.trans U;have W:=t.same n;have R:=R.same U λ_ z=>z;have ra:=ra.same U λ_ z=>z;refine⟨x0,A0,h,dy,G,s,vw,w,I,jQ p.2.1 p.2.2.1,.str (sd p.1),pk p.2.2.2,AnyB,rfl,W.t0,t.ok,by omega,R,Ti,ra,ro p,gp,cr,Q,?_⟩;show match bar φ h s w (mr p)with|some k=>_|none=>_
 cases N:bar φ h s w (mr p)with
 |some k=>
  intro H5 A s5 J;have X:=n.trans s5;have t5:=t.same X;refine iH (lJ (sY (aF rfl ?_)));show(match Z.fn[0]? with|some sp=>hW sp [] Z.E (wA Z _)|none=>dF) (jR hl vr m vn vc dy g [some v7,none,some G,some I,some A]) H5 _;rw[f0];refine aG (JX t5 rfl λH6 s6=>aG (aF rfl (aG (aF rfl (aG (gL j l rr rn rc (X.trans s6) (T [some v7,none,some G,some I,some A]) λY H7 s7 Ed=>aG (aF rfl (bH ?_))))))));have i:=s6.trans s7;have J3:=X.trans i;refine⟨x1,A1,h.bN (esC rs),dy,G,s,Y,w,I,jQ p.2.1 p.2.2.1,.str (sd p.1),pk p.2.2.2,AnyB,rfl,t.t1.same J3,t.xS fx,by show h.en.length<1000;omega,R.same (s5.trans i) λ_ z=>z,Ed,ra.same (s5.trans i) λ_ z=>z,ro p,gp,nN fx (uA p2),Q,?_⟩;show match bar φ (h.bN (esC rs)) s w (mr p)with|some k=>_|none=>_
  rw[bc,N];intro H8 Tj s8 Ee;have Tn:=J3.trans s8;refine iE (J.same (i.trans s8) λ_ z=>z) Ee (wV rfl) λH9 s9=>⟨_,rfl,gG Z ?_⟩;have Ef:=Tn.trans s9;exact zal (b:=false) j l f1 fx (t.same Ef) (J.same (i.trans (s8.trans s9)) λ_ z=>z) (λz=>by cases z) λC s'=>q C m A0 A1 h (t.same (Ef.trans s')) (oA.of_same (Ef.trans s')) (.inl rfl) (i5 _)
 |none=>
  show ∀C p' v,i' A0 x0 H4 C->H4 p'=none->Hou Z.K HC CC C x0 {A0 with as:=A0.as++[p']} (h.put dy s w (mr p) (fll φ h s w (mr p)))->Rep Z.K C NoB v (.tuple [.str "number",.int h.en.length])->_;intro H5 a0 A u Eg J4 J;generalize y:h.put dy s w (mr p) (fll φ h s w (mr p))=h' at J4;have xo:=W.t0.fix u;have J5:∀{v:V} {d:D},imm d=true->Rep Z.K H4 AnyB v d->Rep Z.K H5 AnyB v d:=λ{v d} hi r=>Rep.iQ xo d hi r;have To:=W.t1.keep (λb o f e=>u b o (λz=>t.uz b z f) e) xo;have zr:=u _ _ t.n0 W.rA;have Tq:=J5 rfl R;have Tr:=J5 (ro p) ra;refine iH (lJ (sY (aF rfl ?_)));show(match Z.fn[0]? with|some sp=>hW sp [] Z.E (wA Z _)|none=>dF) (jR hl vr m vn vc dy g [some v7,none,some G,some I,some A]) H5 _;rw[f0]
  have kB:∀{v:V} {d:D},Rep Z.K H B v d->Rep Z.K H5 B v d:=λ{v d} r=>Rep.keep (λa o e z=>by
   rcases z with z|z
   ·exact u a o (hB a z) (n a o e)
   ·exact xo a o (n a o e) z) (λ_ z=>z) d r
  have Ts:=kB rr;have Tu:=kB rn;have Tv:=kB rc;refine aG (uj (aF rfl (dH λH6 s6=>.inl ⟨hl,_,1,.ref x1,rfl,rfl,SqL.of (s6 _ _ zr),rfl,?_⟩)));refine aG (aF rfl (aG (aF rfl (aG (gL j l Ts Tu Tv s6 (T [some v7,none,some G,some I,some A]) λY H7 s7 Ed=>aG (aF rfl (bH ?_)))))));have i:=s6.trans s7;have J6:=To.same i;refine⟨x1,A1,h.bN (esC rs),dy,G,s,Y,w,I,jQ p.2.1 p.2.2.1,.str (sd p.1),pk p.2.2.2,AnyB,rfl,J6,t.xS fx,by show h.en.length<1000;omega,Tq.same i λ_ z=>z,Ed,Tr.same i λ_ z=>z,ro p,gp,nN fx (uA p2),Q,?_⟩;show match bar φ (h.bN (esC rs)) s w (mr p)with|some k=>_|none=>_
  rw[bc,N];show ∀C p' v,i' A1 x1 H7 C->H7 p'=none->Hou Z.K HC CC C x1 {A1 with as:=A1.as++[p']} ((h.bN (esC rs)).put dy s w (mr p) (fll φ (h.bN (esC rs)) s w (mr p)))->Rep Z.K C NoB v (.tuple [.str "number",.int h.en.length])->_;rw[fc];intro H8 a1 Tj L Eh Ei Ee;have Ei:Hou Z.K HC CC H8 x1 {A1 with as:=A1.as++[a1]} (h'.bN (esC rs)):=by rw[<-y];exact Ei
  have J7:=J6.fix L;have O:=Rep.keep (λa o e z=>J7 a o (i a o e) (z.resolve_left id)) (λ_ z=>z) _ J;have J8:=J4.same i;have n4:∀{b:Addr},(A1.own x1 b\/b=A1.c)->b≠a0:=λ{b} f z=>by subst z;exact W.t1.there f Eg
  have n7:∀{b:Addr},(({A0 with as:=A0.as++[a0]}:Ha).own x0 b\/b=A0.c)->b≠a1:=λ{b} f z=>by subst z;exact J8.there f Eh
  have d1:∀b,({A0 with as:=A0.as++[a0]}:Ha).own x0 b->¬(({A1 with as:=A1.as++[a1]}:Ha).own x1 b\/b=A1.c):=λb f z=>by
   rcases z with z|z
   ·rcases rB z with z|z
    ·rcases rB f with f|f
     ·exact t.uz b f (.inl z)
     ·exact n4 (.inl z) f
    ·exact n7 (.inl f) z
   ·rcases rB f with f|f
    ·exact t.uz b f (.inr z)
    ·exact n4 (.inr z) f
  have d0:∀b,({A1 with as:=A1.as++[a1]}:Ha).own x1 b->¬(({A0 with as:=A0.as++[a0]}:Ha).own x0 b\/b=A0.c):=λb f z=>by
   rcases z with z|z
   ·exact d1 b z (.inl f)
   ·rcases rB f with f|f
    ·exact t.Ea b f (.inr z)
    ·exact n7 (.inr z) f
  have Ej:Hou Z.K HC CC H8 x0 {A0 with as:=A0.as++[a0]} h':=J8.keep (λb o f e=>L b o (λz=>d0 b (J1 z) f) e) J7;have AK:=L _ _ t.n1 (i _ _ zr);have imp:=ro p
  have P:Two φ Z.K HC CC H8 hl x0 x1 {A0 with as:=A0.as++[a0]} {A1 with as:=A1.as++[a1]} h' rs m:=by
   refine⟨AK,Ej,Ei,d1,d0,λz=>?_,λz=>?_,?_,?_,t.m1,t.m7,λe M=>?_⟩
   ·rcases rB z with z|z
    ·exact t.n0 z
    ·rw[z]at W;have:=W.rA;rw[Eg]at this;cases this
   ·rcases rB z with z|z
    ·exact t.n1 z
    ·have:=i _ _ zr;rw[z,Eh]at this;cases this
   ·rw[<-y];exact t.ok.put (by omega) gp imp cr
   ·rw[<-y];exact t.es
   ·rw[<-y]at M;rcases cz.mp M with M|M
    ·exact t.en e M
    ·cases bu.mp M;exact p2
  have F:oA H H8 x0 x1 A0 A1 {A0 with as:=A0.as++[a0]} {A1 with as:=A1.as++[a1]}:=by
   refine⟨λb o h0 h1 e=>L b o h1 (i b o (u b o h0 (n b o e))),λb f=>?_,λb f=>?_⟩
   ·rcases rB f with f|f
    ·exact .inl f
    ·subst f;exact .inr (n.none Eg)
   ·rcases rB f with f|f
    ·exact .inl f
    ·subst f;refine .inr ?_;cases e:H b with
     |none=>rfl
     |some o=>
      exfalso;by_cases ho:A0.own x0 b
      ·exact n7 (.inl (J1 ho)) rfl
      ·have :=i b o (u b o ho (n b o e));rw[Eh]at this;cases this
  refine iE O Ee (wV rfl) λH9 s9=>⟨_,rfl,gG Z ?_⟩;have hlen:h'.en.length=h.en.length+1:=by rw[<-y];show(h.en++[_]).length=_;rw[bf];rfl
  refine zal (b:=true) j l f1 fx (P.same s9) (O.same s9 λ_ z=>z) (λ_=>by omega) λC s'=>?_;have J9:=s9.trans s';exact q C m _ _ h' (P.same J9) ⟨λb o h0 h1 e=>J9 b o (F.fr b o h0 h1 e),F.o0,F.o1⟩ (.inr (by rw[<-y];rfl)) (by omega)
theorem zql (Y:zmf φ)(i:Z.Κ=[])(j:Z.Φ=Φd)(f0:Z.fn[0]?=some (spTe φ Z.K HC CC))(V:Z.fn[1]?=some (spFo Z.K HC CC))(f2:Z.fn[2]?=some (spUn φ Z.K HC CC))(g0:Z.me[0]?=some (HC,("fate":Str),spFt φ Z.K HC CC Z.mg))(fx:Fx6 rs ns)(t:Two φ Z.K HC CC H hl x0 x1 A0 A1 h rs m)(x:h.en.length<900)(rr:Rep Z.K H B vr (.list (rs.map cwD)))(rn:Rep Z.K H B vn (.list (ns.map .str)))(W:Rep Z.K H B vc (clD c))(hB:∀b,B (some b)->¬A0.own x0 b)(P:late h.ld dy=false)
  (q:tM φ Z.K HC CC H hl x0 x1 A0 A1 h rs dy D0.rt):wS Z L6.de D0 (jR hl vr m vn vc dy g [none,none,none,none,none]) H:=by
 obtain⟨n0,Vo,e0⟩:=uB (ρ:=lN rs m ns c dy g (ao 5 none)) c (k:=0) (by decide) (by decide) rfl;refine fF (gL i j rr rn W (Same.refl H) (bL e0.e aM.e (eL (by decide)) rfl) λv7 H1 N r7=>?_);cases r7;have y:=rr.same N λ_ z=>z;have A:=rn.same N λ_ z=>z;have C:=W.same N λ_ z=>z;have so:∀{r:Hp},Same H1 r->Sl Z.K r (jR hl vr m vn vc dy g [some (.int (n0%4)),none,none,none,none]) (lN rs m ns c dy g [some (.od,.int (n0%4)),none,none,none,none]):=λ{r} u=>(Sl.no (.da y (.da (d:=.int m) (B:=AnyB) rfl (.da A (.da C (.da (d:=.int dy) (B:=AnyB) rfl (.da (d:=.int g) (B:=AnyB) rfl (.da (d:=.int (n0%4)) (B:=AnyB) rfl (.no (.no (.no (.no .nil)))))))))))).same u;have D:∀{Φ:List Fn} {Q:Rho},Q[1]?=some (some (G.od,PyData.list (rs.map cwD)))->Vv [] Φ (.bi "len" (.cons (.var 1) .nil)) Q (.int rs.length):=λR=>eW (aJ (aD R) bG) (by rw[D6,am]) rfl;refine iH (lJ (wQ (so (Same.refl H1)).so (b:=decide (n0%4=0)&&decide ((m:Int)<rs.length)) (by rw[i,j];exact Rb (bU (zI (aD rfl)).e rfl) λ_=>bU (hJ (k:=decide ((m:Int)<rs.length)) (aD rfl) (D rfl).e rfl).e rfl) λr u=>?_));have v:=N.trans u;have t2:=t.same v;have E:=y.same u λ_ z=>z;have F:=A.same u λ_ z=>z;have I:=C.same u λ_ z=>z;have up:∀{r p:Hp} {f l:Ha},Same H r->oA r p x0 x1 A0 A1 f l->oA H p x0 x1 A0 A1 f l:=λ{r p f l} s a=>⟨λb o h0 R e=>a.fr b o h0 R (s b o e),λb x=>(a.o0 b x).imp id s.none,λb x=>(a.o1 b x).imp id s.none⟩;cases hA:(decide (n0%4=0)&&decide ((m:Int)<rs.length))with
 |true=>have hm:=qx (ar.mp hA).2;exact zl4 i j V f2 fx t2 E F I (by omega) λp f S T U hld w=>q p (m+1) f A1 S T (up v U) (.inl hld) (by rw[w];exact i5 _)
 |false=>
  refine gG Z (iH (lJ (wQ (so u).so (by rw[i,j];exact bU (zI (aD rfl)).e rfl) λH3 O=>?_)));have n:=v.trans O;have J:=E.same O λ_ z=>z;have L:=F.same O λ_ z=>z;have M:=I.same O λ_ z=>z;cases hC:decide (n0%4=1)with
  |true=>exact zkp i j V fx (t.same n) J L M λp X=>q p m A0 A1 h (t.same (n.trans X)) (oA.of_same (n.trans X)) (.inl rfl) (i5 _)
  |false=>exact gG Z (zlp Y i j f0 g0 fx (t.same n) x J L M hB P λp m' f l S T U hld w=>q p m' f l S T (up n U) hld w)
end
namespace L6
abbrev ca (k:Int):C:=.call 0 "_law_cell_at" (.cons (.var 0) (.cons (.int k) .nil))
abbrev G0:W:=.nY (.raw 7) (.aV (.int 0))
abbrev G1:W:=.nY (.raw 7) (.aV (.int 1))
abbrev w7:C:=.ix (.var 1) (.int 7)
abbrev J':W:=.aV (.sl (.var 1) (.tv (.int 7)) (.tv (.int 9)))
abbrev Ek:C:=.ix (.ix (.var 4) (.int 0)) (.int 0)
abbrev El:WS:=.seq (.bV (.tp (.tv (.cmp .Lt (.var 5) (.int 0)))) Hl.rF .nil) (.seq (.bV (.not (.iC (.fR 1 (.cons G0 (.cons G1 (.cons (.aV (.lst (.cons (.ix (.var 4) (.bin .Mod (.var 9) (.var 5))) .nil))) (.cons (.aV (.lst (.cons w7 .nil))) .nil))))))) Hl.rF .nil) .nil)
abbrev Em:WS:=.seq (.asg 10 (.aV (.call 4 "_law_cell" (.cons (.var 0) (.cons (.var 9) (.cons (.var 2) .nil)))))) (.seq (.asg 5 (.fR 0 (.cons (.raw 7) (.cons (.raw 4) (.cons (.raw 5) (.cons (.raw 1) (.cons (.raw 10) (.cons (.aV (.bin .FloorDiv (.var 9) (.int 7))) (.cons (.raw 3) .nil))))))))) El)
abbrev Ka:WS:=.seq (.ret (.and (.fR 1 (.cons (.raw 11) (.cons (.mk 1 (.cons (.raw 6) .nil)) (.cons (.aV (.sl (.var 4) .nil (.tv (.var 8)))) (.cons J' .nil))))) (.cmp .Eq (.cL (.raw 6) 0 (.cons (.aV Ek) .nil)) (.aV (.lst (.cons Ek .nil)))))) .nil
abbrev Kb:WS:=.seq (.asg 11 (.mk 1 (.cons (.raw 6) .nil))) (.seq (.eX (.nm 12) (.aV (.sl (.var 4) (.tv (.var 8)) .nil)) (.seq (.bV (.not (.iC (.fR 2 (.cons (.raw 11) (.cons (Hl.gF 12 0) (.cons (.aV w7) .nil)))))) Hl.rF .nil) .nil)) Ka)
abbrev Eo:WS:=.seq (.bV (.not (.iC (.fR 1 (.cons G0 (.cons G1 (.cons (.aV (.sl (.var 4) .nil (.tv (.var 5)))) (.cons J' .nil))))))) Hl.rF .nil) Kb
abbrev it:C:=.fA (.cons (.int 2) (.cons (.bi "min" (.cons (.bi "len" (.cons (.var 0) .nil)) (.cons (.int 62) .nil))) .nil))
def la:WS:=.seq (.asg 1 (.aV (.call 1 "_law_names" (.cons (ca 0) (.cons (.int 10) .nil)))))
 (.seq (.asg 2 (.aV (.cmp .Eq (.bin .Mod (ca 0) (.int 2)) (.int 1))))
 (.seq (.asg 3 (.aV (.call 2 "_law_great" (.cons (ca 0) (.cons (.var 2) .nil)))))
 (.seq (.asg 4 (.aV (.call 3 "_law_courts" (.cons (.tup (.cons (ca 1) (.cons (.var 2) .nil))) (.cons (.var 1) .nil)))))
 (.seq (.asg 5 (.aV (.bin .Add (.int 1) (.bin .Mod (ca 0) (.int 3)))))
 (.seq (.asg 6 (.mk 0 (.cons (.aV (.sl (.var 4) .nil (.tv (.var 5)))) .nil)))
 (.seq (.asg 7 (.lst (.cons (.mk 1 (.cons (.raw 6) .nil)) (.cons (.mk 1 (.cons (.mk 0 (.cons (.raw 4) .nil)) .nil)) .nil))))
 (.seq (.asg 8 (.raw 5))
 (.seq (.bP (.nm 9) it Em) Eo))))))))
end L6
abbrev Φl:List Fn:=[pR,DW,DX,zy,DT]
def spDe (φ:eP)(K:W.Frag)(HC CC:Addr):Sp:=λvs H Q _=>∃hl x0 x1 A0 A1 h rs ns m vr vn vc c dy g B,vs=[.ref hl,vr,.int (m:Nat),vn,vc,.int dy,.int g]/\Fx6 rs ns/\Two φ K HC CC H hl x0 x1 A0 A1 h rs m/\h.en.length<900/\Rep K H B vr (.list (rs.map cwD))/\Rep K H B vn (.list (ns.map .str))/\Rep K H B vc (clD c)/\(∀b,B (some b)->¬A0.own x0 b)/\late h.ld dy=false/\tM φ K HC CC H hl x0 x1 A0 A1 h rs dy Q
section
variable {φ:eP}{Z:Wc}{HC CC:Addr}{H Hs:Hp}{hl x0 x1 xc dxc dc:Addr}{kvc:List (Key×V)}{A0 A1 S0 S1:Ha}{h:Hd}{rs:List Cw}{ns:List Str}{m m0:Nat}{D0:Ends}
variable {v0 vr vn:V}{xs:List Int}{g:Int}{f:Bool}
def Fast (Hs H:Hp)(x0 x1:Addr)(S0 S1 A0 A1:Ha):Prop:=∀b o,Hs b=some o->¬S0.own x0 b->¬S1.own x1 b->H b=some o/\¬A0.own x0 b/\¬A1.own x1 b
theorem Fast.Tw (fs:Fast Hs H x0 x1 S0 S1 A0 A1)(a:oA H i x0 x1 A0 A1 c d):Fast Hs i x0 x1 S0 S1 c d:=λb o e n0 n1=>by obtain⟨f,g,h⟩:=fs b o e n0 n1;exact⟨a.fr b o g h f,(λz=>(a.o0 b z).elim g λw=>(by rw[f]at w;cases w)),(λz=>(a.o1 b z).elim h λw=>(by rw[f]at w;cases w))⟩
def Bs (Hs:Hp)(x0 x1:Addr)(S0 S1:Ha):Ad->Prop:=λa=>∀b,a=some b->Hs b≠none/\¬S0.own x0 b/\¬S1.own x1 b
structure Ld (K:W.Frag)(CC:Addr)(Hs:Hp)(x0 x1:Addr)(S0 S1:Ha)(xs:List Int)(rs:List Cw)(ns:List Str)(v0 vr vn:V)(xc dxc dc:Addr)(kvc:List (Key×V))(m0:Nat):Prop where
 r0:Rep K Hs (Bs Hs x0 x1 S0 S1) v0 (.list (xs.map .int))
 rr:Rep K Hs (Bs Hs x0 x1 S0 S1) vr (.list (rs.map cwD))
 rn:Rep K Hs (Bs Hs x0 x1 S0 S1) vn (.list (ns.map .str))
 ct:Crt K CC Hs xc dxc dc kvc (esC (rs.take m0))
 c1:¬S0.own x0 xc/\¬S1.own x1 xc
 c2:¬S0.own x0 dc/\¬S1.own x1 dc
 qT:∀b o,S0.own x0 b->Hs b=some o->¬Fix o
 Tz:∀b o,S1.own x1 b->Hs b=some o->¬Fix o
 l63:xs.length<=63
 m01:1<=m0
 xU:m0<=3
theorem Fast.fix {K:W.Frag}(fs:Fast Hs H x0 x1 S0 S1 A0 A1)(ld:Ld K CC Hs x0 x1 S0 S1 xs rs ns v0 vr vn xc dxc dc kvc m0):∀a o,Hs a=some o->Fix o->H a=some o:=λa o e z=>(fs a o e (λw=>ld.qT a o w e z) (λw=>ld.Tz a o w e z)).1
theorem Fast.rep {K:W.Frag}(fs:Fast Hs H x0 x1 S0 S1 A0 A1)(ld:Ld K CC Hs x0 x1 S0 S1 xs rs ns v0 vr vn xc dxc dc kvc m0)(r:Rep K Hs (Bs Hs x0 x1 S0 S1) v d):Rep K H (Bs Hs x0 x1 S0 S1) v d:=Rep.keep (λa o e z=>by
 rcases z with z|z
 ·obtain⟨_,b,c⟩:=z a rfl;exact(fs a o e b c).1
 ·exact fs.fix ld a o e z) (λ_ z=>z) d r
theorem Fast.bW {K:W.Frag}(fs:Fast Hs H x0 x1 S0 S1 A0 A1)(ld:Ld K CC Hs x0 x1 S0 S1 xs rs ns v0 vr vn xc dxc dc kvc m0):Crt K CC H xc dxc dc kvc (esC (rs.take m0)):=⟨(fs _ _ ld.ct.ins ld.c1.1 ld.c1.2).1,(fs _ _ ld.ct.dG ld.c2.1 ld.c2.2).1,aS.keep (λa o e z=>fs.fix ld a o e (z.resolve_left id)) (λ_ z=>z) _ ld.ct.re⟩
abbrev σl (v0 vn:V)(f:Bool)(g:Int)(vr:V)(m:Nat)(xc hl:Addr)(m0:Nat)(tl:L2.St):L2.St:=some v0::some vn::some (.bl f)::some (.int g)::some vr::some (.int m)::some (.ref xc)::some (.ref hl)::some (.int m0)::tl
abbrev Ep (xs:List Int)(ns:List Str)(f:Bool)(g:Int)(rs:List Cw)(m m0:Nat)(tl:Rho):Rho:=some (.od,.list (xs.map .int))::some (.od,.list (ns.map .str))::some (.od,.bool f)::some (.od,.int g)::some (.od,.list (rs.map cwD))::some (.od,.int m)::none::none::some (.od,.int m0)::tl
theorem jA {K:W.Frag}(r0:Rep K H B v0 (.list (xs.map .int)))(rr:Rep K H B vr (.list (rs.map cwD)))(rn:Rep K H B vn (.list (ns.map .str)))(t:Sl K H b a):Sl K H (σl v0 vn f g vr m xc hl m0 b) (Ep xs ns f g rs m m0 a):=.da r0 (.da rn (.da (B:=AnyB) rfl (.da (B:=AnyB) rfl (.da rr (.da (B:=AnyB) rfl (.no (.no (.da (B:=AnyB) rfl t))))))))
theorem Kc (t:Two φ Z.K HC CC H hl x0 x1 A0 A1 h rs m)(e:c[7]?=some (some (.ref hl)))(q:∀a,Same H a->Q (.ref x0) a):wE Z L6.G0 c H Q:=uj (aF e (dH λH1 b=>.inl ⟨hl,_,0,.ref x0,rfl,rfl,SqL.of (b _ _ t.rA),rfl,q H1 b⟩))
theorem Ke {a:L2.St}{Q:VK}(t:Two φ Z.K HC CC H hl x0 x1 A0 A1 h rs m)(e:a[7]?=some (some (.ref hl)))(q:∀b,Same H b->Q (.ref x1) b):wE Z L6.G1 a H Q:=uj (aF e (dH λH1 c=>.inl ⟨hl,_,1,.ref x1,rfl,rfl,SqL.of (c _ _ t.rA),rfl,q H1 c⟩))
theorem Kg {rest:WS}(d:Z.fn[1]?=some (spAl φ Z.K HC CC))(q:wA Z as a H λb H1=>spAl φ Z.K HC CC b H1 (λx c=>∃k,jV Z.K x c k/\(if(!k)=true then wS Z Hl.rF {D0 with nx:=wS Z rest D0} a c else wS Z .nil {D0 with nx:=wS Z rest D0} a c)) Z.E):wS Z (.seq (.bV (.not (.iC (.fR 1 as))) Hl.rF .nil) rest) D0 a H:=by refine iH (lJ ?_);refine uo ?_;show(match Z.fn[1]? with|some e=>hW e [] Z.E (wA Z as)|none=>dF) a H _;rw[d];show wA Z as a H λb H1=>spAl φ Z.K HC CC (b++[]) H1 _ Z.E;simpa only[dz]using q
theorem zkx (O:Z.Κ=[])(P:Z.Φ=Φl)(f0:Z.fn[0]?=some (spDe φ Z.K HC CC))(f1:Z.fn[1]?=some (spAl φ Z.K HC CC))(fx:Fx6 rs ns)(ld:Ld Z.K CC Hs x0 x1 S0 S1 xs rs ns v0 vr vn xc dxc dc kvc m0)(t:Two φ Z.K HC CC H hl x0 x1 A0 A1 h rs m)(fs:Fast Hs H x0 x1 S0 S1 A0 A1)(hi:2+i<xs.length)(hen:h.en.length<=i)(hld:∀l,h.ld=some l->l<=(2+i:Int)/7)
  (q:∀H' N j p F o,Two φ Z.K HC CC H' hl x0 x1 j p F rs N->Fast Hs H' x0 x1 S0 S1 j p->F.en.length<=i+1->(∀l,F.ld=some l->l<=(2+i:Int)/7)->D0.nx (σl v0 vn f g vr N xc hl m0 [some (.int (2+i)),o,zJ,xV]) H'):
  wS Z L6.Em D0 (σl v0 vn f g vr m xc hl m0 [some (.int (2+i)),TB,zJ,xV]) H:=by
 have l63:=ld.l63;have r0:=fs.rep ld ld.r0;have rr:=fs.rep ld ld.rr;have rn:=fs.rep ld ld.rn;have Q:∀{H1:Hp} {o:Option V},Sl Z.K H1 [some (.int (2+i)),o,zJ,xV] [some (.od,.int (2+i)),none,none,none]:=λ{H1 o}=>.da (B:=AnyB) rfl (.no (.no (.no .nil)));obtain⟨c,ec⟩:=SQ xs (k:=2+i) (by omega) (by omega) (by omega) f;refine fF (nB (jA r0 rr rn Q).so (by rw[O,P];exact(dP (aJ (aD rfl) (aJ (aD rfl) (aJ (aD rfl) bG))) rfl ec (JR c)).1) λG H1 s1 TC=>?_);have R:=λ{v:V} {d:D} (r:Rep Z.K H (Bs Hs x0 x1 S0 S1) v d) {S:Hp} (s:Same H S)=>r.same s λ_ z=>z;refine fF ?_;show(match Z.fn[0]? with|some sp=>hW sp [] Z.E (wA Z _)|none=>dF) (σl v0 vn f g vr m xc hl m0 [some (.int (2+i)),some G,zJ,xV]) H1 _;rw[f0];refine aG (aF rfl (aG (aF rfl (aG (aF rfl (aG (aF rfl (aG (aF rfl (aG (nB (jA (R r0 s1) (R rr s1) (R rn s1) Q).so (d:=.int ((2+i:Int)/7)) (by rw[O,P];exact(bL (aD rfl) aM.e (D4 (by decide) (by decide)) rfl).1) λv6 S s2 r6=>?_)))))))))));cases r6;have x:=s1.trans s2;refine aG (aF rfl (bH ⟨hl,x0,x1,A0,A1,h,rs,ns,m,vr,vn,G,c,(2+i:Int)/7,g,Bs Hs x0 x1 S0 S1,rfl,fx,t.same x,by omega,R rr x,R rn x,?_,λb hb=>?_,?_,?_⟩))
 ·exact Rep.bE _ (JR c) (TC.same s2 λ_ z=>z)
 ·obtain⟨h1,h2,h3⟩:=hb b rfl;cases e:Hs b with
  |none=>exact absurd e h1
  |some o=>exact(fs b o e h2 h3).2.1
 ·cases e:h.ld with
  |none=>rfl
  |some l=>exact decide_eq_false (by have:=hld l e;omega)
 intro H3 N j p F y af zW TF;have DH:Fast Hs S x0 x1 S0 S1 A0 A1:=λb o e n0 n1=>⟨x b o (fs b o e n0 n1).1,(fs b o e n0 n1).2⟩;have u:=DH.Tw af;have I:=u.rep ld ld.r0;have J:=u.rep ld ld.rr;have L:=u.rep ld ld.rn;refine iH (lJ (wQ (jA I J L Q).so (b:=false) (by exact bU (hJ (k:=decide ((N:Int)<0)) (aD rfl) aM.e rfl).e (by rw[decide_eq_false (by omega)];rfl)) λH4 A=>gG Z (Kg f1 ?_)));have m1:=y.m1;obtain⟨p0,p1,p2⟩:=Eb (n:=(2+i:Int)) fx y (by omega);have a:=λ{v:V} {d:D} (r:Rep Z.K H3 (Bs Hs x0 x1 S0 S1) v d) {S:Hp} (s:Same H3 S)=>r.same s λ_ z=>z;generalize TH:rs.getD ((2+i:Int)%N).toNat ("",none)=T at p2;have U:=y.same A
 refine aG (Kc U rfl λH5 C=>aG (Ke (U.same C) rfl λH6 M=>aG (nB (jA (a I (A.trans (C.trans M))) (a J (A.trans (C.trans M))) (a L (A.trans (C.trans M))) Q).so (by
  refine mV (bM (aP (aD rfl) (bL (aD rfl) (aD rfl) (eL (by omega)) rfl).e ?_ (tu T)) fE);rw[zF p0 p1,TH]) λv7 H7 s7 r7=>aG (nB (jA (a I (A.trans (C.trans (M.trans s7)))) (a J (A.trans (C.trans (M.trans s7)))) (a L (A.trans (C.trans (M.trans s7)))) Q).so (d:=.list ([ns.getD (7:Int).toNat ⟨#[]⟩].map .str)) (by
  exact mV (bM (aP (aD rfl) aM.e (mS (by decide) (by rw[fx.rq];decide)) rfl) fE)) λv8 H8 s8 r8=>?_))))
 have W:=A.trans (C.trans (M.trans (s7.trans s8)));have Kh:=y.same W;refine bH ⟨x0,j,F,x1,p,F.bN (esC rs),v7,[T],v8,[ns.getD (7:Int).toNat ⟨#[]⟩],AnyB,rfl,Kh.t0,y.ok,Kh.t1,y.xS fx,r7.same s8 λ_ z=>z,r8,rfl,λr hr=>?_,λH9 s9=>⟨true,rfl,gG Z (gG Z ?_)⟩⟩
 ·cases bu.mp hr;exact⟨y.bW fx p2,nN fx (uA p2),λw _=>(DQ _ (y.ln fx p2)).symm⟩
 ·have Ki:=W.trans s9;refine q H9 N j p F (some G) (y.same Ki) (λb o e n0 n1=>⟨Ki b o (u b o e n0 n1).1,(u b o e n0 n1).2⟩) (by omega) λl e=>?_;rcases zW with z|z
  ·exact hld l (z▸e)
  ·rw[z]at e;cases e;exact qh _
end
theorem Er {b:Type}{a:List b}(h:k<=a.length):cut a none (some (k:Int))=a.take k:=by
 unfold cut aZ
 dsimp only
 rw[qu (by omega),List.drop_zero,fi,Nat.min_eq_left h,Nat.sub_zero]
theorem TJ {b:Type}{a:List b}(h:k<=a.length):cut a (some (k:Int)) none=a.drop k:=by
 unfold cut aZ
 dsimp only
 rw[qu (by omega),fi,Nat.min_eq_left h,my (by rw[j6];exact ae _)]
theorem zK (i j:Option Int):oP (.list (rs.map cwD)) i j=.ok (.list ((cut rs i j).map cwD)):=by show Res.ok (PyData.list (cut (rs.map cwD) i j))=_;rw[SM]
theorem eq_self (h:bA 40 d=true):cmpD .Eq d d=.ok true:=by show(if(bA 40 d&&bA 40 d)=true then Res.ok (dZ d d)else Res.no)=_;rw[h,qt (show(true&&true)=true from rfl),show dZ d d=true from sH d 40 h]
section
variable {K:W.Frag}{HC CC:Addr}{mg:Str->Option Value}{H1:Hp}{Q:Addr->Hp->Prop}{E:XK}
theorem kH (ct:Crt K CC H1 y dy d kvs es)(i:z0h [] (es.map ent)=some es)(j:es.length<1000)(q:∀x A a,Same H1 a->H1 x=none->(∀b,A.own x b->H1 b=none)->H1 A.c=none->Hou K HC CC a x A ⟨es,[],[],none⟩->Q x a):
  ∀x dx,H1 x=none->H1 dx=none->dx≠x->spHi K HC CC (.ref x::([.ref y]++[])) (upd (upd H1 dx (.own x)) x (.ins HC dx [])) (λv k=>v=.aK/\Q x k) E:=by
 intro x dx f h l;have g:Same H1 (upd (upd H1 dx (.own x)) x (.ins HC dx [])):=λb o e=>by rw[aE (bQ e f),aE (bQ e h)];exact e
 refine⟨x,dx,y,dy,d,kvs,es,rfl,bI,ct.same g,i,j,λa A m n p t=>⟨rfl,q x A a (λb o e=>m b o (bQ e f) (g b o e)) f (λb r=>?_) (g.none p) t⟩⟩;rcases n b r with rfl|z
 ·exact f
 ·exact g.none z
theorem kC (l:Rep K H1 B i (.list ps))(j:z0h [] ps=some es)(m:ps.length<1000)(q:∀x dx d kvs a,Same H1 a->H1 x=none->H1 d=none->Crt K CC a x dx d kvs es->Q x a):
  ∀x dx,H1 x=none->H1 dx=none->dx≠x->z9g K CC mg (.ref x::([i]++[])) (upd (upd H1 dx (.own x)) x (.ins CC dx [])) (λv k=>v=.aK/\Q x k) E:=by
 intro x dx f g n;have c:Same H1 (upd (upd H1 dx (.own x)) x (.ins CC dx [])):=λb o e=>by rw[aE (bQ e f),aE (bQ e g)];exact e
 obtain⟨p,h⟩:=DJ j;refine⟨x,dx,i,ps,AnyB,rfl,bI,l.same c λ_ _=>trivial,p,h,m,?_⟩;generalize upd (upd H1 dx (.own x)) x (.ins CC dx [])=k at c;unfold sX;rw[j];exact λa d kvs hd r ct=>⟨rfl,q x dx d kvs a (λb o e=>r b o (bQ e f) (c b o e)) f (c.none hd) ct⟩
end
theorem zL:Hok b ⟨es,[],[],none⟩:=⟨rfl,db _,(λe a=>(by cases a)),(λf hf=>(by cases hf))⟩
section
variable {φ:eP}{Z:Wc}{HC CC:Addr}{H:Hp}{hl x0 x1 x2 xc dxc dc:Addr}{kvc:List (Key×V)}{A0 A1 A2:Ha}{h:Hd}{rs:List Cw}{ns:List Str}{m m0:Nat}{D0:Ends}
variable {v0 vr vn:V}{xs:List Int}{g:Int}{f:Bool}{B:Ad->Prop}
theorem jB (a:Z.Κ=[])(b:Z.Φ=Φl)(s:Sl Z.K H σ ρ)(e:Ev [] Φl c ρ d)(q:∀v f,Same H f->Rep Z.K f AnyB v d->Q v f):wE Z (.aV c) σ H Q:=by obtain⟨g,e⟩:=e;exact nB s.so (by rw[a,b];exact e) q
theorem hV (a:Z.Κ=[])(b:Z.Φ=Φl)(r0:Rep Z.K H B v0 (.list (xs.map .int)))(rr:Rep Z.K H B vr (.list (rs.map cwD)))(rn:Rep Z.K H B vn (.list (ns.map .str)))(j:Same H H1)(e:Ev [] Φl c (Ep xs ns f g rs m m0 (ao i.length none)) d)(q:∀v h,Same H1 h->Rep Z.K h AnyB v d->Q v h):wE Z (.aV c) (σl v0 vn f g vr m xc hl m0 i) H1 Q:=jB a b ((jA r0 rr rn (pT i)).same j) e q
theorem zfo {xs:List D}{P:Nat->Prop}(t:∀R,(∀v H1,Same H H1->Rep Z.K H1 AnyB v (.list xs)->R v H1)->wE Z it σ H R)(J:i<σ.length)(L:P i)
  (one:∀x∈xs,∀u e w f,u.rt=D0.rt->e.length=σ.length->(∀j,¬P j->e[j]?=σ[j]?)->e[i]?=some (some w)->Rep Z.K f AnyB w x->Same H f->(∀c p,c.length=σ.length->(∀j,¬P j->c[j]?=σ[j]?)->Same f p->u.nx c p)->wS Z b u e f)
  (q:∀c p,c.length=σ.length->(∀j,¬P j->c[j]?=σ[j]?)->Same H p->D0.nx c p):wS Z (.eX (.nm i) it b) D0 σ H:=by
 refine t _ λv H1 E F=>?_;obtain⟨a,M,rfl,N,rs⟩:=lG F;refine⟨a,rfl,⟨M,N⟩,?_⟩;obtain⟨a',g,O,hr,r⟩:=F;cases O
 have keep:∀f,Same H1 f->SqL Z.K f a g:=λf G=>by
  rcases hr with⟨hr,_⟩|⟨⟨o,hr⟩|hr,_⟩
  ·exact .inl (.inl (G _ _ hr))
  ·exact .inl (.inr ⟨o,G _ _ hr⟩)
  ·exact .inr hr
 have Q:=r.length
 let W:Nat->Nat->L2.St->Hp->Prop:=λk m h l=>m=xs.length-k/\k<=xs.length/\h.length=σ.length/\(∀j,¬P j->h[j]?=σ[j]?)/\Same H1 l
 refine⟨W,⟨_,rfl,db _,rfl,λ_ _=>rfl,Same.refl H1⟩,?_⟩
 rintro k m h l ⟨rfl,hk,hl,s,n⟩
 by_cases A:k<xs.length
 ·refine .inr ⟨⟨g,g[k]'(by omega),keep l n,ah (by omega)⟩,W (k+1) (xs.length-(k+1)),λe f w=>⟨_,by omega,w⟩,λy f B=>?_⟩;obtain⟨S,B⟩:=B;obtain⟨d,hd,T⟩:=Reps.kJ r (B _ (keep l n));rw[S];exact z8z (T.same n λ_ z=>z) (hl▸J) λe U C V X rest=>one d (aw hd) _ e U l rfl (C.trans hl) (λj I=>(rest j (λz=>I (z▸L))).trans (s j I)) V X (E.trans n) λc p h1 h2 h3=>⟨rfl,A,h1,h2,n.trans h3⟩
 ·have RX:k=xs.length:=by omega
  exact .inl ⟨⟨g,keep l n,by omega⟩,q h l hl s (E.trans n)⟩
theorem Es (fx:Fx6 rs ns)(hm:m0<=rs.length):z0h [] ((esC (rs.take m0)).map ent)=some (esC (rs.take m0)):=by rw[Jz];exact zw fx.lM fx.gd m0 hm
theorem Et (fx:Fx6 rs ns):(esC (rs.take m0)).length<1000:=by rw[zt,c9,fx.l7];omega
theorem TK (fx:Fx6 rs ns)(c:1<=m0):∃s,rs[0]?=some (s,none)/\s∈dJ (rs.take m0)/\fL (esC (rs.take m0)) 999 s=[s]:=by
 cases e:rs with
 |nil=>have:=fx.l7;rw[e]at this;cases this
 |cons r t=>
  have h0:r.2=none:=by
   cases b:r.2 with
   |none=>rfl
   |some a=>have:=fx.gd 0 r.1 a (by rw[e,<-b];rfl);cases this
  obtain⟨k,rfl⟩:∃k,m0=k+1:=⟨m0-1,by omega⟩;refine⟨r.1,by rw[<-h0];rfl,by rw[ot];exact bj,?_⟩;have hl:z0e (esC ((r::t).take (k+1))) (.str r.1)=some .none:=by rw[DL,ot,d7,qy rfl];show some (fM r.2)=_;rw[h0];rfl
  show(match z0e (esC ((r::t).take (k+1))) (.str r.1)with|some (.str a)=>r.1::fL (esC ((r::t).take (k+1))) 998 a|_=>[r.1])=[r.1];rw[hl]
theorem zn3 (b:Z.Κ=[])(c:Z.Φ=Φl)(G:Z.fn[1]?=some (spAl φ Z.K HC CC))(I:Z.me[0]?=some (CC,("line":Str),z2l Z.K CC Z.mg))(c1:Z.cl[1]?=some (HC,spHi Z.K HC CC))(fx:Fx6 rs ns)(m01:1<=m0)(J:m0<=3)(ct:Crt Z.K CC H xc dxc dc kvc (esC (rs.take m0)))(L:Hou Z.K HC CC H x2 A2 ⟨esC (rs.take m0),[],[],none⟩)(r0:Rep Z.K H B v0 (.list (xs.map .int)))(rr:Rep Z.K H B vr (.list (rs.map cwD)))(rn:Rep Z.K H B vn (.list (ns.map .str)))
  (q:∀x,Same H x->D0.rt (.bl true) x):wS Z L6.Ka D0 (σl v0 vn f g vr m xc hl m0 [M,j,some (.ref x2),k]) H:=by
 have hm:m0<=rs.length:=by rw[fx.l7];omega
 refine uw (Dx ?_);show(match Z.fn[1]? with|some N=>hW N [] Z.E (wA Z _)|none=>dF) (σl v0 vn f g vr m xc hl m0 [M,j,some (.ref x2),k]) H _;rw[G];refine aG (aF rfl (aG (tq c1 (aG (aF rfl (bH (kH ct (Es fx hm) (Et fx) λO P H3 l _ _ _ Q=>?_)))))));refine aG (hV (d:=.list ((rs.take m0).map cwD)) b c r0 rr rn l (gK (aD rfl) nU (jO (aD rfl)) (by rw[zK,Er hm])) λR H4 n S=>aG (hV b c r0 rr rn (l.trans n) (gK (aD rfl) (jO aM.e) (jO aM.e) (xP _ _)) λT H5 o U=>?_));have h:=l.trans (n.trans o);refine bH ⟨x2,A2,_,O,P,_,R,rs.take m0,T,_,AnyB,rfl,L.same h,zL,Q.same (n.trans o),zL,S.same o λ_ z=>z,U,rfl,λr hr=>?_,λH6 V=>⟨true,rfl,?_⟩⟩
 ·have :=nJ fx.lM fx.gd (by rw[fx.l7];decide) hm (bp.mpr ⟨r,hr,rfl⟩);exact⟨this,this,λ_ _=>rfl⟩
 ·obtain⟨s,W,y,X⟩:=TK fx m01;have a:=h.trans V;have i:Vv [] Φl L6.Ek (Ep xs ns f g rs m m0 (ao 4 none)) (.str s):=aP (aP (aD rfl) aM.e (wY (by rw[av,W];rfl)) (tu _)).e aM.e rfl rfl;refine um (gE I (aF rfl ⟨xc,dxc,_,rfl,a _ _ ct.ins,rfl,aG (hV b c r0 rr rn a i.e λv7 H7 u A=>bH ⟨xc,dxc,dc,kvc,_,v7,.str s,AnyB,rfl,ct.same (a.trans u),A,?_⟩)⟩));rw[qt (stC.mpr y)];refine⟨s,999,rfl,by decide,(ar.mp (nJ fx.lM fx.gd (by rw[fx.l7];decide) hm y)).2,λH8 p C hp D=>?_⟩;rw[X]at D;refine hV b c r0 rr rn (a.trans (u.trans C)) ⟨_,mV (bM i fE)⟩ λv9 H9 F r9=>?_;exact iE (B:=AnyB) (dx:=.list [.str s]) ⟨p,_,rfl,.inl ⟨F _ _ D,trivial⟩,za λt ht=>by cases bu.mp ht;exact A.2⟩ r9 (eq_self rfl) λv w=>q v (a.trans (u.trans (C.trans (F.trans w))))
theorem zki (i:Z.Κ=[])(l:Z.Φ=Φl)(Q:Z.fn[1]?=some (spAl φ Z.K HC CC))(S:Z.fn[2]?=some (spUn φ Z.K HC CC))(T:Z.me[0]?=some (CC,("line":Str),z2l Z.K CC Z.mg))(c1:Z.cl[1]?=some (HC,spHi Z.K HC CC))(fx:Fx6 rs ns)(m01:1<=m0)(x:m0<=3)(ct:Crt Z.K CC H xc dxc dc kvc (esC (rs.take m0)))(r0:Rep Z.K H B v0 (.list (xs.map .int)))(rr:Rep Z.K H B vr (.list (rs.map cwD)))(rn:Rep Z.K H B vn (.list (ns.map .str)))
  (q:∀I,Same H I->D0.rt (.bl true) I):wS Z L6.Kb D0 (σl v0 vn f g vr m xc hl m0 [y,n,U,xV]) H:=by
 have hm:m0<=rs.length:=by rw[fx.l7];omega
 have A:=λ{v:V} {d:D} (r:Rep Z.K H B v d) {J:Hp} (s:Same H J)=>r.same s λ_ z=>z;refine fF (tq c1 (aG (aF rfl (bH (kH ct (Es fx hm) (Et fx) λx2 A2 J C _ _ _ L=>?_)))));refine iH (zfo (P:=λj=>j=12) (λR k=>hV i l r0 rr rn C (gK (aD rfl) (jO (aD rfl)) nU (by rw[zK,TJ hm])) k) (by show 12<13;decide) rfl (λd hd D2 c M N W h b X r3 w F=>?_) λc N h b w=>?_)
 ·obtain⟨r,hr,rfl⟩:=bp.mp hd
  have p:c=σl v0 vn f g vr m xc hl m0 [y,n,some (.ref x2),some M]:=by
   refine er λj=>?_;by_cases t:j=12
   ·subst t;exact X
   ·rw[b j t];rcases j with _|_|_|_|_|_|_|_|_|_|_|_|_|j<;>first|rfl|exact absurd rfl t
  subst p;have a:=C.trans w;refine iH (lJ ?_);refine uo ?_;show(match Z.fn[2]? with|some sp=>hW sp [] Z.E (wA Z _)|none=>dF) (σl v0 vn f g vr m xc hl m0 [y,n,some (.ref x2),some M]) N _;rw[S];refine aG (aF rfl (aG (eN (aF rfl (dH λO u=>eG (r3.same u λ_ z=>z) rfl λw4 r4=>aG (hV i l r0 rr rn (a.trans u) (aP (aD rfl) aM.e (mS (by decide) (by rw[fx.rq];decide)) rfl).e λv5 H5 G r5=>bH ⟨x2,A2,_,w4,.str r.1,v5,_,AnyB,rfl,L.same (w.trans (u.trans G)),zL,r4.same G λ_ z=>z,r5,zu λz=>?_,λH6 s6=>⟨true,rfl,?_⟩⟩))))))
  ·have nd:=fx.lM;rw[<-j5 m0 rs,dJ,dh]at nd;exact(j0.mp nd).2.2 r.1 z r.1 (bp.mpr ⟨r,hr,rfl⟩) rfl
  ·exact gG Z (gG Z (F _ H6 h b (u.trans (G.trans s6))))
 ·have p:∃o,c=σl v0 vn f g vr m xc hl m0 [y,n,some (.ref x2),o]:=by
   have h:c.length=13:=h;refine⟨c[12]'(by omega),er λj=>?_⟩;by_cases t:j=12
   ·subst t;simp_all
   ·rw[b j t];rcases j with _|_|_|_|_|_|_|_|_|_|_|_|_|j<;>first|rfl|exact absurd rfl t
  obtain⟨o,rfl⟩:=p;have a:=C.trans w;exact zn3 i l Q T c1 fx m01 x (ct.same a) (L.same w) (A r0 a) (A rr a) (A rn a) λO u=>q O (a.trans u)
theorem zkf (c:Z.Κ=[])(i:Z.Φ=Φl)(u:Z.fn[1]?=some (spAl φ Z.K HC CC))(E:Z.fn[2]?=some (spUn φ Z.K HC CC))(F:Z.me[0]?=some (CC,("line":Str),z2l Z.K CC Z.mg))(c1:Z.cl[1]?=some (HC,spHi Z.K HC CC))(fx:Fx6 rs ns)(m01:1<=m0)(o:m0<=3)(b:Two φ Z.K HC CC H hl x0 x1 A0 A1 h rs m)(ct:Crt Z.K CC H xc dxc dc kvc (esC (rs.take m0)))(r0:Rep Z.K H B v0 (.list (xs.map .int)))(rr:Rep Z.K H B vr (.list (rs.map cwD)))(rn:Rep Z.K H B vn (.list (ns.map .str)))
  (q:∀x,Same H x->D0.rt (.bl true) x):wS Z L6.Eo D0 (σl v0 vn f g vr m xc hl m0 [o9,TB,zJ,xV]) H:=by
 have p:=λ{v:V} {d:D} (r:Rep Z.K H B v d) {y:Hp} (s:Same H y)=>r.same s λ_ z=>z;refine Kg u (aG (Kc b rfl λH1 n=>aG (Ke (b.same n) rfl λy t=>aG (hV (d:=.list ((rs.take m).map cwD)) c i r0 rr rn (n.trans t) (gK (aD rfl) nU (jO (aD rfl)) (by rw[zK,Er b.m7])) λG P A I=>aG (hV c i r0 rr rn (n.trans (t.trans A)) (gK (aD rfl) (jO aM.e) (jO aM.e) (xP _ _)) λJ Q C L=>?_)))));have k:=n.trans (t.trans (A.trans C));have l:=b.same k;refine bH ⟨x0,A0,h,x1,A1,h.bN (esC rs),G,rs.take m,J,_,AnyB,rfl,l.t0,b.ok,l.t1,b.xS fx,I.same C λ_ z=>z,L,rfl,λr hr=>?_,λR M=>⟨true,rfl,gG Z ?_⟩⟩
 ·have j:r.1∈dJ (rs.take m):=bp.mpr ⟨r,hr,rfl⟩;exact⟨b.bW fx j,nN fx (uA j),λw _=>(DQ _ (b.ln fx j)).symm⟩
 ·have a:=k.trans M;exact zki c i u E F c1 fx m01 o (ct.same a) (p r0 a) (p rr a) (p rn a) λN O=>q N (a.trans O)
end
section
variable {φ:eP}{Z:Wc}{HC CC:Addr}{H:Hp}{hl x0 x1 xc dxc dc:Addr}{kvc:List (Key×V)}{S0 S1:Ha}{rs:List Cw}{ns:List Str}{m0:Nat}{D0:Ends}
variable {v0 vr vn:V}{xs:List Int}{g:Int}{f:Bool}
theorem Eu {a:Rho}{Φ:List Fn}(h0:a[0]?=some (some (.od,.list (xs.map .int)))):evW [] Φ L6.it a=.ok (.fr,(cg (min xs.length 62-2)).map λ(i:Nat)=>PyData.int (2+i)):=by refine wB (ds:=[.int 2,.int (min (xs.length:Int) 62)]) (aJ aM.e (aJ (eW (aJ (eW (aJ (aD h0) bG) (SK xs) rfl).e (aJ aM.e bG)) rfl rfl).e bG)) ?_;show(if -aR<=(2:Int)/\min (xs.length:Int) 62<=aR/\(2:Int)<=aR/\-aR<=min (xs.length:Int) 62 then Res.ok ((cg (min (xs.length:Int) 62-2).toNat).map λ(i:Nat)=>PyData.int (2+i))else Res.no)=_;rw[qt (by unfold aR;omega),show(min (xs.length:Int) 62-2).toNat=min xs.length 62-2 by omega]
theorem Kj {K:W.Frag}(t:Hou K HC CC H x A hd)(a:A.own x b)(e:H b=some o):¬Fix o:=by
 rcases a with rfl|rfl|rfl|rfl|a
 ·obtain⟨h,c,_⟩:=t.ins;rw[c]at e;cases e;exact id
 ·have :=t.bW.dG;rw[this]at e;cases e;exact id
 ·obtain⟨i,d,_⟩:=t.ent;rw[d]at e;cases e;exact id
 ·have :=t.iG;rw[this]at e;cases e;exact id
 ·obtain⟨k,f⟩:=ce.mp a;obtain⟨j,g,_⟩:=t.eO.2 k b f;rw[g]at e;cases e;exact id
theorem zmk (p:Z.Κ=[])(A:Z.Φ=Φl)(f0:Z.fn[0]?=some (spDe φ Z.K HC CC))(f1:Z.fn[1]?=some (spAl φ Z.K HC CC))(f2:Z.fn[2]?=some (spUn φ Z.K HC CC))(g0:Z.me[0]?=some (CC,("line":Str),z2l Z.K CC Z.mg))(c1:Z.cl[1]?=some (HC,spHi Z.K HC CC))(fx:Fx6 rs ns)(l63:xs.length<=63)(m01:1<=m0)(B:m0<=3)
  (t:Two φ Z.K HC CC H hl x0 x1 S0 S1 ⟨esC (rs.take m0),[],[],none⟩ rs m0)
  (ct:Crt Z.K CC H xc dxc dc kvc (esC (rs.take m0))) (n1:¬S0.own x0 xc/\¬S1.own x1 xc) (n2:¬S0.own x0 dc/\¬S1.own x1 dc)
  (r0:Rep Z.K H (Bs H x0 x1 S0 S1) v0 (.list (xs.map .int))) (rr:Rep Z.K H (Bs H x0 x1 S0 S1) vr (.list (rs.map cwD))) (rn:Rep Z.K H (Bs H x0 x1 S0 S1) vn (.list (ns.map .str)))
  (q:∀h,(∀b o,¬S0.own x0 b->¬S1.own x1 b->H b=some o->h b=some o)->D0.rt (.bl true) h):wS Z (.seq (.bP (.nm 9) L6.it L6.Em) L6.Eo) D0 (σl v0 vn f g vr m0 xc hl m0 [none,none,none,none]) H:=by
 refine iH ⟨_,F0 H,_,(jA r0 rr rn (pT [none,none,none,none])).so,by rw[p];exact Eu rfl,λJ B' C E hB O=>?_⟩;have P:=t.same E
 have ld:Ld Z.K CC C x0 x1 S0 S1 xs rs ns v0 vr vn xc dxc dc kvc m0:=by
  have up:∀{v:V} {d:D},Rep Z.K H (Bs H x0 x1 S0 S1) v d->Rep Z.K C (Bs C x0 x1 S0 S1) v d:=λ{v d} r=>r.same E λa z b F=>by obtain⟨n,z2⟩:=z b F;exact⟨λw=>n (E.none w),z2⟩
  exact⟨up r0,up rr,up rn,ct.same E,n1,n2,λb o F e=>Kj P.t0 F e,λb o F e=>Kj P.t1 F e,l63,m01,B⟩
 have s:((cg (min xs.length 62-2)).map λ(i:Nat)=>PyData.int (2+i)).length=min xs.length 62-2:=by rw[am,d4]
 let W:Nat->Nat->L2.St->Hp->Prop:=λi k G h=>k=min xs.length 62-2-i/\i<=min xs.length 62-2/\∃mm Q R hh o9 u,G=σl v0 vn f g vr mm xc hl m0 [o9,u,none,none]/\Two φ Z.K HC CC h hl x0 x1 Q R hh rs mm/\Fast C h x0 x1 S0 S1 Q R/\hh.en.length<=i/\∀l,hh.ld=some l->l<=(2+i:Int)/7
 refine⟨W,⟨_,rfl,db _,m0,S0,S1,_,none,none,rfl,P,λb o e x n=>⟨e,x,n⟩,db _,λl e=>by cases e⟩,?_⟩
 rintro i k G h ⟨rfl,hi,mm,Q,R,hh,o9,u,rfl,tw,fs,S,hld⟩
 have kp:Kp B' C h:=λb o e z=>by
  rcases z with z|z
  ·have hn:H b=none:=(hB _ z).1;exact(fs b o e (λw=>t.t0.there (.inl w) hn) (λw=>t.t1.there (.inl w) hn)).1
  ·exact fs.fix ld b o e z
 by_cases m:i<min xs.length 62-2
 ·refine .inr ⟨O.go h kp i (by rw[s];exact m),W (i+1) (min xs.length 62-2-(i+1)),λI H2 w=>⟨_,by omega,w⟩,λy H6 hy=>?_⟩;obtain⟨s6,c,L,ry⟩:=O.gO h kp i y H6 (by rw[s];exact m) hy;rw[av,jc m]at L;cases L;refine z8z ry (by show 9<13;decide) λI w Jm e9 r9 rest=>?_;cases r9
  have T:I=σl v0 vn f g vr mm xc hl m0 [some (.int (2+i)),u,none,none]:=by
   refine er λj=>?_;by_cases U:j=9
   ·subst U;exact e9
   ·rw[rest j U];rcases j with _|_|_|_|_|_|_|_|_|_|j<;>first|rfl|exact absurd rfl U
  subst T;refine zkx p A f0 f1 fx ld (tw.same s6) (λb o e x n=>⟨s6 _ _ (fs b o e x n).1,(fs b o e x n).2⟩) (by omega) S hld λH7 m7 X Y h7 o t7 TL M N=>?_;exact⟨rfl,m,m7,X,Y,h7,_,_,rfl,t7,TL,M,λl e=>Int.le_trans (N l e) (by omega)⟩
 ·have sG:i=min xs.length 62-2:=by omega
  refine .inl ⟨by have:=O.stop h kp;rw[s]at this;rw[sG];exact this,?_⟩;refine zkf p A f1 f2 g0 c1 fx m01 B tw (fs.bW ld) (fs.rep ld ld.r0) (fs.rep ld ld.rr) (fs.rep ld ld.rn) λH8 s8=>q H8 λb o x n e=>s8 b o (fs b o (E b o e) x n).1
end
section
variable {φ:eP}{Z:Wc}{HC CC:Addr}{H:Hp}{D0:Ends}{v0:V}{xs:List Int}{B:Ad->Prop}
theorem zq7 (i:Z.Κ=[])(j:Z.Φ=Φl)(f0:Z.fn[0]?=some (spDe φ Z.K HC CC))(f1:Z.fn[1]?=some (spAl φ Z.K HC CC))(f2:Z.fn[2]?=some (spUn φ Z.K HC CC))(g0:Z.me[0]?=some (CC,("line":Str),z2l Z.K CC Z.mg))(c0:Z.cl[0]?=some (CC,z9g Z.K CC Z.mg))(c1:Z.cl[1]?=some (HC,spHi Z.K HC CC))(l63:xs.length<=63)(r0:Rep Z.K H B v0 (.list (xs.map .int)))
  (q:∀H',Same H H'->D0.rt (.bl true) H'):wS Z L6.la D0 (some v0::ao 12 none) H:=by
 have big:au>3000:=by rw[c8];decide
 obtain⟨J,W⟩:=JQ xs l63 (k:=0) (by decide);obtain⟨k1,e1⟩:=JQ xs l63 (k:=1) (by decide);have ca:∀{ρ:Rho} {k v:Int},ρ[0]?=some (some (.od,.list (xs.map .int)))->pR [.list (xs.map .int),.int k]=.ok (.fr,.int v)->Vv [] Φl (L6.ca k) ρ (.int v):=λh e=>dP (aJ (aD h) (aJ aM.e bG)) rfl e rfl;obtain⟨ns,⟨TM,Ec⟩,en⟩:=SY J (ae _);generalize hf:decide (J%2=1)=f;obtain⟨g,_,eg⟩:=SS J f;obtain⟨rs,⟨gd,nm⟩,ec⟩:=Td (ns:=ns) (ae _) (by decide) (by omega) (by omega) (k1,f) rfl;have fx:Fx6 rs ns:=⟨Ec,TM,by have:=congrArg lq nm;rw[am,c9]at this;omega,nm,gd⟩;obtain⟨C,TN⟩:∃C:Nat,1+J%3=(C:Int):=⟨(1+J%3).toNat,by omega⟩;have m01:1<=C:=by omega
 have TQ:C<=3:=by omega
 have xU:C<=rs.length:=by rw[fx.l7];omega
 refine fF (jB i j (.da r0 (pT _)) (qW (aJ (ca rfl W).e (aJ aM.e bG)) rfl en) λvn H1 s1 rn=>?_);have m:=λ{v:V} {d:D} {Ha:Hp} {X:Ad->Prop} (r:Rep Z.K Ha X v d) {Hb:Hp} (s:Same Ha Hb)=>r.same s λ_ _=>trivial;refine fF (jB i j (.da (m r0 s1) (.da rn (pT _))) (hJ (k:=decide (J%2=1)) (bL (ca rfl W).e aM.e (eL (by decide)) rfl).e aM.e rfl).e λv2 H2 Y r2=>?_);cases r2;rw[hf];have M:=s1.trans Y;refine fF (jB i j (.da (m r0 M) (.da (m rn Y) (.da (d:=.bool f) (B:=AnyB) rfl (pT _)))) (dP (aJ (ca rfl W).e (aJ (aD rfl) bG)) rfl eg rfl).e λv3 H3 s3 r3=>?_);cases r3;have N:=M.trans s3;refine fF (jB i j (.da (m r0 N) (.da (m rn (Y.trans s3)) (.da (d:=.bool f) (B:=AnyB) rfl (.da (d:=.int g) (B:=AnyB) rfl (pT _))))) (qW (aJ (Ra (aJ (ca rfl e1).e (aJ (aD rfl) bG))) (aJ (aD rfl) bG)) rfl ec) λvr H4 s4 rr=>?_);have O:=N.trans s4;refine fF (jB i j (.da (m r0 O) (pT _)) (bL aM.e (bL (ca rfl W).e aM.e (eL (by decide)) rfl).e rfl rfl).e λv5 H5 s5 r5=>?_);cases r5;rw[TN];refine fF (tq c0 (aG (jB i j (d:=.list ((rs.take C).map cwD)) (.no (.no (.no (.no (.da (m rr s5) (.da (d:=.int C) (B:=AnyB) rfl (pT _))))))) (gK (aD rfl) nU (jO (aD rfl)) (by rw[zK,Er xU])) λvp H6 s6 rp=>bH (kC rp (zw fx.lM fx.gd C xU) (by rw[am,c9,fx.l7];omega) λxc dxc dc kvc H7 s7 hx hd ct=>?_))));have E:=s5.trans (s6.trans s7);have P:=O.trans E;have Q:=m rr E;have R:z0h [] (rs.map cwD)=some (esC rs):=by have:=zw fx.lM fx.gd rs.length (ae _);rw[gh]at this;exact this
 have lA:rs.length<1000:=by rw[fx.l7];decide
 refine fF (uq (aG (tq c1 (aG (aF rfl (bH (kH ct (Es fx xU) (Et fx) λF A0 H8 s8 Vp TR Vq t0=>?_)))))));refine aG (tq c1 (aG (tq c0 (aG (aF rfl (bH (kC (m Q s8) R (by rw[am];exact lA) λxd Vr dd Vs H9 s9 Vt Vu TU=>bH (kH TU (by rw[Jz];exact R) (by rw[zt];exact lA) λL A1 t G Gq I TV t1=>bH ⟨by show 2<=au;omega,λp hp=>?_⟩))))))));have u:Same t (upd t p (.lst [.ref F,.ref L])):=Same.upd hp;have S:upd t p (.lst [.ref F,.ref L]) p=some (.lst [.ref F,.ref L]):=bI;refine fF (aF rfl ?_);generalize upd t p (.lst [.ref F,.ref L])=T at u S ⊢;have U:=s8.trans s9;have l:=U.trans (G.trans u);have x:∀b,H7 b≠none->¬A0.own F b:=λb h w=>h (TR b w);have y:∀b,H7 b≠none->¬A1.own L b:=λb h w=>h (U.none (I b w));have up:∀{v:V} {d:D} {X:Ad->Prop},Rep Z.K H7 X v d->Rep Z.K T (Bs T F L A0 A1) v d:=λ{v d X} r=>(Rep.there _ r).same l λa z b n=>by subst n;have n:=z.2;exact⟨λw=>n (l.none w),x b n,y b n⟩
 have A:∀{b:Addr},A0.own F b\/b=A0.c->H9 b≠none:=λ{b} w z=>t0.there w (s9.none z);refine zmk i j f0 f1 f2 g0 c1 fx l63 m01 TQ ⟨S,t0.same (s9.trans (G.trans u)),t1.same u,λb n w=>?_,λb n w=>A w (I b n),λw=>?_,λw=>?_,zL,rfl,m01,xU,λe he=>by cases he⟩ (ct.same l) ⟨x _ (by rw[ct.ins];simp),y _ (by rw[ct.ins];simp)⟩ ⟨x _ (by rw[ct.dG];simp),y _ (by rw[ct.dG];simp)⟩ (up (m r0 P)) (up Q) (up (m rn (Y.trans (s3.trans (s4.trans E))))) λJZ TX=>q JZ λb o e=>?_
 ·rcases w with w|w
  ·exact A (.inl n) (I b w)
  ·subst w;exact A (.inl n) TV
 ·exact A (.inl w) (G.none hp)
 ·exact t1.there (.inl w) hp
 ·have e7:=P b o e;exact TX b o (x b (by rw[e7];simp)) (y b (by rw[e7];simp)) (l b o e7)
end
def top (i:Nat):Stmt:=PySem.Challenge.pw_likebook_k46_courts_founded.main.body.getD i (.Pass ⟨0,0,0,0⟩)
def zM (i:Nat):Stmt->Stmt
 |.ClassDef _ _ _ b ..=>b.getD i (.Pass ⟨0,0,0,0⟩)
 |s=>s
def Sb:Nat->S
 |0=>.nil
 |n+1=>.seq .bad (Sb n)
abbrev FREE:List Str:=["isinstance","str","len","range","list","min","ValueError","int","bool","enumerate","dict","sorted","tuple"]
abbrev hr (nm:Str)(st:Stmt)(N:List Str)(k n:Nat):aO:=⟨nm,st,N,N.take k,FREE,[],Sb n,bC [] [] N.length (Sb n),.n,[]⟩
abbrev Kk:List Str:=["_law_houses","_law_rows","_law_there","_law_names_here","_law_cell_here","_law_day","_law_great_here","_law_kind","_law_odd","_law_court","_law_new","_law_found"]
abbrev TY:List Str:=["_law_script","_law_names_here","_law_free","_law_great_here","_law_rows","_law_there","_law_courts_here","_law_houses","_law_first","_law_k","_law_cell_here","_law_third","_law_row"]
abbrev Rz:List aO:=[
 ⟨"over",top 14,["one","other","held"],["one","other"],["dict"],[],xu,tG,.n,[]⟩,
 ⟨"within",top 13,["one","other"],["one","other"],[],[0],xv,nM,.n,[]⟩,
 ⟨"check_side",top 10,["side"],["side"],["isinstance","str"],[],xq,tF,.n,[]⟩,
 ⟨"side_of",top 11,["case","side"],["case","side"],[],[2],xr,nK,.n,[]⟩,
 ⟨"ruling",top 16,["case","side","reason"],["case","side","reason"],[],[1,3],xw,pO,.n,[]⟩,
 ⟨"against",top 17,["one","other"],["one","other"],[],[1,3],xx,gI,.n,[]⟩,
 ⟨"barred",top 19,["book","one","k","other"],["book","one"],["enumerate"],[5],xy,pP,.n,[]⟩,
 ⟨"stood",top 23,["fate","day"],["fate","day"],["len"],[],xA,pQ,.n,[]⟩,
 ⟨"_law_cell_at",top 26,["_law_script","_law_k"],["_law_script","_law_k"],["len"],[],xB,pR,.n,[]⟩,
 ⟨"_law_mix",top 27,["_law_cell_here","_law_k","_law_figure"],["_law_cell_here","_law_k"],[],[],xE,dX,.n,[]⟩,
 ⟨"_law_cell",top 28,["_law_script","_law_k","_law_free"],["_law_script","_law_k","_law_free"],[],[9],JH,DT,.n,[]⟩,
 ⟨"_law_pick",top 29,["_law_cell_here","_law_at","_law_number","_law_free","_law_turn"],["_law_cell_here","_law_at"],["range"],[9],DU,iI,.n,[]⟩,
 ⟨"_law_names",top 30,["_law_cell_here","_law_many","_law_letters","_law_base","_law_at","_law_signs"],["_law_cell_here","_law_many"],["range","len"],[9],DV,DW,.n,[]⟩,
 ⟨"_law_degree",top 31,["_law_figure","_law_great_here"],["_law_figure","_law_great_here"],[],[],JI,tH,.n,[]⟩,
 ⟨"_law_pack",top 32,["_law_names_here","_law_cell_here","_law_at","_law_great_here","_law_pairs"],["_law_names_here","_law_cell_here","_law_at","_law_great_here"],["tuple","sorted","range","len"],[13,11],JJ,ux,.n,[]⟩,
 ⟨"_law_meet",top 34,["_law_one","_law_other_here","_law_some","_law_pairs"],["_law_one","_law_other_here"],["tuple","min","dict"],[],JK,xF,.n,[]⟩,
 ⟨"_law_great",top 35,["_law_cell_here","_law_free"],["_law_cell_here","_law_free"],[],[9],JL,DX,.n,[]⟩,
 ⟨"_law_case",top 36,["_law_names_here","_law_cell_here","_law_at","_law_great_here"],["_law_names_here","_law_cell_here","_law_at","_law_great_here"],[],[14],JM,xG,.n,[]⟩,
 ⟨"_law_side",top 37,["_law_case_here","_law_side_here"],["_law_case_here","_law_side_here"],["int"],[],JN,xH,.n,[]⟩,
 ⟨"_law_ruling",top 41,["_law_names_here","_law_cell_here","_law_great_here","_law_case_here","_law_side_here","_law_reason"],["_law_names_here","_law_cell_here","_law_great_here"],[],[11,15,14,18,17],DY,zx,.n,[]⟩,
 ⟨"_law_courts",top 42,["_law_cell_here","_law_names_here","_law_rows","_law_k","_law_heads"],["_law_cell_here","_law_names_here"],["range","len"],[11],JO,zy,.n,[]⟩,
 hr "_law_told_enter" (top 43) ["_law_house","_law_day","_law_court","_law_word","_law_new","_law_found","e"] 5 3,
 hr "_law_founded" (top 44) ["_law_house","_law_row","_law_bare","_law_kind","e","_law_odd"] 3 3,
 hr "_law_unknown" (top 45) ["_law_house","_law_court","_law_word","_law_kind"] 3 3,
 hr "_law_alike" (top 46) ["_law_house","_law_other_here","_law_rows","_law_words","_law_row","_law_word"] 4 2,
 ⟨"_law_deed",top 47,Kk,Kk.take 7,FREE,[11,19],Sb 9,bC [] [iI,zx] 12 (Sb 9),.n,[]⟩]
abbrev Lr:aO:=⟨"law",top 48,TY,["_law_script"],FREE,[8,12,16,20,10],Sb 13,bC [] Φl 13 (Sb 13),.n,[]⟩
abbrev TZ (c:Str):List (Str×Bool):=(["NoSide","NoReason","NoCourt","Late","NotAllowed","NoRuling"]:List Str).map λx=>(x,x==c)
abbrev Xt:List XR:=[⟨"NoCourt",TZ "NoCourt","BookError"⟩,⟨"NoCourt",[],"NoCourt"⟩,⟨"Late",[],"BookError"⟩,⟨"NoRuling",[],"BookError"⟩,⟨"NoSide",[],"BookError"⟩,⟨"NoReason",[],"BookError"⟩]
abbrev hm (nm:Str)(st:Stmt)(N:List Str)(k n:Nat):aO:=⟨nm,st,N,N.take k,FREE,[],Sb n,λ_=>.no,.n,[]⟩
abbrev cm (i:Nat):Stmt:=zM i (top 21)
abbrev hh (i:Nat):Stmt:=zM i (top 24)
abbrev Ms:List aO:=[
 hm "stands" (cm 1) ["self","court"] 2 1,
 hm "found" (cm 2) ["self","court","above"] 3 3,
 hm "line" (cm 4) ["self","court","found"] 2 4,
 hm "__init__" (cm 0) ["self","pairs","court","above"] 2 2,
 hm "pairs_told" (cm 3) ["self"] 1 1,
 hm "__init__" (hh 0) ["self","courts"] 2 4,
 hm "founded" (hh 1) ["self","court","above"] 3 1,
 hm "enter" (hh 2) ["self","day","court","word","case","side","reason","made","number","k"] 7 9,
 hm "standing" (hh 4) ["self","court","word","day","line"] 4 2,
 hm "fate" (hh 7) ["self","number"] 2 2,
 hm "book" (hh 8) ["self","court","word"] 3 1,
 hm "about" (hh 9) ["self","word","day"] 3 1,
 hm "rulings_at" (hh 10) ["self","numbers"] 2 1,
 hm "felled" (hh 11) ["self","court","word","made"] 4 1,
 hm "is_felled" (hh 12) ["self","number","court","made","entry"] 4 2,
 hm "check_court" (hh 13) ["self","court"] 2 1,
 hm "check_deed" (hh 14) ["self","day","court"] 3 2,
 hm "check_allowed" (hh 15) ["self","court","word","made","numbers","found"] 4 3,
 hm "check_number" (hh 16) ["self","number","whole"] 2 2,
 hm "__init__" (zM 0 (top 7)) ["self","by"] 2 1]
abbrev CrC:kU:=⟨"Courts",["aboves"],[("stands",cm 1),("found",cm 2),("line",cm 4),("__init__",cm 0),("pairs_told",cm 3)]⟩
abbrev CrH:kU:=⟨"House",["courts","entries","fates","last_day"],[("__init__",hh 0),("enter",hh 2),("fate",hh 7),("book",hh 8),("about",hh 9),("rulings_at",hh 10),("felled",hh 11),("is_felled",hh 12),("check_court",hh 13),("check_deed",hh 14),("check_allowed",hh 15),("check_number",hh 16)]⟩
abbrev MdH:List (Str×Stmt):=[("founded",hh 1),("standing",hh 4)]
abbrev xN:mZ:=⟨"NotAllowed","by","NotAllowed",[],zM 0 (top 7)⟩
theorem jC:ub (Rz++[Lr]) Xt FREE 0 (Rz++[Lr])=true:=by decide+kernel
theorem T2:pF (Rz++[Lr]) (Rz++[Lr]):=⟨rfl,rfl,rfl,rfl,rfl,rfl,rfl,rfl,rfl,rfl,rfl,rfl,rfl,rfl,rfl,rfl,rfl,rfl,rfl,rfl,rfl,rfl,rfl,rfl,rfl,rfl,rfl,trivial⟩
theorem fU:ub Ms Xt FREE 0 Ms=true:=by decide+kernel
def dY:eP where
 G r:=∃p,GR p/\r=mr p
 sd f _:=f.length==1
 ag r s:=match gI [r,s]with
  |.ok (_,.bool b)=>b
  |_=>false
 s0 _:=rfl
 dy:=uh
 d0:=rfl
 sh:=λr ⟨p,_,e⟩=>e▸Th p
theorem Kl (a:GR p)(c:GR q):dY.ag (mr p) (mr q)=lK p q:=by show(match gI [mr p,mr q]with|.ok (_,.bool b)=>b|_=>false)=_;rw[tJ a c]
theorem T3 {K:W.Frag}:StS dY K (spD K 2 pQ):=⟨_,rfl,λf d hd hf=>by cases d<;>first|(cases hd;done)|exact⟨_,S6 hf.2.1⟩⟩
theorem T5 {K:W.Frag}:AgS dY K (spD K 2 gI):=⟨_,rfl,λr s ⟨p,a,c⟩ ⟨q,b,d⟩=>by subst c d;exact⟨_,by rw[Kl a b];exact tJ a b⟩⟩
theorem Km:∀{rs:List D},(∀r∈rs,dY.G r)->∃ps:List (Bool×P×P×P),(∀p∈ps,GR p)/\rs=ps.map mr
 | [],_=>⟨[],nofun,rfl⟩
 |r::rs,h=>by obtain⟨p,a,rfl⟩:=h r (.head _);obtain⟨ps,b,rfl⟩:=Km λr hr=>h r (.tail _ hr);exact⟨p::ps,λx c=>(ax.mp c).elim (λe=>e▸a) (b x),rfl⟩
theorem T6 {ps:List (Bool×P×P×P)}(a:∀p∈ps,GR p)(b:GR q):((ps.map mr).findIdx? λr=>dY.ag r (mr q))=ps.findIdx? λp=>lK p q:=by
 induction ps with
 |nil=>rfl
 |cons p ps c=>rw[bn,jo,jo,Kl (a p (.head _)) b,c λx d=>a x (.tail _ d)]
theorem Kn {K:W.Frag}:BrS dY K (spD K 2 pP):=⟨_,rfl,λrs s a hr ⟨q,b,e⟩=>by subst e;obtain⟨ps,c,rfl⟩:=Km hr;rw[T6 c b];refine⟨.fr,(D7 c b (by rw[am]at a;exact a)).trans ?_⟩;cases ps.findIdx? λp=>lK p q<;>rfl⟩
theorem T7 {K:W.Frag}:RuS dY K (spD K 3 pO):=⟨_,rfl,λa b c ⟨p,d,e⟩=>by cases e;exact⟨_,S5 d⟩⟩
theorem Ew:zmf dY:=λp a=>⟨p,a,rfl⟩
inductive cT {α β:Type}(R:α->β->Prop):List α->List β->Prop where
 |nil:cT R [] []
 |cons {a:α} {b:β} {l:List α} {m:List β} (h:R a b) (t:cT R l m):cT R (a::l) (b::m)
theorem cT.at {c d:Type}{R:c->d->Prop}{l:List c}{m:List d}(h:cT R l m):∀{j:Nat} {a:c},l[j]?=some a->∃b,m[j]?=some b/\R a b:=by
 induction h with
 |nil=>intro j a e;cases e
 |cons h t f=>
  intro j a e;cases j with
  |zero=>cases e;exact⟨_,rfl,h⟩
  |succ j=>exact f e
section
variable (P:cj)(w:World)(K:W.Frag)(mg:Str->Option Value)(base:Heap)
abbrev FX (k:Nat)(f:Addr)(fd:dt)(ps:List Str)(sp:Sp):Prop:=FnOk P w K mg base (CXE P w base) k f fd ps sp
def Fc (r:Nat)(x:Str×Nat)(sp:Sp):Prop:=∃f fd ps k,k<=r/\FX P w K mg base k f fd ps sp/\mg x.1=some (.ref f)/\W.keepIn K (.ref f)=true/\Binds K fd ps []
def Mt (r:Nat)(m:Str×Nat)(y:Addr×Str×Sp):Prop:=m.1=y.2.1/\∃f fd ps k,k<=r/\FX P w K mg base k f fd ps y.2.2/\Cls K y.1/\Meth K y.1 m.1 f/\Binds K fd ps []
def Md (r:Nat)(m:Str×Nat)(y:Addr×Str×Sp):Prop:=m.1=y.2.1/\∃f fd ps k,k<=r/\FX P w K mg base k f fd ps y.2.2/\Cls K y.1/\Meth K y.1 m.1 f/\Binds K fd ps [.none]
def Mq (r:Nat)(m:Str×Str)(y:Addr×Str×Sp):Prop:=m.1=y.2.1/\∃f fd ps k,k<=r/\FX P w K mg base k f fd ps y.2.2/\Cls K y.1/\Meth K y.1 m.1 f/\KBinds K fd ps [m.2] kwG kwG
def Mc (r:Nat)(x:Str×Nat)(y:Addr×Sp):Prop:=∃f fd ps k,k+1<=r/\FX P w K mg base k f fd ps y.2/\L2.Mk K y.1 f/\mg x.1=some (.ref y.1)/\Binds K fd ps []
variable {P w K mg base}
theorem Fc.up (h:Fc P w K mg base r x a)(l:r<=b):Fc P w K mg base b x a:=by obtain⟨f,fd,ps,k,c,d⟩:=h;exact⟨f,fd,ps,k,bq c l,d⟩
theorem Mt.up {r a:Nat}{x:Str×Nat}{y:Addr×Str×Sp}(h:Mt P w K mg base r x y)(l:r<=a):Mt P w K mg base a x y:=by obtain⟨e,f,fd,ps,k,b,c⟩:=h;exact⟨e,f,fd,ps,k,bq b l,c⟩
theorem Md.up (h:Md P w K mg base r x y)(l:r<=a):Md P w K mg base a x y:=by obtain⟨e,f,fd,ps,k,b,c⟩:=h;exact⟨e,f,fd,ps,k,bq b l,c⟩
theorem Mc.up (h:Mc P w K mg base r x y)(l:r<=a):Mc P w K mg base a x y:=by obtain⟨f,fd,ps,k,b,c⟩:=h;exact⟨f,fd,ps,k,bq b l,c⟩
theorem Kq (a:Z.K=K)(t:Z.mg=mg)(f:cT (Fc P w K mg base r) p.fn Z.fn)(m:cT (Mt P w K mg base r) p.me Z.me)(c:cT (Mc P w K mg base r) p.cl Z.cl)(u:p.gi=[])(hh:p.hf=[])(d:cT (Md P w K mg base r) p.md Z.md)(q:cT (Mq P w K mg base r) p.mq Z.mq):Zok p Z (CXE P w base) P w K mg base r where
 kk:=a
 mm:=t
 fn:=λj x n e=>by obtain⟨b,a,f,fd,ps,k,g,h,i,l,o⟩:=f.at e;exact⟨b,f,fd,ps,k,a,g,h,i,l,o⟩
 me:=λj x n e=>by obtain⟨⟨C,s,b⟩,a,rfl,f,fd,ps,k,g,h,i,l,o⟩:=m.at e;exact⟨C,b,f,fd,ps,k,a,g,h,i,l,o⟩
 cl:=λj x n e=>by obtain⟨⟨C,b⟩,a,f,fd,ps,k,g,h,i,l,o⟩:=c.at e;exact⟨C,b,f,fd,ps,k,a,g,h,i,l,o⟩
 gi:=λj x e=>by rw[u]at e;cases e
 hf:=λj x n e=>by rw[hh]at e;cases e
 md:=λj x n e=>by obtain⟨⟨C,s,b⟩,a,rfl,f,fd,ps,k,g,h,i,l,o⟩:=d.at e;exact⟨C,b,f,fd,ps,k,a,g,h,i,l,o⟩
 mq:=λj x n e=>by obtain⟨⟨C,s,b⟩,a,rfl,f,fd,ps,k,g,h,i,l,o⟩:=q.at e;exact⟨C,b,f,fd,ps,k,a,g,h,i,l,o⟩
end
theorem Kr {P:List Value->Prop}(h:∀a b c d e f g,P [a,b,c,d,e,f,g])(i:List Value)(z:i.length=7):P i:=by obtain⟨a,l,rfl,y⟩:=iW z;exact Qv (P:=λl=>P (a::l)) (h a) l y
abbrev HN:List (Str×Str):=(Xt.map λr=>(r.c,r.B))++[(("NotAllowed":Str),("NotAllowed":Str))]
abbrev gM (st:Stmt)(N:List Str)(fns:List (Str×Nat)):Gm:={N:=N,sc:=z08 st,free:=FREE,fns:=fns,cst:=[],sub:=(Xt.map XR.subs).flatten,rs:=Xt.map (·.c),fC:=HN}
abbrev Ks:List (Str×Str):=[("NotAllowed","by")]
abbrev gH (r:aO)(fn me cl:List (Str×Nat))(md:List (Str×Nat):=[])(mq:List (Str×Str):=[])(fns:List (Str×Nat):=[])(fld:List (Str×Str):=[]):Gw:={g:=gM r.st r.N fns,fn:=fn,me:=me,cl:=cl,md:=md,mq:=mq,fld:=fld}
abbrev zH (K:W.Frag)(mg:Str->Option Value)(fn:List Sp)(me:List (Addr×Str×Sp))(cl:List (Addr×Sp))(md:List (Addr×Str×Sp):=[])(mq:List (Addr×Str×Sp):=[])(Φ:List Fn:=[]):Wc:={K:=K,mg:=mg,Κ:=[],Φ:=Φ,E:=λ_ _ _=>False,fn:=fn,me:=me,cl:=cl,md:=md,mq:=mq}
abbrev mq (i:Nat):aO:=Ms.getD i Lr
abbrev rz (i:Nat):aO:=Rz.getD i Lr
def T8 (f:Str):WS:=.seq (.y7 (.raw 0) f (.raw 1)) .nil
theorem eD {i:Nat}(h:ub a Xt FREE 0 a=true)(e:a[i]?=some r):FnScope r.N r.ps (z08 r.st):=(wj (CF h e)).1
section
variable {P:cj}{w:World}{K:W.Frag}{mg:Str->Option Value}{base:Heap}{CC HC:Addr}
structure Tx (K:W.Frag)(mg:Str->Option Value)(CC HC:Addr):Prop where
 T:∀n∈FREE,mg n=none
 G:∀(x:Str) (v:Value),W.nsIn K bo x=some (some v)->mg x=some v
 xk:∀Γ:Gm,Γ.sub=(Xt.map XR.subs).flatten->Γ.rs=Xt.map (·.c)->(Γ.fC=Xt.map λr=>(r.c,r.B))->qS Γ K mg
 XN:∃A D f fd,XAt K xN A D f fd
 CA:ClsAt K CrC CC
 HA:ClsAt K CrH HC
 HD:∀m∈MdH,∃T f fd,FunD K m.1 ("House"++"."++m.1) m.2 T f fd/\Meth K HC m.1 f
theorem Ex (t:Tx K mg CC HC){st:Stmt}:qS (gM st N fns) K mg:=by
 have b:=t.xk {gM st N fns with fC:=Xt.map λr=>(r.c,r.B)} rfl rfl rfl;refine⟨b.sub,b.rs,λc B h=>?_⟩;rcases cz.mp (cf.mp h)with h|h
 ·exact b.fC c B (cf.mpr h)
 ·cases bu.mp h;obtain⟨A,D,f,fd,a⟩:=t.XN;exact⟨A,D,t.G _ _ a.ns,t.G _ _ a.nb,a.xf.ex,a.ed,a.sd⟩
def Fd (P:cj)(w:World)(K:W.Frag)(mg:Str->Option Value)(base:Heap)(k:Nat)(x:Str×Nat)(m:Fn):Prop:=∃ps k',k'<=k/\Cal P w K mg base k' x.1 ps (spD K x.2 m)/\mM P w K mg base k' x.1 ps x.2 m
theorem tN (h:mQ P w K mg base i r)(a:r.kd=.n)(b:i+1<=k):Fd P w K mg base k (r.nm,r.ps.length) r.F:=by unfold mQ at h;rw[a]at h;exact⟨r.ps,i+1,b,h.1,h.2⟩
theorem xW (t:Tx K mg CC HC){st:Stmt}{N:List Str}{k:Nat}{fns:List (Str×Nat)}{Φ:List Fn}(h:cT (Fd P w K mg base k) fns Φ):Dok (gM st N fns) [] Φ P w K mg base k where
 free:=λx i=>t.T x (cf.mp i)
 fns:=λj f n e=>by obtain⟨m,a,ps,b,c,d,g⟩:=h.at (show fns[j]?=some (f,n)from e);exact⟨m,b,ps,a,c,d⟩
 cst:=λj x e=>by cases e
 nX:=λj f n e=>by obtain⟨m,a,ps,b,c,d,g⟩:=h.at (show fns[j]?=some (f,n)from e);exact⟨m,b,ps,a,c,g⟩
 xk:=Ex t
theorem T9 (t:Tx K mg CC HC):∀Γ X r,2<=r->Γ.fld=Ks->X.prog=P->X.w=w->X.K=K->X.mg=mg->X.base=base->Wfk Γ X r:=by
 intro Γ X r hr hf d e g hm h;subst d e g hm h;intro c fl b;rw[hf]at b;cases bu.mp (cf.mp b);obtain⟨A,D,f,fd,a⟩:=t.XN;refine⟨A,f,fd,["self","by"],1,t.G _ _ a.ns,a.xf,a.xi,hr,?_,a.fu.binds λ_ _ _ _ _ _=>dW λ_ _=>rfl⟩;refine Ds (Γ:=gH (mq 19) [] [] []) (Z:=zH X.K X.mg [] [] []) (s:=T8 "by") a.fu (eD fU (i:=19) rfl) rfl rfl (xW t .nil) (λE=>Kq rfl rfl .nil .nil .nil rfl rfl .nil .nil) rfl (.inl rfl) (by decide+kernel) (by rintro _ _ _ _ ⟨_,_,_,_,_,rfl,_⟩;rfl) ?_
 rintro _ _ _ _ ⟨x,C,ob,j,y,rfl,k,b,hd,da,xf,q⟩
 exact⟨y,rfl,.ref x,rfl,x,C,ob,j,rfl,k,b,hd,da,xf,λdp l m=>q dp l m⟩
theorem wm0 {mq:List (Str×Str)}(t:Tx K mg CC HC)(i:∃(j oc:Value) (od:Option Addr) (kV d l:Value) (an:Option Addr) (a ct:Value) (e:Array (Option Value)),fd=W.fnOf x b (z0j r.st) (z0d r.st) (z08 r.st) j kV d l an a ct/\K.lookup f=some ⟨oc,od,.func fd,e⟩/\W.codeIn K a b=true)(m:FnScope r.N r.ps (z08 r.st))
  (n:cT (Fd P w K mg base k) fns Φ) (a1:cT (Fc P w K mg base k) fn o) (a2:cT (Mt P w K mg base k) me p) (a3:cT (Mc P w K mg base k) cl q) (a4:cT (Md P w K mg base k) md u) (v:cT (Mq P w K mg base k) mq y) (kf:fld=[]\/fld=Ks/\2<=k)
  (z:wkL (gH r fn me cl md mq fns fld) s (z0d r.st)=true) (run:∀c H Q E (zG:Prop),(c.length=r.ps.length→wS {zH K mg o p q u y Φ with E:=E} s {nx:=λ_ A=>Q .aK A,rt:=Q} (start r.N c) H→zG)→g c H Q E→zG):FX P w K mg base (k+1) f fd r.ps g:=
 zrh i m rfl rfl (xW t n) (λE=>Kq rfl rfl a1 a2 a3 rfl rfl a4 v) rfl (kf.imp_right λh X B C D F G=>T9 t _ X k h.2 h.1 B C D F G) z (λvs H Q E=>run vs H Q E _ λa _=>a) λvs H Q E=>run vs H Q E _ λ_ b=>b
theorem Kt (t:Tx K mg CC HC):Mt P w K mg base 1 ("stands",1) (CC,"stands",z31 K CC)/\Mt P w K mg base 2 ("found",2) (CC,"found",z6t K CC mg)/\Mt P w K mg base 2 ("line",1) (CC,"line",z2l K CC mg)/\Mt P w K mg base 1 ("pairs_told",0) (CC,"pairs_told",spPt K CC)/\Mc P w K mg base 4 ("Courts",1) (CC,z9g K CC mg):=by
 have ck:CrtK K CC:=⟨t.CA.cls,t.CA.na _ (.head _)⟩;obtain⟨A,k,b,M1⟩:=t.CA.ms ("stands",cm 1) (.head _);obtain⟨C,l,e,D⟩:=t.CA.ms ("found",cm 2) (.tail _ (.head _));obtain⟨E,m,f,F⟩:=t.CA.ms ("line",cm 4) (.tail _ (.tail _ (.head _)));obtain⟨H,n,g,y⟩:=t.CA.ms ("__init__",cm 0) (.tail _ (.tail _ (.tail _ (.head _))));obtain⟨I,o,h,J⟩:=t.CA.ms ("pairs_told",cm 3) (.tail _ (.tail _ (.tail _ (.tail _ (.head _)))));have j:Mt P w K mg base 1 ("stands",1) (CC,"stands",z31 K CC):=⟨rfl,A,k,["self","court"],1,ae _,wm0 (r:=mq 0) (s:=Ct.mX) t ⟨_,b.ex⟩ (eD fU (i:=0) rfl) .nil .nil .nil .nil .nil .nil (.inl rfl) (by decide+kernel) (by rintro _ _ _ _ _ zq ⟨x,dx,d,kvs,es,v,c,B,rfl,ct,p,q⟩;exact zq rfl (zas ck ct p q)),t.CA.cls,M1,b.binds λ_ _ _ _ _ _=>dW λ_ _=>rfl⟩;have z:Mt P w K mg base 2 ("found",2) (CC,"found",z6t K CC mg):=⟨rfl,C,l,["self","court","above"],2,ae _,wm0 (r:=mq 1) (s:=Ct.found) t ⟨_,e.ex⟩ (eD fU (i:=1) rfl) .nil .nil (.cons j .nil) .nil .nil .nil (.inl rfl) (by decide+kernel) (by rintro _ _ _ _ _ zq ⟨x,dx,d,kvs,es,Y,Z,c,a,B,rfl,ct,L,M,u,q⟩;exact zq rfl (zfc ck rfl ct L M u q)),t.CA.cls,D,e.binds λ_ _ _ _ _ _=>mR λ_ _ _=>rfl⟩;have N:Mt P w K mg base 2 ("line",1) (CC,"line",z2l K CC mg):=⟨rfl,E,m,["self","court"],2,ae _,wm0 (r:=mq 2) (s:=Ct.line) t ⟨_,f.ex⟩ (eD fU (i:=2) rfl) .nil .nil (.cons j .nil) .nil .nil .nil (.inl rfl) (by decide+kernel) (by rintro _ _ _ _ _ zq ⟨x,dx,d,kvs,es,v,c,B,rfl,ct,p,q⟩;exact zq rfl (zi6 ck rfl ct p q)),t.CA.cls,F,f.binds λ_ _ _ _ _ _=>dW λ_ _=>rfl⟩;have O:Mt P w K mg base 1 ("pairs_told",0) (CC,"pairs_told",spPt K CC):=⟨rfl,I,o,["self"],1,ae _,wm0 (r:=mq 4) (s:=Ct.pairs) t ⟨_,h.ex⟩ (eD fU (i:=4) rfl) .nil .nil .nil .nil .nil .nil (.inl rfl) (by decide+kernel) (by rintro _ _ _ _ _ zq ⟨x,dx,d,kvs,es,rfl,ct,q⟩;exact zq rfl (R9 ck ct q)),t.CA.cls,J,h.binds λ_ _ _ _ _ _=>CJ λ_=>rfl⟩;refine⟨j,z,N,O,H,n,["self","pairs"],3,ae _,wm0 (r:=mq 3) (s:=Ct.init) t ⟨_,g.ex⟩ (eD fU (i:=3) rfl) .nil .nil (.cons (j.up (by decide)) (.cons z .nil)) .nil .nil .nil (.inl rfl) (by decide+kernel) ?_,⟨t.CA.IU,y.at_,y.fn,t.CA.kp⟩,t.G _ _ t.CA.ns,g.binds λ_ _ _ _ _ _=>dW λ_ _=>rfl⟩
 rintro _ _ _ _ _ zq ⟨x,dx,vp,ps,B,rfl,Q,R,S,T,u,q⟩
 refine zq rfl ?_;refine zhx ck rfl Q R S T u ?_;unfold sX at *
 split at q
 ·exact λU d kvs V W X _=>q U d kvs V W X
 ·exact q
end
theorem T' {P:cj}{w:World}{K:W.Frag}{mg:Str->Option Value}{base:Heap}{CX:CXT}{k:Nat}{f:Addr}{fd:dt}{ps:List Str}{n:Nat}{m:Fn}(F:FnOk P w K mg base lU k f fd ps (spD K n m)):FnOk P w K mg base CX k f fd ps (spD K n m):=
 ⟨F.len,λA outer s H args us vs Q E hr he hb hv hs=>ij (F.run A outer s H args us vs Q E hr he hb hv hs) λr s' z=>by
  cases r with
  |error e=>exact(show False from z).elim
  |ok x=>cases x<;>exact z⟩
section
variable {P:cj}{w:World}{K:W.Frag}{mg:Str->Option Value}{base:Heap}{CC HC:Addr}
theorem zN (h:mQ P w K mg base i r)(a:r.kd=.n)(c:i<21):Fc P w K mg base 21 (r.nm,n) (spD K r.ps.length r.F):=by unfold mQ at h;rw[a]at h;obtain⟨⟨f,fd,F,m,k,b⟩,_⟩:=h;exact⟨f,fd,r.ps,i+1,c,T' F,m,k,b⟩
variable (P w K mg base CC HC)in
structure Ua:Prop where
 st:Md P w K mg base 23 ("standing",2) (HC,"standing",spSt dY K HC CC mg)
 bk:Mt P w K mg base 24 ("book",2) (HC,"book",spBk dY K HC CC mg)
 ft:Mt P w K mg base 2 ("fate",1) (HC,"fate",spFt dY K HC CC mg)
 en:Mt P w K mg base 25 ("enter",6) (HC,"enter",spEn dY K HC CC mg)
 fd:Md P w K mg base 3 ("founded",1) (HC,"founded",spFd K HC CC mg)
 fq:Mq P w K mg base 3 ("founded","above") (HC,"founded",spFd K HC CC mg)
 Ub:Mc P w K mg base 6 ("House",1) (HC,spHi K HC CC)
theorem Uc (t:Tx K mg CC HC)(dd:∀i r,i<21->(Rz++[Lr])[i]?=some r->mQ P w K mg base i r):Ua P w K mg base CC HC:=by
 obtain⟨c1,c2,c3,c4,c5⟩:=Kt (P:=P) (w:=w) (base:=base) t;have l:HouK K HC:=⟨t.HA.cls,t.HA.na _ (.head _),t.HA.na _ (.tail _ (.head _)),t.HA.na _ (.tail _ (.tail _ (.head _))),t.HA.na _ (.tail _ (.tail _ (.tail _ (.head _))))⟩;have dS:Fc P w K mg base 21 ("stood",2) (spD K 2 pQ):=zN (dd 7 _ (by decide) rfl) rfl (by decide);have dA:Fc P w K mg base 21 ("against",2) (spD K 2 gI):=zN (dd 5 _ (by decide) rfl) rfl (by decide);have dB:Fc P w K mg base 21 ("barred",2) (spD K 2 pP):=zN (dd 6 _ (by decide) rfl) rfl (by decide);have dR:Fc P w K mg base 21 ("ruling",3) (spD K 3 pO):=zN (dd 4 _ (by decide) rfl) rfl (by decide);obtain⟨f0,Ud,N,M0⟩:=t.HA.ms ("__init__",hh 0) (.head _);obtain⟨f2,y9,O,M2⟩:=t.HA.ms ("enter",hh 2) (.tail _ (.head _));obtain⟨f7,Ue,Q,M7⟩:=t.HA.ms ("fate",hh 7) (.tail _ (.tail _ (.head _)));obtain⟨f8,Ug,R,M8⟩:=t.HA.ms ("book",hh 8) (.tail _ (.tail _ (.tail _ (.head _))));obtain⟨f9,Uh,S,M9⟩:=t.HA.ms ("about",hh 9) (.tail _ (.tail _ (.tail _ (.tail _ (.head _)))));obtain⟨Ui,T,u,Uj⟩:=t.HA.ms ("rulings_at",hh 10) (.tail _ (.tail _ (.tail _ (.tail _ (.tail _ (.head _))))));obtain⟨Uk,U,v,Ul⟩:=t.HA.ms ("felled",hh 11) (.tail _ (.tail _ (.tail _ (.tail _ (.tail _ (.tail _ (.head _)))))));obtain⟨Um,V,z,Uo⟩:=t.HA.ms ("is_felled",hh 12) (.tail _ (.tail _ (.tail _ (.tail _ (.tail _ (.tail _ (.tail _ (.head _))))))));obtain⟨Up,X,C,Uq⟩:=t.HA.ms ("check_court",hh 13) (.tail _ (.tail _ (.tail _ (.tail _ (.tail _ (.tail _ (.tail _ (.tail _ (.head _)))))))));obtain⟨Ur,Y,D,Us⟩:=t.HA.ms ("check_deed",hh 14) (.tail _ (.tail _ (.tail _ (.tail _ (.tail _ (.tail _ (.tail _ (.tail _ (.tail _ (.head _))))))))));obtain⟨Ut,Z,E,Uu⟩:=t.HA.ms ("check_allowed",hh 15) (.tail _ (.tail _ (.tail _ (.tail _ (.tail _ (.tail _ (.tail _ (.tail _ (.tail _ (.tail _ (.head _)))))))))));obtain⟨Uv,Ey,F,Uw⟩:=t.HA.ms ("check_number",hh 16) (.tail _ (.tail _ (.tail _ (.tail _ (.tail _ (.tail _ (.tail _ (.tail _ (.tail _ (.tail _ (.tail _ (.head _))))))))))));obtain⟨T1,f1,L,M,M1⟩:=t.HD ("founded",hh 1) (.head _);obtain⟨T4,f4,Ez,zO,M4⟩:=t.HD ("standing",hh 4) (.tail _ (.head _));have F9:Mt P w K mg base 22 ("about",2) (HC,"about",spAb dY K HC CC):=⟨rfl,f9,Uh,["self","word","day"],22,ae _,wm0 (r:=mq 11) (s:=Hs.about) t ⟨_,S.ex⟩ (eD fU (i:=11) rfl) .nil (.cons dS .nil) .nil .nil .nil .nil (.inl rfl) (by decide+kernel) (by rintro _ _ _ _ _ zq ⟨x,A,h,vw,w,vd,dy,B,rfl,f,ok,g,rd,hd,q⟩;exact zq rfl (zf1 l rfl T3 f ok g rd hd q)),t.HA.cls,M9,S.binds λ_ _ _ _ _ _=>mR λ_ _ _=>rfl⟩;have Ku:Mt P w K mg base 1 ("rulings_at",1) (HC,"rulings_at",spRa dY K HC CC):=⟨rfl,Ui,T,["self","numbers"],1,ae _,wm0 (r:=mq 12) (s:=Hs.fS) t ⟨_,u.ex⟩ (eD fU (i:=12) rfl) .nil .nil .nil .nil .nil .nil (.inl rfl) (by decide+kernel) (by rintro _ _ _ _ _ zq ⟨x,A,h,vn,ks,B,rfl,f,ok,rn,Ux,q⟩;exact zq rfl (z5w l f ok rn Ux q)),t.HA.cls,Uj,u.binds λ_ _ _ _ _ _=>dW λ_ _=>rfl⟩;have F4:Md P w K mg base 23 ("standing",2) (HC,"standing",spSt dY K HC CC mg):=⟨rfl,f4,Ez,["self","court","word","day"],23,ae _,wm0 (r:=mq 8) (s:=Hs.hT) t ⟨_,zO.ex⟩ (eD fU (i:=8) rfl) .nil .nil (.cons (c3.up (by decide)) (.cons F9 .nil)) .nil .nil .nil (.inl rfl) (by decide+kernel) (by rintro _ _ _ _ _ zq ⟨x,A,h,H,c,vw,w,vd,dy,B,rfl,f,ok,j,g,rd,hd,q⟩;exact zq rfl (z84 l rfl rfl f ok j g rd hd q)),t.HA.cls,M4,zO.binds λkV o pm an p ct m hl=>mR (P:=λm=>∃k,kb (W.fnOf "standing" ("House"++"."++"standing") (z0j (hh 4)) (z0d (hh 4)) (z08 (hh 4)) (.ref T4) kV o pm an p ct) ⟨m,[]⟩=oh (.ref T4)>>=k/\k (some #[.none])=(pure ((["self","court","word","day"]:List Str).zip (m++[.none])):Sem (List (Str×Value)))) (λ_ _ _=>⟨_,rfl,rfl⟩) m (Nat.succ.inj hl)⟩;have F8:Mt P w K mg base 24 ("book",2) (HC,"book",spBk dY K HC CC mg):=⟨rfl,f8,Ug,["self","court","word"],24,ae _,wm0 (r:=mq 10) (s:=Hs.book) t ⟨_,R.ex⟩ (eD fU (i:=10) rfl) .nil .nil (.cons (Ku.up (by decide)) .nil) .nil (.cons F4 .nil) .nil (.inl rfl) (by decide+kernel) (by rintro _ _ _ _ _ zq ⟨x,A,h,H,c,vw,w,B,rfl,f,ok,j,g,q⟩;exact zq rfl (zi2 l rfl rfl f ok j g q)),t.HA.cls,M8,R.binds λ_ _ _ _ _ _=>mR λ_ _ _=>rfl⟩;have Uy:Mt P w K mg base 22 ("is_felled",3) (HC,"is_felled",spIf dY K HC CC):=⟨rfl,Um,V,["self","number","court","made"],22,ae _,wm0 (r:=mq 14) (s:=Hs.hU) t ⟨_,z.ex⟩ (eD fU (i:=14) rfl) .nil (.cons dA .nil) (.cons (c3.up (by decide)) .nil) .nil .nil .nil (.inl rfl) (by decide+kernel) (by rintro _ _ _ _ _ zq ⟨x,A,h,k,H,s,vm,r,B,rfl,f,ok,Uz,j,rm,I,q⟩;exact zq rfl (z89 l rfl rfl T5 f ok Uz j rm I q)),t.HA.cls,Uo,z.binds λ_ _ _ _ _ _=>by4 λ_ _ _ _=>rfl⟩;have UA:Mt P w K mg base 23 ("felled",3) (HC,"felled",spFe dY K HC CC):=⟨rfl,Uk,U,["self","court","word","made"],23,ae _,wm0 (r:=mq 13) (s:=Hs.nG) t ⟨_,v.ex⟩ (eD fU (i:=13) rfl) .nil .nil (.cons F9 (.cons Uy .nil)) .nil .nil .nil (.inl rfl) (by decide+kernel) (by rintro _ _ _ _ _ zq ⟨x,A,h,H,s,vw,w,vm,r,B,rfl,f,ok,j,g,rm,I,q⟩;exact zq rfl (zb8 l rfl rfl f ok j g rm I q)),t.HA.cls,Ul,v.binds λ_ _ _ _ _ _=>by4 λ_ _ _ _=>rfl⟩;have UB:Mt P w K mg base 3 ("check_court",1) (HC,"check_court",spCc K HC CC mg):=⟨rfl,Up,X,["self","court"],3,ae _,wm0 (r:=mq 15) (s:=Hs.eY) t ⟨_,C.ex⟩ (eD fU (i:=15) rfl) .nil .nil (.cons c3 .nil) .nil .nil .nil (.inl rfl) (by decide+kernel) (by rintro _ _ _ _ _ zq ⟨x,A,h,H,c,B,rfl,f,j,q⟩;exact zq rfl (z55 l rfl f j q)),t.HA.cls,Uq,C.binds λ_ _ _ _ _ _=>dW λ_ _=>rfl⟩;have UC:Mt P w K mg base 4 ("check_deed",2) (HC,"check_deed",spCd K HC CC mg):=⟨rfl,Ur,Y,["self","day","court"],4,ae _,wm0 (r:=mq 16) (s:=Hs.fT) t ⟨_,D.ex⟩ (eD fU (i:=16) rfl) .nil .nil (.cons UB .nil) .nil .nil .nil (.inl rfl) (by decide+kernel) (by rintro _ _ _ _ _ zq ⟨x,A,h,H,c,n,B,rfl,f,j,q⟩;exact zq rfl (z6e l rfl f j q)),t.HA.cls,Us,D.binds λ_ _ _ _ _ _=>mR λ_ _ _=>rfl⟩
 have UD:Mt P w K mg base 24 ("check_allowed",3) (HC,"check_allowed",spCa dY K HC CC mg):=⟨rfl,Ut,Z,["self","court","word","made"],24,ae _,wm0 (r:=mq 17) (s:=Hs.dI) t ⟨_,E.ex⟩ (eD fU (i:=17) rfl) .nil (.cons (dB.up (by decide)) .nil) (.cons (Ku.up (by decide)) .nil) .nil (.cons F4 .nil) .nil (.inr ⟨rfl,by decide⟩) (by decide+kernel)
  (by
   rintro _ _ _ _ _ zq ⟨x,A,h,H,s,vw,w,vm,r,B,rfl,f,ok,j,g,rm,I,hc,q⟩
   refine zq rfl ?_;cases J:bar dY h s w r with
   |none=>rw[J]at q;exact z28 l rfl rfl rfl Kn f ok j g rm I hc (by rw[J];exact λ_=>q)
   |some k=>rw[J]at q;exact z28 l rfl rfl rfl Kn f ok j g rm I hc (by rw[J];exact q)),t.HA.cls,Uu,E.binds λ_ _ _ _ _ _=>by4 λ_ _ _ _=>rfl⟩
 have UE:Mt P w K mg base 1 ("check_number",1) (HC,"check_number",xh K HC CC mg):=⟨rfl,Uv,Ey,["self","number"],1,ae _,wm0 (r:=mq 18) (s:=Hs.eC) t ⟨_,F.ex⟩ (eD fU (i:=18) rfl) .nil .nil .nil .nil .nil .nil (.inl rfl) (by decide+kernel)
  (by
   rintro _ _ _ _ _ zq ⟨x,A,h,n,rfl,f,J,q⟩
   refine zq rfl ?_;refine R' l f J ?_;by_cases e:pM h n=true
   ·rw[qt e]at q ⊢;exact λ_=>q
   ·rw[qu e]at q ⊢;exact q),t.HA.cls,Uw,F.binds λ_ _ _ _ _ _=>dW λ_ _=>rfl⟩
 have F7:Mt P w K mg base 2 ("fate",1) (HC,"fate",spFt dY K HC CC mg):=⟨rfl,f7,Ue,["self","number"],2,ae _,wm0 (r:=mq 9) (s:=Hs.xg) t ⟨_,Q.ex⟩ (eD fU (i:=9) rfl) .nil .nil (.cons UE .nil) .nil .nil .nil (.inl rfl) (by decide+kernel) (by rintro _ _ _ _ _ zq ⟨x,A,h,n,rfl,f,ok,q⟩;exact zq rfl (Sa l rfl f ok q)),t.HA.cls,M7,Q.binds λ_ _ _ _ _ _=>dW λ_ _=>rfl⟩;have F2:Mt P w K mg base 25 ("enter",6) (HC,"enter",spEn dY K HC CC mg):=⟨rfl,f2,y9,["self","day","court","word","case","side","reason"],25,ae _,wm0 (r:=mq 7) (s:=Hs.enter) t ⟨_,O.ex⟩ (eD fU (i:=7) rfl) .nil (.cons (dR.up (by decide)) .nil) (.cons (UC.up (by decide)) (.cons UD (.cons (UA.up (by decide)) .nil))) .nil .nil .nil (.inl rfl) (by decide+kernel) (by rintro _ _ _ _ _ zq ⟨x,A,h,n,H,c,vw,w,v4,v5,v6,a,b,r,B,rfl,f,ok,J,j,g,r4,r5,r6,im,I,q⟩;exact zq rfl (zco l rfl rfl rfl rfl T7 f ok J j g r4 r5 r6 im I q)),t.HA.cls,M2,O.binds λ_ _ _ _ _ _=>Kr λ_ _ _ _ _ _ _=>rfl⟩
 have F1:FX P w K mg base 3 f1 L ["self","court","above"] (spFd K HC CC mg):=wm0 (r:=mq 6) (s:=Hs.jP) t ⟨_,M.ex⟩ (eD fU (i:=6) rfl) .nil .nil (.cons c2 .nil) .nil .nil .nil (.inl rfl) (by decide+kernel)
  (by
   rintro _ _ _ _ _ zq ⟨x,A,h,H,va,c,a,B,rfl,f,j,ra,hz,q⟩
   refine zq rfl ?_;refine z8w l rfl f j ra hz ?_;by_cases e:okF h.es c a=true
   ·rw[qt e]at q ⊢;exact λ_=>q
   ·rw[qu e]at q ⊢;exact q)
 refine⟨F4,F8,F7,F2,⟨rfl,f1,L,_,3,ae _,F1,t.HA.cls,M1,M.binds λkV o pm an p ct m hl=>dW (P:=λm=>∃k,kb (W.fnOf "founded" ("House"++"."++"founded") (z0j (hh 1)) (z0d (hh 1)) (z08 (hh 1)) (.ref T1) kV o pm an p ct) ⟨m,[]⟩=oh (.ref T1)>>=k/\k (some #[.none])=(pure ((["self","court","above"]:List Str).zip (m++[.none])):Sem (List (Str×Value)))) (λ_ _=>⟨_,rfl,rfl⟩) m (Nat.succ.inj hl)⟩,⟨rfl,f1,L,_,3,ae _,F1,t.HA.cls,M1,M.kbinds (by simp) λkV o pm an p ct m w hl=>dW (P:=λm=>∃k,kb (W.fnOf "founded" ("House"++"."++"founded") (z0j (hh 1)) (z0d (hh 1)) (z08 (hh 1)) (.ref T1) kV o pm an p ct) ⟨m,[("above",w)]⟩=oh (.ref T1)>>=k/\k (some #[.none])=(pure ((["self","court","above"]:List Str).zip (m++[w])):Sem (List (Str×Value)))) (λ_ _=>⟨_,rfl,rfl⟩) m (Nat.succ.inj hl)⟩,f0,Ud,["self","courts"],5,ae _,?_,⟨t.HA.IU,M0.at_,M0.fn,t.HA.kp⟩,t.G _ _ t.HA.ns,N.binds λ_ _ _ _ _ _=>dW λ_ _=>rfl⟩;refine wm0 (r:=mq 5) (s:=Hs.init) t ⟨_,N.ex⟩ (eD fU (i:=5) rfl) .nil .nil (.cons (c4.up (by decide)) .nil) (.cons c5 .nil) .nil .nil (.inl rfl) (by decide+kernel) ?_
 rintro _ _ _ _ _ zq ⟨x,dx,y,dy,d,kvs,es,rfl,hx,ct,af,hz,q⟩
 refine zq rfl ?_;exact zbu l rfl rfl hx ct af hz λ_=>q
end
theorem UG {P:cj}{w:World}{K:W.Frag}{mg:Str->Option Value}{base:Heap}{k:Nat}{f:Addr}{fd:dt}{ps:List Str}{sp Kv:Sp}(F:FnOk P w K mg base (CXE P w base) k f fd ps sp)(h:∀vs H Q E,Kv vs H Q E->sp vs H Q λ_ _ _=>False):FnOk P w K mg base lU k f fd ps Kv:=
 ⟨λvs H Q E q=>F.len vs H Q _ (h _ _ _ _ q),λA outer s H args us vs Q E hr he hb hv hs=>ij (F.run A outer s H args us vs Q _ hr he hb hv (h _ _ _ _ hs)) λr s' z=>by
  cases r with
  |error e=>obtain⟨_,_,_,_,_,_,z⟩:=z;exact z.elim
  |ok x=>cases x<;>exact z⟩
def xX:Fn:=λds=>match ds with
 | [.list xs]=>if(xs.all λx=>match x with|.int _=>true|_=>false)&&decide (xs.length<=63)then .ok (.fr,.bool true)else .no
 |_=>.no
theorem UH {a:List Int}(b:a.length<=63):xX [.list (a.map .int)]=.ok (.fr,.bool true):=by show(if((a.map PyData.int).all _&&decide ((a.map PyData.int).length<=63))=true then Res.ok (G.fr,PyData.bool true)else Res.no)=_;rw[qt];rw[am,qy b,Bool.and_true,List.all_map,b6];intro x _;rfl
theorem jS:∀{a:List D},(a.all λx=>match x with|.int _=>true|_=>false)=true->∃b:List Int,a=b.map .int
 | [],_=>⟨[],rfl⟩
 |y::a,h=>by
  rw[ci,ar]at h;obtain⟨b,e⟩:=jS h.2;cases y with
  |int i=>exact⟨i::b,by rw[e];rfl⟩
  |_=>cases h.1
section
variable {P:cj}{w:World}{K:W.Frag}{mg:Str->Option Value}{base:Heap}{CC HC:Addr}
theorem EA (t:Tx K mg CC HC)(dd:∀i r,i<21->(Rz++[Lr])[i]?=some r->mQ P w K mg base i r)(O:∀i r,i<26->(Rz++[Lr])[i]?=some r->Own K mg r.nm r.st r.ps){f:Addr}{fd:dt}(Fl:Fun K "law" "law" (top 48) f fd):FnOk P w K mg base lU 28 f fd ["_law_script"] (spD K 1 xX):=by
 obtain⟨c1,c2,c3,c4,c5⟩:=Kt (P:=P) (w:=w) (base:=base) t;have hm:=Uc (P:=P) (w:=w) (base:=base) t dd;obtain⟨f1,UI,UJ,m1,k1,b1⟩:=O 21 _ (by decide) rfl;obtain⟨f2,y9,UK,m2,k2,b2⟩:=O 22 _ (by decide) rfl;obtain⟨f3,UL,UM,m3,k3,b3⟩:=O 23 _ (by decide) rfl;obtain⟨f4,Ez,zO,m4,k4,b4⟩:=O 24 _ (by decide) rfl;obtain⟨f5,UN,UO,m5,k5,b5⟩:=O 25 _ (by decide) rfl;have A1:Fc P w K mg base 26 ("_law_told_enter",5) (spTe dY K HC CC):=⟨f1,UI,_,26,ae _,wm0 (r:=rz 21) (s:=Hl.te) t ⟨_,UJ.ex⟩ (eD jC (i:=21) rfl) .nil .nil (.cons hm.en .nil) .nil .nil .nil (.inr ⟨rfl,by decide⟩) (by decide+kernel) (by rintro _ _ _ _ _ zq ⟨x,A,h,n,vc,s,vw,w,vm,a,b,r,B,rfl,th,ok,hb,rc,pN,rm,im,hg,hc,uu,q⟩;exact zq rfl (zpc rfl th ok hb rc pN rm im hg hc uu q)),m1,k1,b1⟩;have A2:Fc P w K mg base 4 ("_law_founded",3) (spFo K HC CC):=⟨f2,y9,_,4,ae _,wm0 (r:=rz 22) (s:=Hl.fo) t ⟨_,UK.ex⟩ (eD jC (i:=22) rfl) .nil .nil .nil .nil (.cons hm.fd .nil) (.cons hm.fq .nil) (.inl rfl) (by decide+kernel) (by rintro _ _ _ _ _ zq ⟨x,A,h,vr,c,a,bare,B,rfl,th,rr,hz,q⟩;exact zq rfl (zqs rfl rfl th rr hz q)),m2,k2,b2⟩;have A3:Fc P w K mg base 24 ("_law_unknown",3) (spUn dY K HC CC):=⟨f3,UL,_,24,ae _,wm0 (r:=rz 23) (s:=Hl.un) t ⟨_,UM.ex⟩ (eD jC (i:=23) rfl) .nil .nil .nil .nil (.cons hm.st .nil) .nil (.inl rfl) (by decide+kernel) (by rintro _ _ _ _ _ zq ⟨x,A,h,vc,c,vw,w,B,rfl,th,ok,rc,pN,hs,q⟩;exact zq rfl (zrt rfl th ok rc pN hs q)),m3,k3,b3⟩;have A4:Fc P w K mg base 25 ("_law_alike",4) (spAl dY K HC CC):=⟨f4,Ez,_,25,ae _,wm0 (r:=rz 24) (s:=Hl.al) t ⟨_,zO.ex⟩ (eD jC (i:=24) rfl) .nil .nil (.cons hm.bk .nil) .nil (.cons (hm.st.up (by decide)) .nil) .nil (.inl rfl) (by decide+kernel) (by rintro _ _ _ _ _ zq ⟨x,A,h,y,A',h',vr,rs,vw,ws,B,rfl,th,ok,UP,UQ,rr,pN,he,hs,q⟩;exact zq rfl (zqb rfl rfl th ok UP UQ rr pN he hs q)),m4,k4,b4⟩;have A5:Fc P w K mg base 27 ("_law_deed",7) (spDe dY K HC CC):=⟨f5,UN,_,27,ae _,wm0 (r:=rz 25) (s:=L6.de) t ⟨_,UO.ex⟩ (eD jC (i:=25) rfl) (.cons (tN (dd 11 _ (by decide) rfl) rfl (by decide)) (.cons (tN (dd 19 _ (by decide) rfl) rfl (by decide)) .nil)) (.cons A1 (.cons (A2.up (by decide)) (.cons (A3.up (by decide)) .nil))) (.cons (hm.ft.up (by decide)) .nil) .nil .nil .nil (.inl rfl) (by decide+kernel) (by rintro _ _ _ _ _ zq ⟨hl,x0,x1,A0,A1,h,rs,ns,m,vr,vn,vc,c,dy,g,B,rfl,fx,tw,hb,rr,rn,rc,hB,uu,q⟩;exact zq rfl (zql Ew rfl rfl rfl rfl rfl rfl fx tw hb rr rn rc hB uu q)),m5,k5,b5⟩
 let sp:Sp:=λvs H Q _=>∃(v0:V) (xs:List Int) (B:Ad->Prop),vs=[v0]/\Rep K H B v0 (.list (xs.map PyData.int))/\xs.length<=63/\∀H',Same H H'->Q (.bl true) H'
 have F8:FX P w K mg base 28 f fd ["_law_script"] sp:=wm0 (r:=Lr) (s:=L6.la) t ⟨_,Fl.ex⟩ (eD jC (i:=26) rfl) (.cons (tN (dd 8 _ (by decide) rfl) rfl (by decide)) (.cons (tN (dd 12 _ (by decide) rfl) rfl (by decide)) (.cons (tN (dd 16 _ (by decide) rfl) rfl (by decide)) (.cons (tN (dd 20 _ (by decide) rfl) rfl (by decide)) (.cons (tN (dd 10 _ (by decide) rfl) rfl (by decide)) .nil))))) (.cons A5 (.cons (A4.up (by decide)) (.cons (A3.up (by decide)) .nil))) (.cons (c3.up (by decide)) .nil) (.cons (c5.up (by decide)) (.cons (hm.Ub.up (by decide)) .nil)) .nil .nil (.inl rfl) (by decide+kernel) (by rintro _ _ _ _ _ zq ⟨v0,xs,B,rfl,r0,hl,q⟩;exact zq rfl (zq7 (φ:=dY) rfl rfl rfl rfl rfl rfl rfl rfl hl r0 q));refine UG F8 λvs H Q E ⟨A,ds,x,h1,h2,h3,q⟩=>?_;unfold xX at h3;split at h3
 ·rename_i ys;split at h3
  ·rename_i hc;rw[ar,decide_eq_true_eq]at hc;cases h3;obtain⟨xs,rfl⟩:=jS hc.1;obtain⟨v,t,rfl,r0,hr⟩:=h2;have:t=[]:=hr;subst this;exact⟨v,xs,A,rfl,r0,by rw[am]at hc;exact hc.2,λH' s=>q (.bl true) H' s rfl⟩
  ·cases h3
 ·cases h3
end
section
variable {w:World}{K:W.Frag}{mg:Str->Option Value}{CC HC:Addr}
theorem all46 {l:W.OpenLaw}(X:K.In h)(G:h.Ns bo mg)(j:mg "law"=some (.ref fa))(C:kOks K Rz)(E:∃f fd,Kf K Lr f fd)(F:∀n∈FREE,W.nsIn K bo n=some none)(k:kxs K Xt)(XN:∃A D f fd,XAt K xN A D f fd)(CA:ClsAt K CrC CC)(HA:ClsAt K CrH HC)(HD:∀m∈MdH,∃T f fd,FunD K m.1 ("House"++"."++m.1) m.2 T f fd/\Meth K HC m.1 f):
  ∃fd,(∀s v,oa s fd ⟨[v],[]⟩ [("_law_script",v)])/\∀base,K.In base->base.Ns bo mg->FnOk l.prog w K mg base lU 28 fa fd ["_law_script"] (spD K 1 xX):=by
 obtain⟨f,fd,a,oc,od,an,sl,kV,dc,u,cd,ct,rfl,o,p,q⟩:=E;have e:=j.symm.trans (W.mg_of X G a);cases e;have T:=λn hn=>W.mg_none_of X G (F n hn);refine⟨W.fnOf "law" "law" (z0j (top 48)) (z0d (top 48)) (z08 (top 48)) .none kV dc u an cd ct,λs v=>.of_eq rfl,λbase _ _=>?_⟩;have O:∀i r,i<26->(Rz++[Lr])[i]?=some r->Own K mg r.nm r.st r.ps:=λi r g e=>by rw[dn g]at e;obtain⟨⟨f,fd,a,oc,od,an,sl,kV,dc,u,cd,ct,rfl,o,p,q⟩,H⟩:=Hw C e;exact zos X G a o p q H
 have xk:∀b,b.sub=(Xt.map XR.subs).flatten->b.rs=Xt.map (·.c)->(b.fC=Xt.map λr=>(r.c,r.B))->qS b K mg:=λb I J L=>Qs X G k (λ_=>T "ValueError" (by decide)) I J L;have d:((Rz++[Lr]).all λr=>r.kc.isEmpty)=true:=rfl;have t:∀r∈Rz++[Lr],∀y∈r.kc,CG K mg y:=λr hr y z=>by have:=b6.mp d r hr;rw[ml.mp this]at z;cases z
 exact EA ⟨T,λx v e=>W.mg_of X G e,xk,XN,CA,HA,HD⟩ (λi r g e=>Qu jC T2 T xk 21 t (λi r g e=>O i r (by omega) e) i r g e) O (Ax o p q)
end
def tO:DefRec:=⟨"law",z0j (top 48),z0d (top 48),z08 (top 48),⟨278,0,300,168⟩⟩
theorem zP:KEq pU (Rz++[Lr]) FREE Xt:=by
 rw[PySem.W.Fast.tkeq_eq];intro P
 kernel_rfl
theorem UR:Tp.said PySem.Challenge.rw_likebook_k46_courts_founded=true:=by
 rw[PySem.W.Fast.tsaid_eq]
 kernel_rfl
theorem US:W.opening lO=W.plainProg lO.main.scope.names:=by kernel_rfl
theorem UT:∀s,fenceModules? lO s=some s:=λs=>by kernel_rfl
theorem UU:W.defOf uD PySem.Challenge.rw_likebook_k46_courts_founded.row.name=some (tO,[]):=by kernel_rfl
theorem UW:lO.theDef PySem.Challenge.rw_likebook_k46_courts_founded.row.name=some (tO.params,tO.body,tO.scope):=by kernel_rfl
theorem UX:W.kwWritten? tO.params.kwonlyargs tO.params.kw_defaults=some []:=by kernel_rfl
theorem UY:(!PySem.Challenge.rw_likebook_k46_courts_founded.row.writes||PySem.Challenge.rw_likebook_k46_courts_founded.row.records.isEmpty)=true:=by kernel_rfl
theorem UZ:(W.chainsOk uD&&W.opensWell lO&&(W.frees PySem.Challenge.rw_likebook_k46_courts_founded.row.toRowW&&PySem.Challenge.rw_likebook_k46_courts_founded.row.within.isEmpty))=true:=by kernel_rfl
theorem walk {l:W.OpenLaw}{K:d9->W.Frag}(hn:l.most=some 63)(b:d.params.defaults=[])
  (c:∀w h,e w h->(K w.params).In h)
  (F:∀w mg fa h,(K w.params).In h->h.Ns bo mg->mg d.name=some (.ref fa)->∃fd,(∀s u,oa s fd ⟨[u],[]⟩ [("_law_script",u)])/\∀base,(K w.params).In base->base.Ns bo mg->FnOk l.prog w (K w.params) mg base lU 28 fa fd ["_law_script"] (spD (K w.params) 1 xX)):
  W.WalkO q loose k e l.row.toRowW d [] (λf g=>PySem.call f g):=
 L2.walk_of hn dc b ⟨rfl,by decide,by decide⟩ c F (λ_ _ a ns i _ j=>⟨_,_,_,rfl,Qr j,UH i,λv m _ r=>r⟩) λ_ _ _ _ _ z=>z
theorem U0:KCq pU CrC:=by
 rw[PySem.W.Fast.tkcq_eq];intro P
 kernel_rfl
theorem U1:KCq pU CrH:=by
 rw[PySem.W.Fast.tkcq_eq];intro P
 kernel_rfl
theorem U2:KDq pU "House" MdH:=by
 rw[PySem.W.Fast.tkdq_eq];intro P
 kernel_rfl
theorem U3:KXq pU [xN] []:=by
 rw[PySem.W.Fast.tkxq_eq];intro P
 kernel_rfl
theorem EB:sQ Rz:=⟨λ_ _ _ _ _ _=>dW λ_ _=>rfl,λ_ _ _ _ _ _=>dW λ_ _=>rfl,λ_ _ _ _ _ _=>CJ λ_=>rfl,λ_ _ _ _ _ _=>dW λ_ _=>rfl,λ_ _ _ _ _ _=>mR λ_ _ _=>rfl,λ_ _ _ _ _ _=>dW λ_ _=>rfl,λ_ _ _ _ _ _=>dW λ_ _=>rfl,λ_ _ _ _ _ _=>dW λ_ _=>rfl,λ_ _ _ _ _ _=>dW λ_ _=>rfl,λ_ _ _ _ _ _=>dW λ_ _=>rfl,λ_ _ _ _ _ _=>mR λ_ _ _=>rfl,λ_ _ _ _ _ _=>dW λ_ _=>rfl,λ_ _ _ _ _ _=>dW λ_ _=>rfl,λ_ _ _ _ _ _=>dW λ_ _=>rfl,λ_ _ _ _ _ _=>by4 λ_ _ _ _=>rfl,λ_ _ _ _ _ _=>dW λ_ _=>rfl,λ_ _ _ _ _ _=>dW λ_ _=>rfl,λ_ _ _ _ _ _=>by4 λ_ _ _ _=>rfl,λ_ _ _ _ _ _=>dW λ_ _=>rfl,λ_ _ _ _ _ _=>mR λ_ _ _=>rfl,λ_ _ _ _ _ _=>dW λ_ _=>rfl,λ_ _ _ _ _ _=>Hv λ_ _ _ _ _=>rfl,λ_ _ _ _ _ _=>mR λ_ _ _=>rfl,λ_ _ _ _ _ _=>mR λ_ _ _=>rfl,λ_ _ _ _ _ _=>by4 λ_ _ _ _=>rfl,λ_ _ _ _ _ _=>Kr λ_ _ _ _ _ _ _=>rfl,trivial⟩
end Mk
open PySem PySem.W PyProof.Rows Mi
set_option maxRecDepth 100000 in
set_option maxHeartbeats 0 in
theorem PySem.Challenge.cw_likebook_k46_courts_founded_holds : PySem.Challenge.rw_likebook_k46_courts_founded.Holds := by
 refine Tp.holds (l:=PySem.Challenge.rw_likebook_k46_courts_founded) (q:=Mk.uD) (d:=Mk.tO) (K:=Mk.pU) (M:=100000) (N:=200000) Mk.UR (Tp.uC _ _ Mk.xY) Mk.US rfl Mk.UT (by decide) Mk.Ky Mk.Kz Mk.UU Mk.UW Mk.UX Mk.UY Mk.UZ ⟨rfl,rfl,rfl,rfl,rfl,by decide+kernel⟩ (by w_witness2) ?_;refine Mk.walk (l:=PySem.Challenge.rw_likebook_k46_courts_founded) rfl rfl (λw h Y=>Y) ?_;intro w mg fa h KX G U4;obtain⟨CC,CA⟩:=IV Mk.U0 w.params;obtain⟨HC,HA⟩:=IV Mk.U1 w.params;exact Mk.all46 (CC:=CC) (HC:=HC) KX G U4 (HE (λr hr=>(yO Mk.zP w.params).1 r (dk _ hr)) Mk.EB) ((yO Mk.zP w.params).1 Mk.Lr (br _ (.head _))) (yO Mk.zP w.params).2.1 (yO Mk.zP w.params).2.2.1 ((RQ Mk.U3 w.params).1 _ (.head _)) CA HA (RT Mk.U2 w.params HA.ns)
