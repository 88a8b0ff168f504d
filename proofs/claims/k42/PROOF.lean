import PyProof.Rows.All
import Wide.All
import OpenK.AllK
import PySem.Challenge.RW_likebook_k42_rulings_entered
open Lean.Parser.Command in
local macro_rules|`(def $a:declId $b:optDeclSig $c:declVal)=>`(noncomputable def $a:declId $b:optDeclSig $c:declVal)
noncomputable section
open Array renaming getD_eq_getD_getElem?→ej,getElem?_eq_some_iff→gh,length_toList→jb,toArray_toList→kl,getElem?_eq_getElem→ls,Perm→m8,append_assoc→pf,find?_toList→pj
open Bool renaming and_eq_true_iff→au,and_eq_true→bt,false_ne_true→dq,or_eq_true_iff→dz,eq_iff_iff→jk,beq_eq_decide_eq→j7,or_eq_true→ku,or_true→m9,eq_false_iff→p8,not_eq_true'→qa
open Int renaming emod_nonneg→gq,toNat_natCast→i3,emod_lt_of_pos→jq,le_refl→qr
open List renaming getD_eq_getElem?_getD→aa,getElem?_eq_getElem→ae,length_map→am,mem_of_getElem?→aq,getElem?_map→ar,length_append→av,getElem?_eq_some_iff→aw,replicate→ax,mem_cons→az,mem_cons_of_mem→ba,length_cons→bd,mem_singleton→bf,mem_cons_self→bh,map_cons→bj,mem_append_right→bo,range→bu,getElem?_set_ne→bv,length_replicate→bw,all_eq_true→bx,size_toArray→bz,mem_append→b6,getElem?_append_right→b9,mem_iff_getElem?→cb,getElem?_set_self→ce,mem_map→cf,contains_iff_mem→cg,length_set→cn,getElem?_replicate→cr,lookup_cons→cu,map_append→cv,all_cons→cx,getElem?_append_left→cy,map_inj_left→c7,length_range→db,getElem?_set→dg,length_filter_le→dh,mem_filter→dj,append_nil→dm,nodup_cons→dr,filterMap_cons→du,length_take→dw,length_singleton→d5,mem_range→d6,pairwise_cons→d9,mem_append_left→ee,not_mem_nil→eh,getElem_mem→ei,getElem?_range→et,filter_eq_self→eu,find?_cons→ey,getElem?_eq_none→fg,getElem?_cons_succ→fv,map_map→ge,take_length→gg,drop_eq_getElem_cons→gm,ext_getElem?→gw,nodup_append→gx,any_cons→gz,length_eq_zero_iff→g9,mem_filterMap→ij,toArray→ip,filter_eq_nil_iff→iu,append_assoc→i0,getElem?_take_of_lt→jg,contains_cons→jn,findIdx?_cons→jo,filter_append→jp,lookup→jr,filter_cons_of_pos→jx,filter_cons_of_neg→jy,find?_cons_of_pos→j0,pairwise_map→j3,take_succ→j5,isEmpty_iff→kb,length→ki,getElem?_append→km,take_append_of_le_length→kq,mem_zipIdx_iff_getElem?→kx,find?_eq_none→lj,filter_filter→lm,take_sublist→lw,find?_append→l0,Pairwise→l7,filterMap_cons_none→ma,filterMap_cons_some→mf,length_drop→ml,mem_flatten→mn,drop_length→mo,pairwise_singleton→mv,find?_cons_of_neg→m5,take_of_length_le→m6,of_mem_zip→nh,length_nil→nk,foldl_cons→nn,take_append_drop→nv,countP_mono_left→ny,mem_of_mem_take→ol,replicate_succ→ou,map_congr_left→ox,getElem_of_mem→oy,flatten_cons→qc,set_set→qg,all_map→qh,find?_isSome→qi,map→qj,filter_congr→qk
open Nat renaming le_refl→ah,le_trans→bq,lt_of_lt_of_le→b8,ne_of_lt→cc,lt_irrefl→cq,zero_le→cz,lt_of_le_of_lt→fi,le_of_lt→gr,sub_self→gy,lt_succ_self→g7,le_succ→kg,lt_trans→k7,add_sub_cancel'→ot,add_le_add_left→o0
open Option renaming map_eq_some_iff→bn,isNone_iff_eq_none→ez,bind_eq_some_iff→ig,isSome_map→iz
open Prod renaming fst→mw,snd→rh
open PyProof.Rows renaming seqObj→jd,AllBare→kz,subscriptTail_builtinR→mz,envOfC→oa,Constant_none→o4,IntsAre→qt,Subscript_→qw
open PySem renaming wpAny_bind→ac,PyData→ao,sizeLine→ay,wpAny_pure→bb,Shared→bc,mainGlobals→bp,wpAny_loadPart_at→b7,sizeLine_eq→ci,Program→cj,compareOp→cw,starEach→c8,bootBuiltins→c9,FuncData→dn,behindInMarks→dt,assignEach→d7,Params→d8,wpAny_mono→ek,NameKind→eo,wpAny_holding→fj,wpAny_truthy_bool→fk,PassesOwn→fm,foldedSetIterable→fq,binaryOp→fy,Around→fz,wpAny_field→gf,wpAny_passesOwn→gn,wpAny_newObj_type→gv,wpAny_isSubtype_exc→g0,wpAny_getItem_str_slice→g8,wpAny_Call_Name_kw→ik,tupleKind_room_in1→il,wpAny_standAt→iw,noteFrame→iy,sysModules→i4,backTo→i5,codeAny_call_builtin→i7,swapsWith→i8,codeAny→i9,codeAny_mono→ja,attributeBase→jf,letOwnedTupleGo→jh,importedModules→jl,Paired→jm,wpAny_callSpecial?_slot→jt,sliceBounds→ju,setFlight→jv,treeTable→jw,wpAny_setField→j4,plainObj_wpAny_Assign_Attribute→j6,wpAny_call_entry→j8,checkBuiltinCall→j9,OsState→ke,keywordEach→kh,unbindBehindTheSuite→ko,wpAny_execs_nil→kr,rawInt→kt,post_val_or_str→kw,wpAny_typeOf→k8,wpAny_pyIter_tuple→lh,wpAny_pyIter_list→lu,Keyword→lv,excClassObj→lx,wpAny_comprehension_free→l9,tupleKind→mh,noFill_tuple_add→mj,getItem→mx,concat_meets→my,wpAny_rule→m7,isInstance→nc,codeAny_builtin→nq,wpAny_isTrue_Compare1→nr,wpAny_loadName_local→nz,bindArgs→n0,backToKw→n4,subscripted→og,sliceRange_one→oh,wpAny_seqItems→om,handleBy→on,BindsTo→oo,OwnTail→oq,wpAny_raiseNew_none→oz,swapsWithSole→pa,swappedStores→pb,seq_tuple_add→pc,plainId_quiet→pe,wpAny_Name→ph,assign→pi,wpAny_call→pp,IsPart→pu,wpAny_assign_Name→pv,valueAt→py,call_meetsIn→pz,seqIndex_neg→p4,slot_list_getitem→p5,callerA→p7,Operator→qb,getAttr?→qd,wpAny_pyIter_enum→qe,GenState→qf,isTrue→ql,pyIter→qm,typeOf→qo,seqIndex_of→qp,builtinKind→qq,leaving→qs,builtinsNs→qu,typeLookup→qv,typeIs_str→qx,PlainAttrs→qy,call_meets→q8,intItems→q9,excMatches→rg,getAttr→ri
open PySem.Builtin.Dict renaming updateFrom→mu
open PySem.Builtin.Slice renaming slicePlaces→gk,sliceAdjust→lq
open PySem.Builtin.SmallTypes renaming nextOf→lr
open PySem.Builtin.Str renaming strSliceIndices→gc,occurrences→g6
open PySem.Calls renaming Name_function_global→i6,evalArgs_plain→kj,loadGlobal_global→mi,callWith_builtin→m4
open PySem.Heap renaming get?_push_of_some→ak,lt_size→bg,get?_push_size→br,get?_update_other→er,SameBut→gb,get?_update_self→gj,get?_none_of_le→gu,get?_update_ne→jc,size_push→lb,MadeExcOf→li,get?_push_at→ly,NewExcOf→pd
open PySem.Heap.Ns1 renaming of_empty→pw
set_option Elab.async false
set_option genInjectivity false
set_option genSizeOf false
set_option linter.all false
set_option maxRecDepth 100000
theorem dc {p:Prop} [Decidable p] (h:decide p=true:=by rfl):p:=by simpa using h
theorem rj {c:Prop}{d:Decidable c}(h:c){α:Sort _}{a b:α}:@ite α c d a b=a:=if_pos h
theorem rq {c:Prop}{d:Decidable c}(h:¬c){α:Sort _}{a b:α}:@ite α c d a b=b:=if_neg h
theorem se {α}{a b:α}(h:some a=some b):a=b:=Option.some.inj h
theorem sf {α β}{a c:α}{b d:β}(h:(a,b)=(c,d)):a=c∧b=d:=Prod.mk.inj h
theorem sg {p:Prop} [Decidable p] (h:decide p=true):p:=of_decide_eq_true h
theorem si {p:Prop} [Decidable p] (h:p):decide p=true:=decide_eq_true h
theorem sj {α} [BEq α] [LawfulBEq α] {a b:α}(h:(a==b)=true):a=b:=beq_iff_eq.mp h
abbrev Wl (x:PySem.Str):Prop:=(x==("__debug__":PySem.Str))=false
namespace Tp
open PySem PySem.W PyProof.Rows
def q0:Pos:=⟨0,0,0,0⟩
def an:Option Value:=some (.ref 6)
def ev (p:cj):Env:={scope:=p.main.scope,locals:=mainNs,globals:=mainNs,cells:=[],code:=.ref 13,frame:=some 14}
def cd (p:cj):Code:=.body (behindTheImports p) (ev p)
def grow:List Obj->Nat->BT->BT
 | [],_,t=>t
 |o::l,i,t=>grow l (i+1) (t.ins i o)
def lift (s:bc):SharedT:=⟨grow s.heap.objs.toList 0 .nil,s.heap.objs.size,s.heap.life,s.gens,s.drawn,s.toks,s.os⟩
def pre (p:cj)(H:d8->Heap)(d:Drawn)(k:Nat)(w:World)(os:ke):Option (bc×Thread):=topGo jw p w 11 an 12 ⟨H w.params,#[],d,k,os⟩ (topStub p)
def oG (p:cj)(H:d8->Heap)(d:Drawn)(k:Nat)(w:World)(os:ke):SharedT:=lift (((pre p H d k w os).map mw).getD ⟨H w.params,#[],d,k,os⟩)
def run (p:cj)(H:d8->Heap)(d:Drawn)(k N:Nat)(w:World)(os:ke):Option (Flow×SharedT×Code×Pos):=segRunT jw p w 11 an 1 N (oG p H d k w os) (piecesOf (behindTheImports p) (ev p) (cd p) q0 [topFrame q0])
def PreEq (p:cj)(H:d8->Heap)(d:Drawn)(k:Nat):Prop:=∀(w:World) (os:ke),((H w.params).isNs bp&&(#[]:Array qf).size==0,(H w.params).objs.size,(H w.params).nsMap bp "__annotations__",pre p H d k w os,λs c=>segRun jw p w 11 an 1 1 s (blockOf (behindTheImports p) (ev p) c q0 [topFrame q0]))=(true,11,an,some ((oG p H d k w os).abs,⟨denote jw (cd p),cd p,q0,[topFrame q0]⟩),λs c=>some (.next,s,c,q0))
def seen (p q:cj)(R:WRecords)(as:List Addr)(H:d8->Heap)(w:World)(s:SharedT):=(staticsOk (jl p.main.body) (H w.params) s.abs.heap&&namesBound p s.abs.heap&&gensDone s.abs&&laidKept (H w.params) s.abs.heap,openSeen q [] (jl p.main.body) (λs=>xlAt q [] s&&recOk R s) true s.abs,as.map s.abs.heap.get?)
def pick {α:Type}(f:SharedT->α):Flow×SharedT×Code×Pos->Option (Code×α)
 |(.next,s,c,_)=>some (c,f s)
 |_=>none
def jE (p q:cj)(R:WRecords)(as:List Addr)(K:d8->List (Addr×Obj))(H:d8->Heap)(d:Drawn)(k N:Nat):Prop:=∀(w:World) (os:ke),(run p H d k N w os).bind (pick (seen p q R as H w))=some (cd p,true,openGood q [],(K w.params).map λx=>some x.2)
theorem An (b:String->Option Builtin)(p:cj)(w:World)(n:Nat)(a:Option Value)(s:bc)(c:Code)(ps q:Pos):topRun b p w n a 2 s ⟨doneF .next,c,ps,[topFrame q]⟩=some s:=by rfl
theorem left {K:d8->List (Addr×Obj)}(o:∀w,(fencedOpening jw p w N).map (fun s=>(s.heap,s.gens,s.drawn,s.toks))=some (boot_heap w.params,#[],boot_drawn,boot_toks))(le:12+(1+(M+2))<=N)
  (A:PreEq p boot_heap boot_drawn boot_toks) (B:jE p q R C K boot_heap boot_drawn boot_toks M):LeftO p q [] (λs=>xlAt q [] s&&recOk R s) (λs=>C.map s.heap.get?) (λw=>(K w.params).map λx=>some x.2) N:=λw=>by
 obtain⟨⟨h,gs,d,k,os⟩,e,D⟩:=bn.mp (o w);have g:=sf D;have i:=sf g.2;have j:=sf i.2;obtain rfl:h=boot_heap w.params:=g.1;obtain rfl:gs=#[]:=i.1;obtain rfl:d=boot_drawn:=j.1;obtain rfl:k=boot_toks:=j.2;have a:=sf (A w os);have l:=sf a.2;have m:=sf l.2;have n:=sf m.2;obtain⟨⟨f,s,c,ps⟩,E,r⟩:=ig.mp (B w os);cases f with
 |next=>
  have b:=sf (se r);have u:=sf b.2;have v:=sf u.2;obtain rfl:c=cd p:=b.1;have y:topRun jw p w 11 an (M+2) (oG p boot_heap boot_drawn boot_toks w os).abs (restOf (behindTheImports p++[]) (ev p) (cd p) q0 [topFrame q0])=some s.abs:=piece_app (segRun_of E) (An jw p w 11 an s.abs (cd p) ps q0);rw[dm]at y;have F:=piece_block (congrFun (congrFun n.2 (oG p boot_heap boot_drawn boot_toks w os).abs) (cd p)) y;have G:=go_top n.1 F;have z:=topRun_mono (N-(12+(1+(M+2)))) _ _ _ _ G;rw[ot le]at z;have t:topFrom jw p w N ⟨boot_heap w.params,#[],boot_drawn,boot_toks,os⟩=some s.abs:=by unfold topFrom;rw[a.1,l.1,m.1,z];show(match staticsOk (jl p.main.body) (boot_heap w.params) s.abs.heap&&namesBound p s.abs.heap&&gensDone s.abs&&laidKept (boot_heap w.params) s.abs.heap with|true=>some s.abs|false=>none)=_;rw[u.1]
  unfold openEnds;rw[e];show(topFrom jw p w N _).map _=_;rw[t];exact congrArg some (Prod.ext v.1 v.2)
 |_=>cases r
theorem pre_r:PreEq=PreEq:=rfl
def Ao (p q:cj)(R:WRecords)(H:d8->Heap)(w:World)(s:SharedT):=(staticsOk (jl p.main.body) (H w.params) s.abs.heap&&namesBound p s.abs.heap&&gensDone s.abs&&laidKept (H w.params) s.abs.heap,openSeen q [] (jl p.main.body) (λs=>xlAt q [] s&&recOk R s) true s.abs)
def RunA (p q:cj)(R:WRecords)(H:d8->Heap)(d:Drawn)(k N:Nat):Prop:=∀(w:World) (os:ke),(run p H d k N w os).bind (pick (Ao p q R H w))=some (cd p,true,openGood q [])
def RunB (p:cj)(as:List Addr)(K:d8->List (Addr×Obj))(H:d8->Heap)(d:Drawn)(k N:Nat):Prop:=∀(w:World) (os:ke),(run p H d k N w os).bind (pick λs=>as.map s.abs.heap.get?)=some (cd p,(K w.params).map λx=>some x.2)
theorem Lg {e h:Type}{f:SharedT->e}{g:SharedT->h}{x:Option (Flow×SharedT×Code×Pos)}{a:e}{b:h}(d:x.bind (pick f)=some (c,a))(j:x.bind (pick g)=some (c,b)):x.bind (pick λs=>(f s,g s))=some (c,a,b):=by
 cases x with
 |none=>cases d
 |some y=>
  obtain⟨fl,s,k,ps⟩:=y;cases fl with
  |next=>have i:=sf (se d);have l:=sf (se j);show some (k,f s,g s)=_;rw[i.1,i.2,l.2]
  |_=>cases d
theorem sr {K:d8->List (Addr×Obj)}(f:RunA p q R H d k N)(g:RunB p a K H d k N):jE p q R a K H d k N:=λw os=>by
 have h:=Lg (f w os) (g w os);cases e:run p H d k N w os with
 |none=>rw[e]at h;cases h
 |some y=>
  rw[e]at h;obtain⟨fl,s,i,ps⟩:=y;cases fl with
  |next=>have b:=sf (se h);have c:=sf b.2;show some (i,(Ao p q R H w s).1,(Ao p q R H w s).2,a.map s.abs.heap.get?)=_;rw[b.1,c.2,c.1]
  |_=>cases h
theorem runA_r:RunA=RunA:=rfl
theorem runB_r:RunB=RunB:=rfl
end Tp
lay_quick Tp.PreEq Tp.RunA Tp.RunB
name_quick tpre for Tp.PreEq by Tp.pre_r
name_quick truna for Tp.RunA by Tp.runA_r
name_quick trunb for Tp.RunB by Tp.runB_r
namespace Tp
open PySem PySem.W PyProof.Rows
theorem rn_r:run=run:=rfl
end Tp
name_quick trn for Tp.run by Tp.rn_r
namespace Tp
open PySem PySem.W PyProof.Rows
def obj (p:cj)(M:Nat)(P:d8)(a:Addr):Obj:=((PySem.W.Fast.trn p boot_heap boot_drawn boot_toks M ⟨λ_ _=>0,P⟩ default).map λx=>(x.2.1.tree.get a).getD default).getD default
def Ko (p:cj)(M:Nat)(as:List Addr)(P:d8):Frag:=as.map λa=>(a,obj p M P a)
theorem vh (p:cj)(M:Nat)(a:List Addr)(P:d8):a=(Ko p M a P).map (·.1):=by unfold Ko;rw[ge];exact(List.map_id _).symm
def said (l:OpenLaw):Bool:=l.wellSaid
theorem said_r:said=said:=rfl
theorem holds {K:d8->Frag}(ws:said l=true)(a:∀P,b=(K P).map (·.1))(c:opening l.row.prog=plainProg l.row.prog.main.scope.names)(g:Nat.ble 600 N=true)(h:∀s,fenceModules? l.row.prog s=some s)(le:12+(1+(M+2))<=N)
  (i:PreEq l.row.prog boot_heap boot_drawn boot_toks) (j:jE l.row.prog q l.row.records b K boot_heap boot_drawn boot_toks M) (k:defOf q l.row.name=some (d,[])) (m:l.row.prog.theDef l.row.name=some (d.params,d.body,d.scope)) (n:kwWritten? d.params.kwonlyargs d.params.kw_defaults=some []) (o:(!l.row.writes||l.row.records.isEmpty)=true)
  (p:(chainsOk q&&opensWell l.row.prog&&(frees l.row.toRowW&&l.row.within.isEmpty))=true) (r:l.row.prog.bare) (t:l.row.toRowW.promised) (call:WalkO q [] (XL q []) (InK K) l.row.toRowW d [] λf u=>PySem.call f u):l.Holds:=
 holds_law ws λz=>holds_open (left (boot_open c g h) le i j) (InK.of a) InK.keeps (λs e=>xl_of s (au.mp e).1) XL.keeps k m n (λs e=>recFacts_of (au.mp e).2) o z p r t call
end Tp
lay_quick Tp.said
name_quick tsaid for Tp.said by Tp.said_r
namespace Mk
open PySem PySem.Spec PyProof.Rows
abbrev lM:cj:=PySem.Challenge.rw_likebook_k42_rulings_entered.row.prog
def vi:cj:=W.view lM [0,2,3,4,5,6,7,8,10,11,13,14,16,17,19,21,23,24,26,27,28,29,30,31,32,33,34,35,36,37,38,39,40,41,42,43,44,45,46,47,48,49]
def yA:List Addr:=bu 503
def qL:d8->W.Frag:=Tp.Ko lM 100000 yA
theorem Lh:Tp.PreEq lM W.boot_heap W.boot_drawn W.boot_toks:=by
 intro w os
 kernel_rfl
theorem Ap:Tp.RunA lM vi PySem.Challenge.rw_likebook_k42_rulings_entered.row.records W.boot_heap W.boot_drawn W.boot_toks 100000:=by
 rw[PySem.W.Fast.truna_eq];intro w os
 kernel_rfl
theorem Aq:Tp.RunB lM yA qL W.boot_heap W.boot_drawn W.boot_toks 100000:=by
 rw[PySem.W.Fast.trunb_eq];intro w os
 kernel_rfl
theorem Li:Tp.jE lM vi PySem.Challenge.rw_likebook_k42_rulings_entered.row.records yA qL W.boot_heap W.boot_drawn W.boot_toks 100000:=Tp.sr Ap Aq
end Mk
namespace L2
open PySem PySem.Spec PyProof.Rows
abbrev Key:=Sum Int Str
def uo:Key->Value->Bool
 |.inl k,v=>Value.isInt k v
 |.inr x,v=>Value.isStrOf x v
def Ar (w:World):Key->Int
 |.inl k=>hashInt k
 |.inr x=>hashStr w x
theorem nR:∀{k:Key} {v:Value},uo k v=true->(∃i t,k=Sum.inl i/\v=Value.int i t)\/(∃x t,k=Sum.inr x/\v=Value.str x t)
 |.inl i,v,h=>by obtain⟨t,e⟩:=Value.isInt_shape h;exact .inl ⟨i,t,rfl,e⟩
 |.inr x,v,h=>by obtain⟨t,e⟩:=Value.isStrOf_shape h;exact .inr ⟨x,t,rfl,e⟩
theorem Lj (i:Int)(t:Tok):uo (.inl i) (.int i t)=true:=by simp[uo,Value.isInt]
theorem Lk (x:Str)(t:Tok):uo (.inr x) (.str x t)=true:=by simp[uo,Value.isStrOf]
theorem Ll (a b:Int):decide ((Sum.inl a:Key)=Sum.inl b)=(a==b):=by grind
theorem Lm (a b:Str):decide ((Sum.inr a:Key)=Sum.inr b)=decide (a=b):=by grind
theorem Ln (a:Int)(b:Str):decide ((Sum.inl a:Key)=Sum.inr b)=false:=decide_eq_false (λq=>nomatch q)
theorem Lo (a:Str)(b:Int):decide ((Sum.inr a:Key)=Sum.inl b)=false:=decide_eq_false (λq=>nomatch q)
def gA (prog:cj)(w:World):PySem.KeyKind prog w Key where
 is:=uo
 hash:=Ar w
 inj:=λv a b ha hb=>by
  rcases nR ha with⟨i,t,rfl,rfl⟩|⟨x,t,rfl,rfl⟩
  ·rcases nR hb with⟨j,u,rfl,e⟩|⟨y,u,rfl,e⟩
   ·injection e with e1 _;rw[e1]
   ·exact nomatch e
  ·rcases nR hb with⟨j,u,rfl,e⟩|⟨y,u,rfl,e⟩
   ·exact nomatch e
   ·injection e with e1 _;rw[e1]
 byValue:=λk v h=>by rcases nR h with⟨i,t,rfl,rfl⟩|⟨x,t,rfl,rfl⟩<;>rfl
 pyHash:=λhv h=>by
  rcases nR hv with⟨i,t,rfl,rfl⟩|⟨x,t,rfl,rfl⟩
  ·exact wpAny_pyHash_int h
  ·exact wpAny_pyHash_str h
 eqBool:=λhu hv h=>by
  rcases nR hu with⟨i,t,rfl,rfl⟩|⟨x,t,rfl,rfl⟩
  ·rcases nR hv with⟨j,u,rfl,rfl⟩|⟨y,u,rfl,rfl⟩
   ·rw[Ll]at h;exact wpAny_eqBool_int h
   ·rw[Ln]at h;exact SeqAt.EqAt.int_str i t y u _ _ _ _ h
  ·rcases nR hv with⟨j,u,rfl,rfl⟩|⟨y,u,rfl,rfl⟩
   ·rw[Lo]at h;exact SeqAt.EqAt.str_int x t j u _ _ _ _ h
   ·rw[Lm]at h;exact wpAny_eqBool_str h
 «strs»:=λk x t v h=>by
  rcases nR h with⟨i,u,rfl,e⟩|⟨y,u,rfl,e⟩
  ·exact nomatch e
  ·injection e with e1 _;subst e1;cases v<;>rfl
theorem Lp (prog:cj)(w:World)(i:Int)(t:Tok):(gA prog w).is (.inl i) (.int i t)=true:=Lj i t
theorem Lq (prog:cj)(w:World)(x:Str)(t:Tok):(gA prog w).is (.inr x) (.str x t)=true:=Lk x t
inductive V where
 |aK|bl (b:Bool)|int (i:Int)|str (x:Str)|ref (a:Addr)|ty (n:String)
 deriving DecidableEq
def RelV:V->Value->Prop
 |.aK,u=>u=Value.none
 |.bl b,u=>u=Value.bool b
 |.int i,u=>∃t,u=Value.int i t
 |.str x,u=>∃t,u=Value.str x t
 |.ref a,u=>u=Value.ref a
 |.ty n,u=>u=Value.type n
abbrev Vals:List V->List Value->Prop:=jm RelV
theorem Vals.length (r:Vals xs a):xs.length=a.length:=Paired.length r
theorem Vals.get:∀{a:List V} {b:List Value} {i:Nat} {x:V},Vals a b->a[i]?=some x->∃u,b[i]?=some u/\RelV x u
 |_,_,_,_,.nil,e=>by simp at e
 |_,_,0,_,.cons r _,e=>by simp at e;subst e;exact⟨_,rfl,r⟩
 |_,_,i+1,x,.cons _ t,e=>by obtain⟨u,c,d⟩:=Vals.get t (by simpa using e);exact⟨u,by simpa using c,d⟩
theorem Vals.set (r:RelV x u):∀{a:List V} {b:List Value} i,Vals a b->Vals (a.set i x) (b.set i u)
 |_,_,_,.nil=>.nil
 |_,_,0,.cons _ t=>.cons r t
 |_,_,i+1,.cons q t=>.cons q (Vals.set r i t)
theorem Vals.append {xs ys:List V}{a b:List Value}(h:Vals xs a)(s:Vals ys b):Vals (xs++ys) (a++b):=by
 induction h with
 |nil=>exact s
 |cons r t i=>exact .cons r i
theorem Vals.take:∀{xs:List V} {a:List Value} n,Vals xs a->Vals (xs.take n) (a.take n)
 |_,_,0,_=>.nil
 |_,_,_+1,.nil=>.nil
 |_,_,n+1,.cons r t=>.cons r (Vals.take n t)
theorem Vals.drop:∀{a:List V} {b:List Value} n,Vals a b->Vals (a.drop n) (b.drop n)
 |_,_,0,r=>r
 |_,_,_+1,.nil=>.nil
 |_,_,n+1,.cons _ t=>Vals.drop n t
def cA:Option V->Option Value->Prop
 |some v,some u=>RelV v u
 |none,none=>True
 |_,_=>False
def KV {κ:Type}:List (κ×V)->List (κ×Value)->Prop:=jm λ(p:κ×V) (q:κ×Value)=>p.1=q.1/\RelV p.2 q.2
def kV:Key->V
 |.inl i=>.int i
 |.inr x=>.str x
inductive HO where
 |lst (xs:List V)
 |tup (xs:List V)
 |dK (kvs:List (Key×V))|dT (kvs:List (List Key×V))
 |set (S:Int->Bool) (n:Nat)
 |ins (C dx:Addr) (fs:List (Str×V))
 |own (x:Addr)
 |xd (fs:List (Str×V))
 |fD (o:Obj) (u:HO)
 |lN (ps:Array Value)
 |ext (φ:Heap->Prop)
abbrev Hp:=Addr->Option HO
def upd (H:Hp)(a:Addr)(o:HO):Hp:=λb=>if b=a then some o else H b
theorem bF:upd H a o a=some o:=by unfold upd;rw[rj rfl]
theorem aE (h:b≠a):upd H a o b=H b:=by unfold upd;rw[rq h]
theorem Ls {H:Hp}(h:H a=some o)(c:H b=some u)(d:o≠u):a≠b:=by grind
theorem bK {H:Hp}(h:H a=some o)(c:H b=none):a≠b:=by intro e;subst e;rw[h]at c;cases c
def TupN (h:Heap)(a:Addr)(l:Array Value):Prop:=∃n,h.get? a=some {cls:=.type "tuple",data:=.seq l n}
theorem TupN.tup {h:Heap}{a:Addr}{l:Array Value}(x:TupN h a l):IsTup h a l:=let⟨n,q⟩:=x;⟨_,q,rfl,n,rfl⟩
theorem TupN.new (h:Heap)(l:Array Value):TupN (h.push {cls:=.type "tuple",data:=.seq l}) h.objs.size l:=⟨_,br _ rfl⟩
def Lu (h:Heap)(a:Addr)(l:Array Value):Prop:=∃o n,h.get? a=some o/\o.cls=.type "tuple"/\o.dict=none/\o.data=.seq l n
section
variable (P:cj)(w:World)
def z16 (H:Hp)(h:Heap)(a:Addr):HO->Prop
 |.lst xs=>xs.length<=ay/\∃(eM:List Value) (n:Nat),Vals xs eM/\h.get? a=some {cls:=.type "list",data:=.seq eM.toArray n}
 |.tup xs=>xs.length<=ay/\∃eM:List Value,Vals xs eM/\TupN h a eM.toArray
 |.dK kvs=>kvs.length<=ay/\(a==i4)=false/\∃vs,KV kvs vs/\h.DictOf (gA P w) a vs
 |.dT kvs=>kvs.length<=ay/\(a==i4)=false/\∃xs:List (List Key×Addr×Value),
  jm (λ(p:List Key×V) (q:List Key×Addr×Value)=>p.1=q.1/\H q.2.1=some (.tup (p.1.map kV))/\RelV p.2 q.2.2) kvs xs/\
  ∃o es ep,h.get? a=some o/\o.ExactDict/\o.data=.dict es ep/\es.toList=xs.map (entryOfKey (mh (gA P w)))/\(xs.map (·.1)).Nodup
 |.set S n=>h.SetOf (intKind P w) a S n
 |.ins C dx fs=>H dx=some (.own a)/\fs.length<=1000/\dx≠a/\h.get? a=some (W.instObj C dx)/\∃mA,h.Ns1 dx mA/\(∀f,cA (fs.lookup f) (mA f))/\PySem.Within mA (fs.map (·.1))
 |.own _=>∃o,h.get? a=some o
 |.xd fs=>∃mA,h.Ns1 a mA/\∀f,cA (fs.lookup f) (mA f)
 |.fD o u=>h.get? a=some o/\z16 H h a u
 |.lN ps=>h.get? a=some {cls:=.none,data:=.fields ps}
 |.ext φ=>φ h/\(∃o,h.get? a=some o)/\∀h1 h2:Heap,φ h1->(∀o,h1.get? a=some o->h2.get? a=some o)->φ h2
def HOk (H:Hp)(h:Heap):Prop:=∀a o,H a=some o->z16 P w H h a o
end
theorem z16.lt (x:z16 P w H h a o):a<h.objs.size:=by
 cases o with
 |lst b=>obtain⟨_,_,_,_,e⟩:=x;exact bg e
 |tup b=>obtain⟨_,_,_,_,q⟩:=x;exact bg q
 |dK kvs=>obtain⟨_,_,_,_,o,_,_,e,_⟩:=x;exact bg e
 |dT kvs=>obtain⟨_,_,_,_,o,_,_,e,_⟩:=x;exact bg e
 |set S n=>obtain⟨o,_,_,_,e,_⟩:=x;exact bg e
 |ins C dx fs=>obtain⟨_,_,_,e,_⟩:=x;exact bg e
 |own y=>obtain⟨_,e⟩:=x;exact bg e
 |xd fs=>obtain⟨_,⟨_,_,_,e,_⟩,_⟩:=x;exact bg e
 |fD ob u=>obtain⟨e,_⟩:=x;exact bg e
 |lN ps=>exact bg x
 |ext c=>obtain⟨_,⟨_,e⟩,_⟩:=x;exact bg e
theorem Paired.vj {e g:Type}{F G:e->g->Prop}{c:List e}{d:List g}(h:jm F c d)(f:∀a b,F a b->G a b):jm G c d:=by
 induction h with
 |nil=>exact .nil
 |cons r t i=>exact .cons (f _ _ r) i
theorem z16.stay (x:z16 P w H h a o)(k:∀b u,(b=a\/H b=some (.own a))->h.get? b=some u->h'.get? b=some u)
  (j:∀b,H b=some (.own a)->H' b=some (.own a)) (m:∀b f,H b=some (.tup f)->H' b=some (.tup f)):z16 P w H' h' a o:=by
 induction o with
 |lst f=>obtain⟨z,g,n,r,e⟩:=x;exact⟨z,g,n,r,k _ _ (.inl rfl) e⟩
 |tup f=>obtain⟨z,l,r,n,q⟩:=x;exact⟨z,l,r,n,k _ _ (.inl rfl) q⟩
 |dK kvs=>obtain⟨z,y,s,r,ob,es,ep,e,c⟩:=x;exact⟨z,y,s,r,ob,es,ep,k _ _ (.inl rfl) e,c⟩
 |dT kvs=>obtain⟨z,y,f,r,ob,es,ep,e,c⟩:=x;exact⟨z,y,f,Paired.vj r λp q z=>⟨z.1,m _ _ z.2.1,z.2.2⟩,ob,es,ep,k _ _ (.inl rfl) e,c⟩
 |set S n=>obtain⟨ob,es,ep,t,e,c⟩:=x;exact⟨ob,es,ep,t,k _ _ (.inl rfl) e,c⟩
 |ins C dx fs=>obtain⟨d,z,ne,e,i,⟨od,es,ep,v,c⟩,r⟩:=x;exact⟨j _ d,z,ne,k _ _ (.inl rfl) e,i,⟨od,es,ep,k _ _ (.inr d) v,c⟩,r⟩
 |own y=>obtain⟨ob,e⟩:=x;exact⟨ob,k _ _ (.inl rfl) e⟩
 |xd fs=>obtain⟨i,⟨od,es,ep,e,c⟩,r⟩:=x;exact⟨i,⟨od,es,ep,k _ _ (.inl rfl) e,c⟩,r⟩
 |fD ob u A=>obtain⟨e,q⟩:=x;exact⟨k _ _ (.inl rfl) e,A q⟩
 |lN ps=>have e:h.get? a=some {cls:=.none,data:=.fields ps}:=x;exact k a _ (.inl rfl) e
 |ext B=>obtain⟨p,⟨o,e⟩,st⟩:=x;exact⟨st _ _ p λo q=>k _ _ (.inl rfl) q,⟨o,k _ _ (.inl rfl) e⟩,st⟩
theorem HOk.lt (x:HOk P w H h)(e:H a=some o):a<h.objs.size:=(x a o e).lt
theorem HOk.fresh (x:HOk P w H h)(e:h.objs.size<=a):H a=none:=by
 cases q:H a with
 |none=>rfl
 |some u=>exact absurd (b8 (x.lt q) e) (cq _)
theorem HOk.kept (x:HOk P w H h)(k:∀b u,h.get? b=some u->h'.get? b=some u):HOk P w H h':=λa o e=>(x a o e).stay (λb u _ q=>k b u q) (λ_ q=>q) λ_ _ q=>q
theorem HOk.laid (x:HOk P w H h)(k:∀b u,h.get? b=some u->h'.get? b=some u)(f:h.objs.size<=a)(new:z16 P w (upd H a o) h' a o):HOk P w (upd H a o) h':=λb u e=>by
 have hn:=x.fresh f;by_cases d:b=a
 ·subst d;rw[bF]at e;cases e;exact new
 ·rw[aE d]at e;exact(x b u e).stay (λc v _ q=>k c v q) (λc q=>by rw[aE (bK q hn)];exact q) λc g q=>by rw[aE (bK q hn)];exact q
def Rd (H:Hp)(a:Addr)(u:HO):Prop:=H a=some u\/∃o,H a=some (.fD o u)
theorem Rd.ok (r:Rd H a u)(x:HOk P w H h):z16 P w H h a u:=by
 rcases r with r|⟨o,r⟩
 ·exact x a u r
 ·obtain⟨_,q⟩:=x a _ r;exact q
def Mut:Option HO->Prop
 |some (.lst _)=>True
 |some (.dK _)=>True
 |some (.dT _)=>True
 |some (.set _ _)=>True
 |some (.ins _ _ _)=>True
 |some (.ext _)=>True
 |_=>False
theorem HOk.write (ok:HOk P w H h)(f:Mut (H x))(l:e=x\/H e=some (.own x))(k:∀b u,b≠e->h.get? b=some u->h'.get? b=some u)(j:∃u,h'.get? e=some u)
  (new:z16 P w (upd H x o') h' x o'):HOk P w (upd H x o') h':=λb u q=>by
 have d:∀c y,H c=some (.own y)->c≠x:=λc y r z=>by subst z;rw[r]at f;exact f
 by_cases g:b=x
 ·subst g;rw[bF]at q;cases q;exact new
 ·rw[aE g]at q;by_cases a:b=e
  ·have m:H b=some (.own x):=by
    rcases l with z|z
    ·exact absurd (a.trans z) g
    ·rw[a];exact z
   rw[q]at m;cases m;obtain⟨v,o⟩:=j;exact⟨v,by rw[a];exact o⟩
  ·refine(ok b u q).stay (λc v i r=>k c v ?_ r) (λc r=>by rw[aE (d c b r)];exact r) λc n r=>by rw[aE ((λc n r z=>by subst z;rw[r]at f;exact f) c n r)];exact r
   rcases i with rfl|i
   ·exact a
   ·rintro rfl
    rcases l with z|z
    ·exact d c b i z
    ·rw[i]at z;cases z;exact g rfl
structure Un (fs ex:List Addr)(H H':Hp)(h h':Heap):Prop where
 keep:∀b o,h.get? b=some o->H b=none->b∉fs->b∉ex->h'.get? b=some o
 slot:∀b o,h.get? b=some o->H b=none->b∈fs->b∉ex->∃sl,h'.get? b=some {o with slots:=sl}
 free:∀b o,h.get? b=some o->H b=none->b∉ex->H' b=none
 there:∀b o,h.get? b=some o->b∉ex->∃o',h'.get? b=some o'
 cK:∀b xs,H b=some (.tup xs)->H' b=some (.tup xs)
 cE:∀b o u,H b=some (.fD o u)->H' b=some (.fD o u)
 cL:∀b ps,H b=some (.lN ps)->∃more,H' b=some (.lN (ps++more))
theorem Un.any (u:Un fs ex H H1 h h1)(q:h.get? b=some ob)(n:H b=none)(a:b∉ex):∃sl,h1.get? b=some {ob with slots:=sl}:=by
 by_cases c:b∈fs
 ·exact u.slot b ob q n c a
 ·exact⟨ob.slots,u.keep b ob q n c a⟩
theorem Un.kept (k:∀b u,h.get? b=some u->h'.get? b=some u):Un fs ex H H h h':=⟨λb ob q _ _ _=>k b ob q,λb ob q _ _ _=>⟨ob.slots,k b ob q⟩,λ_ _ _ n _=>n,λb ob q _=>⟨ob,k b ob q⟩,λ_ _ q=>q,λ_ _ _ q=>q,λ_ ps q=>⟨#[],by rw[q];simp⟩⟩
theorem Un.refl:Un fs ex H H h h:=Un.kept λ_ _ q=>q
theorem Un.laid (k:∀b u,h.get? b=some u->h'.get? b=some u)(c:h.objs.size<=a)(hn:H a=none):Un fs ex H (upd H a o) h h' where
 keep:=λb u q _ _ _=>k b u q
 slot:=λb u q _ _ _=>⟨u.slots,k b u q⟩
 free:=λb u q n _=>by rw[aE (cc (b8 (bg q) c))];exact n
 there:=λb u q _=>⟨u,k b u q⟩
 cK:=λb d q=>by rw[aE (bK q hn)];exact q
 cE:=λb u d q=>by rw[aE (bK q hn)];exact q
 cL:=λb ps q=>⟨#[],by rw[aE (bK q hn),q];simp⟩
theorem Un.write (c:Mut (H x))(i:e=x\/H e=some (.own x))(k:∀b u,b≠e->h.get? b=some u->h'.get? b=some u)(d:∃u,h'.get? e=some u):Un fs ex H (upd H x o) h h':=by
 have f:∀b,H b=none->b≠x:=λb n z=>by subst z;rw[n]at c;exact c
 have g:∀b,H b=none->b≠e:=λb n z=>by
  subst z;rcases i with r|r
  ·exact f b n r
  ·rw[n]at r;cases r
 have hm:∀b u,H b=some u->¬Mut (some u)->b≠x:=λb u q nm z=>by subst z;rw[q]at c;exact nm c
 refine⟨λb u q n _ _=>k b u (g b n) q,λb u q n _ _=>⟨u.slots,k b u (g b n) q⟩,λb u q n _=>by rw[aE (f b n)];exact n,λb u q _=>?_,λb j q=>by rw[aE (hm b _ q λz=>z)];exact q,λb u j q=>by rw[aE (hm b _ q λz=>z)];exact q,λb ps q=>⟨#[],by rw[aE (hm b _ q λz=>z),q];simp⟩⟩;by_cases a:b=e
 ·subst a;exact d
 ·exact⟨u,k b u a q⟩
def As (h:Heap)(H:Hp):List Addr:=(bu h.objs.size).filter λa=>(H a).isSome
def jW (h:Heap)(H:Hp):Heap:=W.hideAll h (As h H)
theorem Lw (h:Heap)(H:Hp):(jW h H).objs.size=h.objs.size:=W.hideAll_size _ _
theorem Lx (e:h.get? b=some o)(n:H b=none):(jW h H).get? b=some o:=W.hideAll_get _ e λhm=>by have q:=(dj.mp hm).2;rw[n]at q;simp at q
theorem Ly (e:(jW h H).get? b=some o):h.get? b=some o/\H b=none:=by
 have a:=W.of_hideAll (As h H) e;refine⟨a,?_⟩;cases q:H b with
 |none=>rfl
 |some x=>have z:(jW h H).get? b=none:=W.hideAll_none (As h H) (dj.mpr ⟨d6.mpr (bg a),by simp[q]⟩);rw[z]at e;cases e
def vo (g h:Heap)(L:Addr):List (Addr×Obj):=(bu h.objs.size).filterMap λa=>if a=L\/(g.get? a).isSome=true then none else(h.get? a).map λo=>(a,o)
theorem E9 (c:a≠L)(d:g.get? a=none)(b:h.get? a=some o):(a,o)∈vo g h L:=ij.mpr ⟨a,d6.mpr (bg b),by simp[c,d,b]⟩
theorem Lz (a:p∈vo g h L):p.1≠L/\g.get? p.1=none/\h.get? p.1=some p.2:=by
 obtain⟨b,_,e⟩:=ij.mp a;split at e
 ·cases e
 ·rename_i hn;cases q:h.get? b with
  |none=>rw[q]at e;simp at e
  |some u=>
   rw[q]at e;simp at e;subst e;refine⟨λz=>hn (.inl z),?_,q⟩;cases r:g.get? b with
   |none=>rfl
   |some v=>exact(hn (.inr (by simp[r]))).elim
def rest (g h:Heap)(L d:Addr):List (Addr×Obj):=(vo g h L).filter λp=>decide (p.1≠d)
theorem LB:News g L h (vo g h L):=λp d=>let⟨a,b,c⟩:=Lz d;⟨c,a,b⟩
structure Mod (K:W.Frag)(mg:Str->Option Value)(base:Heap):Prop where
 sx:K.In base
 glob:base.Ns bp mg
 blt:∃mb,base.Ns qu mb/\∀x:Str,x≠"__name__"->mb x=c9 x
 nolimit:base.NoLimit
structure Cx where
 prog:cj
 w:World
 K:W.Frag
 mg:Str->Option Value
 base:Heap
 A:fz
 N:List Str
 s₀:bc
 hI:Hp
 env:Env
 outer:List Env
 stack:List Env
 ex:List Addr
 fn:Str->Bool
 calm:Bool
 pn:List (Addr×Obj)
 xe:Value->bc->Prop
 fx:Option (Str×Value):=none
def frs (l:List Env):List Addr:=l.filterMap (·.frame)
abbrev Cx.fs (X:Cx):List Addr:=frs X.outer
def Vis (sc:Scope)(x:Str):Prop:=sc.names.lookup x=some .local\/sc.names.lookup x=some .cell\/sc.names.lookup x=some .free
def Loc (sc:Scope)(x:Str):Prop:=sc.names.lookup x=some .local\/sc.names.lookup x=some .cell
def Look (env:Env)(h:Heap)(m:Str->Option Value)(x:Str)(u:Value):Prop:=(env.kindOf x=some .local/\m x=some u)\/((env.kindOf x=some .cell\/env.kindOf x=some .free)/\∃c,env.cells.lookup x=some c/\h.IsCell c (some u))
structure Cx.Ok (X:Cx):Prop where
 mod:Mod X.K X.mg X.base
 kind:X.env.scope.kind=.function
 glob:X.env.globals=bp
 blt:X.env.builtins=qu
 above:X.s₀.heap.objs.size<=X.env.locals
 inj:∀x y c,X.env.cells.lookup x=some c->X.env.cells.lookup y=some c->x=y
 has:∀x,(X.env.kindOf x=some .cell\/X.env.kindOf x=some .free)->∃c,X.env.cells.lookup x=some c
 qM:∀x c,X.fn x=true->X.env.cells.lookup x=some c->X.s₀.heap.objs.size<=c
 hd:X.calm=true->X.A.handled=none
 frames:X.A.frames=some X.stack
 sy:X.stack=X.outer\/(X.stack=X.env::X.outer/\X.env.frame=some X.env.locals)
 jF:∀b∈X.ex,b≠X.env.locals/\∀x c,X.env.cells.lookup x=some c->c≠b
 bs:∀b o,X.base.get? b=some o->X.s₀.heap.get? b=some o/\X.hI b=none
 jG:X.base.objs.size<=X.s₀.heap.objs.size
 hJ:∀b o,X.base.get? b=some o->b∉X.ex
 hP:∀b∈X.ex,b∉X.fs
 cF:X.s₀.heap.FunFrames X.base X.outer
 nT:∀b∈X.fs,X.hI b=none
 vq:∀x u,X.fx=some (x,u)->x∉X.N/\X.env.scope.names.lookup x=some .local
structure Inv (X:Cx)(pins:List (Addr×Obj))(σ:List (Option V))(H:Hp)(s:bc):Prop where
 ok:X.Ok
 os:s.os=X.s₀.os
 bare:kz s.gens
 base:Un X.fs X.ex X.hI H X.s₀.heap s.heap
 loc:∃m,s.heap.Ns X.env.locals m/\∀(i:Nat) (x:Str) (v:V),X.N[i]?=some x->σ[i]?=some (some v)->Vis X.env.scope x->∃u,RelV v u/\Look X.env s.heap m x u
 cell:∀x c,X.env.cells.lookup x=some c->∃v,s.heap.IsCell c v
 free:H X.env.locals=none
 bA:∀x c,X.env.cells.lookup x=some c->H c=none
 pin:∀p∈X.pn++pins,s.heap.get? p.1=some p.2/\H p.1=none/\p.1≠X.env.locals/\p.1∉X.fs/\∀v,p.2.data≠.cell v
 hok:HOk X.prog X.w H s.heap
 len:σ.length=X.N.length
 fx:∀x u,X.fx=some (x,u)->∃m,s.heap.Ns X.env.locals m/\m x=some u
section
variable {X:Cx}
theorem Cx.Ok.vt (ok:X.Ok)(e:X.base.get? b=some o):b∉X.fs:=λa=>by have:=(ok.cF.mem a).1;rw[e]at this;cases this
theorem Inv.bs (I:Inv X pins σ H s):∀b o,X.base.get? b=some o->s.heap.get? b=some o/\H b=none:=λb o e=>⟨I.base.keep b o (I.ok.bs b o e).1 (I.ok.bs b o e).2 (I.ok.vt e) (I.ok.hJ b o e),I.base.free b o (I.ok.bs b o e).1 (I.ok.bs b o e).2 (I.ok.hJ b o e)⟩
theorem Inv.bk (I:Inv X pins σ H s):∀b o,X.base.get? b=some o->s.heap.get? b=some o:=λb o e=>(I.bs b o e).1
theorem Inv.mod (I:Inv X pins σ H s):Mod X.K X.mg X.base:=I.ok.mod
theorem Inv.cM (I:Inv X pins σ H s):X.K.In s.heap:=I.ok.mod.sx.keeps I.bk
theorem Inv.fr (I:Inv X pins σ H s):∃m,Fr X.base X.env.locals s.heap m:=
 let⟨m,hn,_⟩:=I.loc
 ⟨m,hn,I.bk,bq I.ok.jG I.ok.above⟩
theorem Inv.lt (I:Inv X pins σ H s):X.env.locals<s.heap.objs.size:=let⟨_,hn,_⟩:=I.loc;hn.lt
theorem Inv.sz (I:Inv X pins σ H s):X.s₀.heap.objs.size<=s.heap.objs.size:=bq I.ok.above (gr I.lt)
theorem Inv.vv (I:Inv X pins σ H s)(h:s.heap.objs.size<=a):a∉X.fs:=λb=>by obtain⟨_,o,c,_⟩:=I.ok.cF.mem b;exact absurd (b8 (bg c) (bq I.sz h)) (cq _)
theorem Inv.kU (I:Inv X pins σ H s):∀x c,X.env.cells.lookup x=some c->c≠X.env.locals:=λx c e z=>by obtain⟨v,o,d,hd⟩:=I.cell x c e;obtain⟨m,⟨f,es,ep,a,b,_⟩,_⟩:=I.loc;rw[z,a]at d;cases d;rw[b]at hd;cases hd
theorem Inv.cF (I:Inv X pins σ H s):s.heap.FunFrames X.base X.outer:=by
 have all:∀l,(∀b∈frs l,b∈X.fs)->X.s₀.heap.FunFrames X.base l->s.heap.FunFrames X.base l:=by
  intro l
  induction l with
  |nil=>intro _ _;trivial
  |cons env r d=>
   rintro hs ⟨f,⟨L,o,hf,hn,g,hd⟩,hr⟩
   have a:=hs L (by unfold frs;rw[du,hf];exact bh);obtain⟨sl,e⟩:=I.base.slot L o g (I.ok.nT L a) a λz=>I.ok.hP L z a;exact⟨f,⟨L,_,hf,hn,e,hd⟩,d (λb c=>hs b (by unfold frs;rw[du,hf];exact ba _ c)) hr⟩
 exact all X.outer (λ_ c=>c) I.ok.cF
theorem Inv.stack (I:Inv X pins σ H s):s.heap.FunFrames X.base X.stack:=by
 rcases I.ok.sy with e|⟨e,hf⟩
 ·rw[e];exact I.cF
 ·rw[e];obtain⟨m,hn,_⟩:=I.loc;refine .cons (by rw[I.ok.kind];decide) hf hn ?_ I.cF;exact gu (bq I.ok.jG I.ok.above)
theorem Inv.gB (I:Inv X pins σ H s):∀b∈frs X.stack,b∈X.env.locals::X.fs:=λb a=>by
 rcases I.ok.sy with e|⟨e,hf⟩
 ·rw[e]at a;simp_all
 ·rw[e]at a;unfold frs at a;rw[du,hf]at a;exact a
theorem Inv.gC (I:Inv X pins σ H s):∀b∈frs X.stack,H b=none:=λb a=>by
 rcases az.mp (I.gB b a)with e|a
 ·rw[e];exact I.free
 ·obtain⟨_,o,c,_⟩:=I.ok.cF.mem a;exact I.base.free b o c (I.ok.nT b a) λz=>I.ok.hP b z a
theorem Inv.step {ch:List Addr}(I:Inv X pins σ H s)
  (f:∀b∈ch,(b∈X.ex\/X.s₀.heap.objs.size<=b)/\b≠X.env.locals/\(∀x c,X.env.cells.lookup x=some c->c≠b)/\∀p∈X.pn++pins,p.1≠b)
  (keep:∀b o,b≠X.env.locals->b∉X.fs->b∉ch->s.heap.get? b=some o->H b=none->h'.get? b=some o)
  (slot:∀b o,b≠X.env.locals->b∈X.fs->b∉ch->s.heap.get? b=some o->H b=none->∃sl,h'.get? b=some {o with slots:=sl}) (free:∀b o,b∉ch->s.heap.get? b=some o->H b=none->H' b=none)
  (there:∀b o,b∉ch->s.heap.get? b=some o->∃C,h'.get? b=some C)
  (cK:∀b y,H b=some (.tup y)->H' b=some (.tup y)) (cE:∀b o u,H b=some (.fD o u)->H' b=some (.fD o u)) (cL:∀b ps,H b=some (.lN ps)->∃D,H' b=some (.lN (ps++D)))
  (ns:∀m,s.heap.Ns X.env.locals m->h'.Ns X.env.locals m) (hok:HOk X.prog X.w H' h') (L:kz g'):
  Inv X pins σ H' {s with heap:=h',gens:=g',drawn:=d',toks:=t'}:=by
 have E:∀b o,X.s₀.heap.get? b=some o->b≠X.env.locals:=λb o e=>cc (b8 (bg e) I.ok.above)
 have j:∀b o,X.s₀.heap.get? b=some o->b∉X.ex->b∉ch:=λb o e a A=>by
  rcases(f b A).1 with z|z
  ·exact a z
  ·exact absurd (b8 (bg e) z) (cq _)
 have g:∀x c,X.env.cells.lookup x=some c->∀v,s.heap.IsCell c v->h'.IsCell c v:=λx c e v ⟨o,B,hd⟩=>by
  have h:=λz=>(f c z).2.2.1 x c e rfl;by_cases J:c∈X.fs
  ·obtain⟨sl,q⟩:=slot c o (I.kU x c e) J h B (I.bA x c e);exact⟨_,q,hd⟩
  ·exact⟨o,keep c o (I.kU x c e) J h B (I.bA x c e),hd⟩
 refine⟨I.ok,I.os,L,⟨λb o e n A a=>?_,λb o e n A a=>?_,λb o e n a=>?_,λb o e a=>?_,λb y e=>cK b y (I.base.cK b y e),λb o y e=>cE b o y (I.base.cE b o y e),λb ps e=>?_⟩,?_,λx c e=>?_,?_,λx c e=>?_,λp K=>?_,hok,I.len,λx u e=>let⟨m,hn,q⟩:=I.fx x u e;⟨m,ns m hn,q⟩⟩
 ·exact keep b o (E b o e) A (j b o e a) (I.base.keep b o e n A a) (I.base.free b o e n a)
 ·obtain⟨sl,t⟩:=I.base.slot b o e n A a;obtain⟨G,F⟩:=slot b _ (E b o e) A (j b o e a) t (I.base.free b o e n a);exact⟨G,F⟩
 ·obtain⟨C,t⟩:=I.base.there b o e a;exact free b C (j b o e a) t (I.base.free b o e n a)
 ·obtain⟨C,t⟩:=I.base.there b o e a;exact there b C (j b o e a) t
 ·obtain⟨m1,t⟩:=I.base.cL b ps e;obtain⟨M,F⟩:=cL b _ t;exact⟨m1++M,by rw[F,pf]⟩
 ·obtain⟨m,hn,N⟩:=I.loc;refine⟨m,ns m hn,λi x v t F O=>?_⟩;obtain⟨u,r,l⟩:=N i x v t F O;refine⟨u,r,?_⟩;rcases l with l|⟨k,c,e,z⟩
  ·exact .inl l
  ·exact .inr ⟨k,c,e,g x c e _ z⟩
 ·obtain⟨v,z⟩:=I.cell x c e;exact⟨v,g x c e v z⟩
 ·obtain⟨m,⟨o,_,_,B,_⟩,_⟩:=I.loc;exact free _ o (λz=>(f _ z).2.1 rfl) B I.free
 ·obtain⟨v,o,B,hd⟩:=I.cell x c e;exact free c o (λz=>(f c z).2.2.1 x c e rfl) B (I.bA x c e)
 ·obtain⟨e,n,ne,nf,d⟩:=I.pin p K;have h:=λz=>(f p.1 z).2.2.2 p K rfl;exact⟨keep p.1 p.2 ne nf h e n,free p.1 p.2 h e n,ne,nf,d⟩
theorem Inv.un (I:Inv X pins σ H s)(u:Un X.fs [] H H' s.heap h')(hok:HOk X.prog X.w H' h'):Inv X pins σ H' {s with heap:=h',toks:=t'}:=by obtain⟨m,⟨o,es,ep,g,r⟩,_⟩:=id I.loc;obtain⟨sl,h⟩:=u.any g I.free (by simp);exact I.step (ch:=[]) (λ_ z=>nomatch z) (λb o _ c _ e n=>u.keep b o e n c (by simp)) (λb o _ c _ e n=>u.slot b o e n c (by simp)) (λb o _ e n=>u.free b o e n (by simp)) (λb o _ e=>u.there b o e (by simp)) u.cK u.cE u.cL (λj ⟨k,d,f,a,i⟩=>by rw[g]at a;cases a;exact⟨_,d,f,h,i⟩) hok I.bare
theorem Inv.call (I:Inv X pins σ H s)(u:Un (frs X.stack) ch H H' s.heap h')(hok:HOk X.prog X.w H' h')(k:kz l)
  (d:∀b∈ch,(b∈X.ex\/X.s₀.heap.objs.size<=b)/\b≠X.env.locals/\(∀x c,X.env.cells.lookup x=some c->c≠b)/\∀p∈X.pn++pins,p.1≠b):
  Inv X pins σ H' {s with heap:=h',gens:=l,drawn:=d',toks:=t'}:=by
 obtain⟨m,⟨o,es,ep,j,r⟩,_⟩:=id I.loc;obtain⟨sl,g⟩:=u.any j I.free λz=>(d _ z).2.1 rfl;exact I.step d (λb o g q a e n=>u.keep b o e n (λz=>(az.mp (I.gB b z)).elim g q) a) (λb o _ _ a e n=>u.any e n a) (λb o a e n=>u.free b o e n a) (λb o a e=>u.there b o e a) u.cK u.cE u.cL (λv ⟨y,h,i,f,t⟩=>by rw[j]at f;cases f;exact⟨_,h,i,g,t⟩) hok k
theorem Inv.turned (I:Inv X pins σ H s)(k:∀b o,b≠it->s.heap.get? b=some o->h'.get? b=some o)(hn:H it=none)(f:it≠X.env.locals)
  (g:it∈X.ex\/X.s₀.heap.objs.size<=it) (h:∀x c,X.env.cells.lookup x=some c->c≠it) (i:∀p∈X.pn++pins,p.1≠it):Inv X pins σ H {s with heap:=h',toks:=t'}:=by
 have d:∀b u,H b=some u->b≠it:=λb u e z=>by rw[z,hn]at e;cases e
 refine I.step (ch:=[it]) (λb j=>?_) (λb o _ _ a e _=>k b o (λz=>a (by simp[z])) e) (λb o _ _ a e _=>⟨o.slots,k b o (λz=>a (by simp[z])) e⟩) (λ_ _ _ _ n=>n) (λb o a e=>⟨o,k b o (λz=>a (by simp[z])) e⟩) (λ_ _ e=>e) (λ_ _ _ e=>e) (λb ps e=>⟨#[],by rw[e];simp⟩) (λm hm=>?_) (λb u e=>?_) I.bare
 ·have e:b=it:=by simpa using j
  subst e;exact⟨g,f,h,i⟩
 ·obtain⟨o,es,ep,l,r⟩:=hm;exact⟨o,es,ep,k _ o (Ne.symm f) l,r⟩
 ·refine(I.hok b u e).stay (λc v a q=>k c v ?_ q) (λ_ q=>q) λ_ _ q=>q;rcases a with z|z
  ·rw[z];exact d b u e
  ·exact d c _ z
theorem Inv.tok (I:Inv X pins σ H s)(t:Nat):Inv X pins σ H {s with toks:=t}:=I.un (h':=s.heap) (t':=t) Un.refl I.hok
theorem Inv.kept (I:Inv X pins σ H s)(k:∀b u,s.heap.get? b=some u->h'.get? b=some u):Inv X pins σ H {s with heap:=h',toks:=t'}:=I.un (Un.kept k) (I.hok.kept k)
theorem Inv.laid (I:Inv X pins σ H s)(k:∀b u,s.heap.get? b=some u->h'.get? b=some u)(c:s.heap.objs.size<=a)(new:z16 X.prog X.w (upd H a o) h' a o): Inv X pins σ (upd H a o) {s with heap:=h',toks:=t'}:=I.un (Un.laid k c (I.hok.fresh c)) (I.hok.laid k c new)
theorem Inv.write (I:Inv X pins σ H s)(c:Mut (H x))(d:e=x\/H e=some (.own x))(k:∀b u,b≠e->s.heap.get? b=some u->h'.get? b=some u)(a:∃u,h'.get? e=some u) (new:z16 X.prog X.w (upd H x o) h' x o):Inv X pins σ (upd H x o) {s with heap:=h',toks:=t'}:=I.un (Un.write c d k a) (I.hok.write c d k a new)
theorem Inv.weak (I:Inv X pins σ H s)(b:a.length=σ.length)(w:∀(i:Nat) v,a[i]?=some (some v)->σ[i]?=some (some v)):Inv X pins a H s:=⟨I.ok,I.os,I.bare,I.base,let⟨m,hn,LC⟩:=I.loc;⟨m,hn,λi x v c d e=>LC i x v c (w i v d) e⟩,I.cell,I.free,I.bA,I.pin,I.hok,b.trans I.len,I.fx⟩
theorem Inv.gD (I:Inv X pins σ H s)(h:∀p∈qN,s.heap.get? p.1=some p.2/\H p.1=none/\p.1≠X.env.locals/\p.1∉X.fs/\∀v,p.2.data≠.cell v):Inv X qN σ H s:=⟨I.ok,I.os,I.bare,I.base,I.loc,I.cell,I.free,I.bA,λp a=>(b6.mp a).elim (λz=>I.pin p (ee _ z)) (h p),I.hok,I.len,I.fx⟩
theorem LD {h:Heap}(x:h.Ns a m)(y:h.Ns a g)(n:Str):m n=g n:=by obtain⟨o,es,ep,e,d,_,f⟩:=x;obtain⟨l,i,j,b,c,_,k⟩:=y;rw[e]at b;cases b;rw[d]at c;cases c;rw[<-f n,k n]
theorem yB {N:List Str}(hN:N.Nodup){j:Nat}(a:N[i]?=some x)(b:N[j]?=some x):i=j:=by obtain⟨e,c⟩:=aw.mp a;obtain⟨f,d⟩:=aw.mp b;exact(List.getElem_inj hN).mp (c.trans d.symm)
theorem z4f (I:Inv X pins σ H s)(hN:X.N.Nodup)(O:X.N[i]?=some x)(t:Loc X.env.scope x)(r:RelV v u)
  (h:∀Y,Inv X pins (σ.set i (some v)) H Y->(∃a,gb a s.heap Y.heap/\(a=X.env.locals\/X.env.cells.lookup x=some a))->Q () Y) (hf:X.fn x=true\/X.env.scope.names.lookup x=some .local:=by first|exact .inl rfl|exact .inr rfl|assumption):wpAny M A (storeName X.env x u) Q E s:=by
 obtain⟨m,hn,hl⟩:=id I.loc;have D:i<σ.length:=I.len▸(aw.mp O).1;have kU:=I.kU
 have f:∀{a:Addr} {h':Heap},(∃o,s.heap.get? a=some o/\H a=none)->gb a s.heap h'->HOk X.prog X.w H h':=λ{a h'} ha hs b ob e=>by
  obtain⟨_,_,B⟩:=ha;refine(I.hok b ob e).stay (λc V l q=>(hs.2 c ?_).trans q) (λ_ q=>q) λ_ _ q=>q
  rintro rfl
  rcases l with rfl|l
  ·rw[B]at e;cases e
  ·rw[B]at l;cases l
 rcases t with F|F
 ·refine wpAny_storeName_local F hn (λh' P hs=>?_) (by rw[I.ok.kind];rfl);obtain⟨oL,_,_,LF,_⟩:=id hn;refine h _ ⟨I.ok,I.os,I.bare,⟨λb o e n G t=>?_,λb o e n G t=>?_,I.base.free,λb o e t=>?_,I.base.cK,I.base.cE,I.base.cL⟩,⟨_,P,λj y v' g C e3=>?_⟩,λy c e=>?_,I.free,I.bA,λp hp=>?_,f ⟨oL,LF,I.free⟩ hs,by simpa using I.len,λy u e=>by obtain⟨m',J,q⟩:=I.fx y u e;refine⟨_,P,?_⟩;have hy:y≠x:=λz=>(I.ok.vq y u e).1 (z▸aq O);have:=LD hn J y;simp[hy,this,q]⟩ ⟨_,hs,.inl rfl⟩
  ·exact(hs.2 b (cc (b8 (bg e) I.ok.above))).trans (I.base.keep b o e n G t)
  ·obtain⟨sl,g⟩:=I.base.slot b o e n G t;exact⟨sl,(hs.2 b (cc (b8 (bg e) I.ok.above))).trans g⟩
  ·obtain⟨o',g⟩:=I.base.there b o e t;exact⟨o',(hs.2 b (cc (b8 (bg e) I.ok.above))).trans g⟩
  ·by_cases K:j=i
   ·subst K;rw[O]at g;cases g;rw[ce D]at C;cases C;exact⟨u,r,.inl ⟨F,by simp⟩⟩
   ·rw[bv (Ne.symm K)]at C;obtain⟨u',r',q⟩:=hl j y v' g C e3;refine⟨u',r',?_⟩;rcases q with⟨k,e⟩|⟨k,c,e,z⟩
    ·refine .inl ⟨k,?_⟩;have:y≠x:=λe=>K (yB hN g (e▸O));simp[this,e]
    ·exact .inr ⟨k,c,e,z.sameBut hs (kU y c e)⟩
  ·obtain⟨V,z⟩:=I.cell y c e;exact⟨V,z.sameBut hs (kU y c e)⟩
  ·obtain⟨e,n,ne,nf,d⟩:=I.pin p hp;exact⟨(hs.2 p.1 ne).trans e,n,ne,nf,d⟩
 ·have L:X.fn x=true:=by
   rcases hf with z|z
   ·exact z
   ·rw[z]at F;cases F
  obtain⟨c,l⟩:=I.ok.has x (.inl F);obtain⟨V,z⟩:=I.cell x c l;refine wpAny_storeName_cell I.ok.kind F l z (λh' R hs=>?_);obtain⟨oc,S,T⟩:=id z;refine h {s with heap:=h'} ⟨I.ok,I.os,I.bare,⟨λb o e n G t=>?_,λb o e n G t=>?_,I.base.free,λb o e t=>?_,I.base.cK,I.base.cE,I.base.cL⟩,⟨m,hn.sameBut hs (Ne.symm (kU x c l)),λj y v' g C e3=>?_⟩,λy W e=>?_,I.free,I.bA,λp hp=>?_,f ⟨oc,S,I.bA x c l⟩ hs,by simpa using I.len,λy u e=>let⟨m',J,q⟩:=I.fx y u e;⟨m',J.sameBut hs (Ne.symm (kU x c l)),q⟩⟩ ⟨c,hs,.inr l⟩
  ·exact(hs.2 b (cc (b8 (bg e) (I.ok.qM x c L l)))).trans (I.base.keep b o e n G t)
  ·obtain⟨sl,g⟩:=I.base.slot b o e n G t;exact⟨sl,(hs.2 b (cc (b8 (bg e) (I.ok.qM x c L l)))).trans g⟩
  ·obtain⟨o',g⟩:=I.base.there b o e t;exact⟨o',(hs.2 b (cc (b8 (bg e) (I.ok.qM x c L l)))).trans g⟩
  ·by_cases K:j=i
   ·subst K;rw[O]at g;cases g;rw[ce D]at C;cases C;exact⟨u,r,.inr ⟨.inl F,c,l,R⟩⟩
   ·rw[bv (Ne.symm K)]at C;obtain⟨u',r',q⟩:=hl j y v' g C e3;refine⟨u',r',?_⟩;rcases q with q|⟨k,W,e,z'⟩
    ·exact .inl q
    ·refine .inr ⟨k,W,e,z'.sameBut hs ?_⟩
     rintro rfl
     exact K (yB hN g (I.ok.inj _ _ _ e l▸O))
  ·by_cases U:W=c
   ·subst U;exact⟨_,R⟩
   ·obtain⟨w2,z2⟩:=I.cell y W e;exact⟨w2,z2.sameBut hs U⟩
  ·obtain⟨e,n,ne,nf,d⟩:=I.pin p hp;refine⟨(hs.2 p.1 ?_).trans e,n,ne,nf,d⟩;intro q;rw[q,S]at e;exact d V (se e▸T)
theorem z6b (I:Inv X pins σ H s)(hN:X.N.Nodup)(b:X.N[i]?=some x)(c:Loc X.env.scope x)(r:RelV v u)
  (h:∀a,Inv X pins (σ.set i (some v)) H a->Q () a) (hf:X.fn x=true\/X.env.scope.names.lookup x=some .local:=by first|exact .inl rfl|exact .inr rfl|assumption):wpAny M A (storeName X.env x u) Q E s:=
 z4f I hN b c r (λa d _=>h a d) hf
theorem Inv.call' (I:Inv X pins σ H s)(e:a.os=s.os)(u:Un (frs X.stack) f H H' s.heap a.heap)(hok:HOk X.prog X.w H' a.heap)(g:kz a.gens)
  (d:∀b∈f,(b∈X.ex\/X.s₀.heap.objs.size<=b)/\b≠X.env.locals/\(∀x c,X.env.cells.lookup x=some c->c≠b)/\∀p∈X.pn++pins,p.1≠b):Inv X pins σ H' a:=by
 obtain⟨h',h,i,j,k⟩:=a;subst e;exact I.call u hok g d
end
abbrev XK:=Value->Option Addr->Hp->Prop
abbrev St:=List (Option V)
abbrev VK:=V->Hp->Prop
abbrev TE:=St->Hp->VK->Prop
abbrev TT:=St->Hp->(Bool->Hp->Prop)->Prop
abbrev TA:=St->Hp->(List V->Hp->Prop)->Prop
structure Ends where
 nx:St->Hp->Prop
 rt:VK
 bk:St->Hp->Prop:=λ_ _=>False
 ct:St->Hp->Prop:=λ_ _=>False
abbrev TS:=Ends->St->Hp->Prop
def EP (X:Cx)(pins:List (Addr×Obj))(σ:St)(Q:VK)(u:Value)(s':bc):Prop:=∃v H',Inv X pins σ H' s'/\RelV v u/\Q v H'
def TP (X:Cx)(pins:List (Addr×Obj))(σ:St)(Q:Bool->Hp->Prop)(b:Bool)(s':bc):Prop:=∃H',Inv X pins σ H' s'/\Q b H'
def AP (X:Cx)(pins:List (Addr×Obj))(σ:St)(Q:List V->Hp->Prop)(us:List Value)(s':bc):Prop:=∃vs H',Inv X pins σ H' s'/\Vals vs us/\Q vs H'
def SP (X:Cx)(pins:List (Addr×Obj))(D:Ends)(f:Flow)(s':bc):Prop:=
 match f with
 |.next=>∃bP H',Inv X pins bP H' s'/\D.nx bP H'
 |.brk=>∃bP H',Inv X pins bP H' s'/\D.bk bP H'
 |.cont=>∃bP H',Inv X pins bP H' s'/\D.ct bP H'
 |.ret u=>∃v bP H',Inv X pins bP H' s'/\RelV v u/\D.rt v H'
def PE (X:Cx)(e:Expr)(t:TE):Prop:=∀(pins:List (Addr×Obj)) (s:bc) (σ:St) (H:Hp) (Q:VK),Inv X pins σ H s->t σ H Q->wpAny (model X.prog X.w) X.A (eval e X.env) (EP X pins σ Q) X.xe s
def PT (X:Cx)(e:Expr)(t:TT):Prop:=∀(pins:List (Addr×Obj)) (s:bc) (σ:St) (H:Hp) (Q:Bool->Hp->Prop),Inv X pins σ H s->t σ H Q->wpAny (model X.prog X.w) X.A (ql e X.env (eval e X.env)) (TP X pins σ Q) X.xe s
def PW (X:Cx)(e:Expr)(t:TT):Prop:=∀(whole:Sem Value) (pins:List (Addr×Obj)) (s:bc) (σ:St) (H:Hp) (Q:Bool->Hp->Prop),Inv X pins σ H s->t σ H Q->wpAny (model X.prog X.w) X.A (ql e X.env whole) (TP X pins σ Q) X.xe s
theorem PW.pt (h:PW X e t):PT X e t:=h _
def PA (X:Cx)(es:List Expr)(t:TA):Prop:=∀(pos:Pos) (pins:List (Addr×Obj)) (s:bc) (σ:St) (H:Hp) (Q:List V->Hp->Prop),Inv X pins σ H s->t σ H Q->wpAny (model X.prog X.w) X.A (spliced (i5 pos (c8 es X.env))) (AP X pins σ Q) X.xe s
def PS (X:Cx)(st:Stmt)(t:TS):Prop:=∀(pins:List (Addr×Obj)) (s:bc) (σ:St) (H:Hp) (D:Ends),Inv X pins σ H s->t D σ H->wpAny (model X.prog X.w) X.A (exec st X.env) (SP X pins D) X.xe s
def PSs (X:Cx)(st:List Stmt)(t:TS):Prop:=∀(pins:List (Addr×Obj)) (s:bc) (σ:St) (H:Hp) (D:Ends),Inv X pins σ H s->t D σ H->wpAny (model X.prog X.w) X.A (execs st X.env) (SP X pins D) X.xe s
theorem aI (h:wpAny M A t Q E s)(b:∀a s,Q a s->c a s):wpAny M A t c E s:=ek h b λ_ _ x=>x
section
variable {X:Cx}
theorem bin (l:PE X a m)(n:PE X b o){R:V->V->Hp->Prop}(I:Inv X c e H s)(h:m e H fun x H1=>o e H1 fun y d=>R x y d)
  {k:Type} {Q:k->bc->Prop} {f:Value->Value->Sem k}
  (hf:∀v u j x y d,Inv X c e d j->RelV x v->RelV y u->R x y d->wpAny (model X.prog X.w) X.A (f v u) Q X.xe j):
  wpAny (model X.prog X.w) X.A (eval a X.env) (λv g=>wpAny (model X.prog X.w) X.A (eval b X.env) (λu i=>wpAny (model X.prog X.w) X.A (f v u) Q X.xe i) X.xe g) X.xe s:=by
 exact aI (l c s e H _ I h) λv p ⟨x,H1,q,r,t⟩=>aI (n c p e H1 _ q t) λu j ⟨y,d,z,B,C⟩=>hf v u j x y d z r B C
def sA (i:Nat):TE:=λσ H Q=>∃v,σ[i]?=some (some v)/\Q v H
def tC (v:V):TE:=λ_ H Q=>Q v H
theorem vx (hN:X.N[i]?=some x)(k:Vis X.env.scope x)(hd:Wl x:=by decide)(g:(x==("__classdict__":Str))=false:=by decide):PE X (.Name x pos) (sA i):=by
 rintro f s n H Q I ⟨v,e,h⟩
 obtain⟨m,hn,o⟩:=I.loc;obtain⟨u,r,l⟩:=o i x v hN e k;have b:EP X f n Q u s:=⟨v,H,I,r,h⟩;rcases l with⟨d,hm⟩|⟨d,c,j,a⟩
 ·exact ph (nz I.ok.kind d hn hm b) hd
 ·rcases d with d|d
  ·exact ph (wpAny_loadName_cell I.ok.kind d j a b) hd
  ·exact ph (wpAny_loadName_free I.ok.kind d j a b g) hd
theorem LG {i j pos}:PE X (.Constant (.int i) j pos) (tC (.int i)):=λ_ _ _ H _ I h=>wpAny_Constant_int ⟨.int i,H,I.tok _,⟨_,rfl⟩,h⟩
theorem LH {b j pos}:PE X (.Constant (.bool b) j pos) (tC (.bl b)):=λ_ _ _ H _ I h=>Constant_bool ⟨.bl b,H,I,rfl,h⟩
theorem LI {j pos}:PE X (.Constant .none j pos) (tC .aK):=λ_ _ _ H _ I h=>o4 ⟨.aK,H,I,rfl,h⟩
theorem Fb {x j pos}:PE X (.Constant (.str x) j pos) (tC (.str x)):=λ_ _ _ H _ I h=>Calls.Constant_str ⟨.str x,H,I.tok _,⟨_,rfl⟩,h⟩
def Gl (X:Cx)(x:Str):Prop:=X.env.kindOf x=some .globalImplicit
theorem z4w (I:Inv X a c H s)(b:Gl X x)(hm:X.mg x=some u)(h:Q u s)
  (hd:Wl x:=by decide):wpAny (model X.prog X.w) X.A (eval (.Name x pos) X.env) Q E s:=
 i6 I.ok.kind b (mi (I.ok.glob▸I.mod.glob.keeps I.bk) hm h) hd
theorem z2l (I:Inv X a f H s)(b:Gl X x)(hm:X.mg x=none)(c:c9 x=some u)(h:Q u s)
  (hn:x≠"__name__":=by decide) (hd:Wl x:=by decide):wpAny (model X.prog X.w) X.A (eval (.Name x pos) X.env) Q E s:=by
 obtain⟨g,d,e⟩:=I.mod.blt;exact i6 I.ok.kind b (Calls.loadGlobal_builtin (I.ok.glob▸I.mod.glob.keeps I.bk) hm (I.ok.blt▸d.keeps I.bk) ((e x hn).trans c) h) hd
theorem LJ (a:Gl X x)(hm:X.mg x=none)(b:c9 x=some u)(r:RelV v u)(hn:x≠"__name__":=by decide)(hd:Wl x:=by decide):PE X (.Name x pos) (tC v):=λ_ _ _ H _ I h=>z2l I a hm b ⟨v,H,I,r,h⟩ hn hd
variable {a b:Expr}{ta tb:TE}{pos:Pos}
def PC (X:Cx)(op:CmpOp)(a b:Expr)(t:TE):Prop:=∀(pins:List (Addr×Obj)) (s:bc) (σ:St) (H:Hp) (Q:VK),Inv X pins σ H s->t σ H Q->wpAny (model X.prog X.w) X.A (eval a X.env) (λv Au=>wpAny (model X.prog X.w) X.A (eval b X.env) (λu Aw=>wpAny (model X.prog X.w) X.A (cw op v u) (EP X pins σ Q) X.xe Aw) X.xe Au) X.xe s
theorem Fe (b:Expr)(h:op≠.In)(a:op≠.NotIn):dt op b=false:=by
 have c:(op==CmpOp.In)=false:=by cases op<;>first|rfl|exact absurd rfl h
 have d:(op==CmpOp.NotIn)=false:=by cases op<;>first|rfl|exact absurd rfl a
 cases b<;>simp[dt,c,d]
def sD (ta:TE):TE:=λσ H Q=>ta σ H λx H1=>Q (.bl (decide (x=.aK))) H1
def Ax (ta:TE):TE:=λσ H Q=>ta σ H λx H1=>Q (.bl (!decide (x=.aK))) H1
theorem RelV.hR (r:RelV x v):(v==Value.none)=decide (x=.aK):=by
 cases x with
 |aK=>cases r;rfl
 |bl _=>cases r;rfl
 |int _=>obtain⟨t,rfl⟩:=r;rfl
 |str _=>obtain⟨t,rfl⟩:=r;rfl
 |ref _=>cases r;rfl
 |ty _=>cases r;rfl
theorem Ay {j pos'}(ha:PE X a ta):PC X .Is a (.Constant .none j pos') (sD ta):=by intro pins s σ H Q I h;exact aI (ha pins s σ H _ I h) λv s1 ⟨x,H1,I1,r1,q1⟩=>o4 (is_none_gen ⟨.bl _,H1,I1,by rw[r1.hR];rfl,q1⟩)
theorem Az {j pos'}(ha:PE X a ta):PC X .IsNot a (.Constant .none j pos') (Ax ta):=by intro pins s σ H Q I h;exact aI (ha pins s σ H _ I h) λv s1 ⟨x,H1,I1,r1,q1⟩=>o4 (isnot_none_gen ⟨.bl _,H1,I1,by rw[r1.hR];rfl,q1⟩)
def tB (t:TE):TT:=λσ H Q=>t σ H λx H1=>∃c,x=.bl c/\Q c H1
theorem Ff (h:PC X d a b t)(e:dt d b=false:=by first|exact Fe _ dc dc|rfl):PE X (.Compare a [d] [b] pos) t:=λc s f H Q I g=>wpAny_Compare1 (h c s f H Q I g) e
theorem yC (h:PC X g a b t)(f:dt g b=false:=by first|exact Fe _ dc dc|rfl):PT X (.Compare a [g] [b] pos) (tB t):=by
 intro e s i H Q I j;refine nr (aI (h e s i H _ I j) λv o f=>aI f λu p k=>aI k ?_) f
 rintro c r ⟨x,H1,l,m,n⟩
 obtain⟨d,rfl,q⟩:=n;cases m;exact fk ⟨H1,l,q⟩
variable {tA yD:TT}{rest:List Expr}
def vy (t u:TT):TT:=λσ H Q=>t σ H λc H1=>if c=true then u σ H1 Q else Q false H1
def Fg (t u:TT):TT:=λσ H Q=>t σ H λc H1=>if c=true then Q true H1 else u σ H1 Q
def vz (t:TT):TT:=λσ H Q=>t σ H λc H1=>Q (!c) H1
theorem Fh (d:PT X a tA):PW X (.BoolOp .And [a] pos) tA:=by
 intro g b s f H Q I h;refine isTrue_and (aI (d b s f H Q I h) λc i e=>?_);cases c with
 |true=>exact isTrue_and_nil e
 |false=>exact e
theorem Fi (d:PT X a tA):PW X (.BoolOp .Or [a] pos) tA:=by
 intro g b s f H Q I h;refine isTrue_or (aI (d b s f H Q I h) λc i e=>?_);cases c with
 |false=>exact isTrue_or_nil e
 |true=>exact e
theorem AA (i:PT X a tA)(j:PW X (.BoolOp .And (b::rest) pos) yD):PW X (.BoolOp .And (a::b::rest) pos) (vy tA yD):=by
 intro k d s e H Q I h;refine isTrue_and (aI (i d s e H _ I h) λc l ⟨H1,f,g⟩=>?_);cases c with
 |true=>exact j k d l e H1 Q f g
 |false=>exact⟨H1,f,g⟩
theorem AD (i:PT X a tA)(j:PW X (.BoolOp .Or (b::rest) pos) yD):PW X (.BoolOp .Or (a::b::rest) pos) (Fg tA yD):=by
 intro k d s e H Q I h;refine isTrue_or (aI (i d s e H _ I h) λc l ⟨H1,f,g⟩=>?_);cases c with
 |true=>exact⟨H1,f,g⟩
 |false=>exact j k d l e H1 Q f g
theorem Fj (d:PT X a tA):PT X (.UnaryOp .Not a pos) (vz tA):=by intro b s e H Q I h;exact isTrue_not (d b s e H (λc H1=>Q (!c) H1) I h)
def Fo (ta tb:TE):TE:=λσ H Q=>ta σ H λx H1=>∃c,x=.bl c/\if c=true then tb σ H1 Q else Q (.bl false) H1
def AE (ta tb:TE):TE:=λσ H Q=>ta σ H λx H1=>∃c,x=.bl c/\if c=true then Q (.bl true) H1 else tb σ H1 Q
theorem AF {c}(h:PE X a t):PE X (.BoolOp c [a] pos) t:=λb s d H Q I e=>BoolOp_one (h b s d H Q I e)
theorem AG (i:PE X a ta)(j:PE X (.BoolOp .And (b::rest) pos) tb):PE X (.BoolOp .And (a::b::rest) pos) (Fo ta tb):=by
 intro d s f H Q I h;refine BoolOp_and (aI (i d s f H _ I h) ?_)
 rintro v k ⟨x,H1,g,l,e⟩
 obtain⟨c,rfl,e⟩:=e;cases l;refine fk ?_;cases c with
 |true=>exact j d k f H1 Q g e
 |false=>exact⟨.bl false,H1,g,rfl,e⟩
theorem LK (i:PE X a ta)(j:PE X (.BoolOp .Or (b::rest) pos) tb):PE X (.BoolOp .Or (a::b::rest) pos) (AE ta tb):=by
 intro d s f H Q I h;refine BoolOp_or (aI (i d s f H _ I h) ?_)
 rintro v k ⟨x,H1,g,l,e⟩
 obtain⟨c,rfl,e⟩:=e;cases l;refine fk ?_;cases c with
 |false=>exact j d k f H1 Q g e
 |true=>exact⟨.bl true,H1,g,rfl,e⟩
def LL (t:TT)(ta tb:TE):TE:=λσ H Q=>t σ H λc H1=>if c=true then ta σ H1 Q else tb σ H1 Q
theorem LM (k:PT X c tA)(l:PE X a ta)(m:PE X b tb):PE X (.IfExp c a b pos) (LL tA ta tb):=by
 intro e s f H Q I h;refine wpAny_IfExp (aI (k e s f H _ I h) λd g ⟨H1,i,j⟩=>?_);cases d with
 |true=>exact l e g f H1 Q i j
 |false=>exact m e g f H1 Q i j
end
def SqL (K:W.Frag)(H:Hp)(a:Addr)(xs:List V):Prop:=Rd H a (.lst xs)\/∃(o:Obj) (eM:Array Value) (n:Nat),K.lookup a=some o/\o.cls=.type "list"/\o.dict=none/\o.data=.seq eM n/\eM.size<=ay/\Vals xs eM.toList
def cB (K:W.Frag)(H:Hp)(a:Addr)(xs:List V):Prop:=Rd H a (.tup xs)\/∃(o:Obj) (eM:Array Value) (n:Nat),K.lookup a=some o/\o.cls=.type "tuple"/\o.dict=none/\o.data=.seq eM n/\eM.size<=ay/\Vals xs eM.toList
def AH:Value->Option V
 |.none=>some .aK
 |.bool b=>some (.bl b)
 |.int i _=>some (.int i)
 |.str x _=>some (.str x)
 |.ref a=>some (.ref a)
 |.type n=>some (.ty n)
 |_=>none
theorem RelV.abs (r:RelV x u):AH u=some x:=by
 cases x with
 |aK=>cases r;rfl
 |bl _=>cases r;rfl
 |int _=>obtain⟨t,rfl⟩:=r;rfl
 |str _=>obtain⟨t,rfl⟩:=r;rfl
 |ref _=>cases r;rfl
 |ty _=>cases r;rfl
theorem RelV.inj (r:RelV x u)(q:RelV y u):x=y:=se (r.abs.symm.trans q.abs)
theorem Vals.inj {a b:List V}{c:List Value}(h:Vals a c)(g:Vals b c):a=b:=by
 induction h generalizing b with
 |nil=>cases g;rfl
 |cons r t i=>
  cases g with
  |cons d e=>rw[r.inj d,i e]
theorem SqL.of {K:W.Frag}(h:H a=some (.lst xs)):SqL K H a xs:=.inl (.inl h)
theorem cB.of {K:W.Frag}(h:H a=some (.tup xs)):cB K H a xs:=.inl (.inl h)
theorem Inv.list (I:Inv X pins σ H s)(h:SqL X.K H a xs):∃b,Vals xs b/\PlainL s.heap a b.toArray/\xs.length<=ay:=by
 rcases h with h|⟨o,b,n,c,d,hd,hs,f,r⟩
 ·obtain⟨z,b,n,r,e⟩:=h.ok I.hok;exact⟨b,r,⟨_,n,e,rfl,rfl,rfl⟩,z⟩
 ·refine⟨b.toList,r,⟨o,n,I.cM a o c,d,hd,by simpa using hs⟩,?_⟩;have e:=r.length;simp at e;omega
theorem Inv.tuple (I:Inv X pins σ H s)(h:cB X.K H a xs):∃b,Vals xs b/\IsTup s.heap a b.toArray/\xs.length<=ay:=by
 rcases h with h|⟨o,b,n,c,d,_,hs,f,r⟩
 ·obtain⟨z,b,r,p⟩:=h.ok I.hok;exact⟨b,r,p.tup,z⟩
 ·refine⟨b.toList,r,⟨o,I.cM a o c,d,n,by simpa using hs⟩,?_⟩;have e:=r.length;simp at e;omega
theorem Inv.sE (I:Inv X pins σ H s)(h:cB X.K H a xs):∃l,Vals xs l/\Lu s.heap a l.toArray/\xs.length<=ay:=by
 rcases h with h|⟨o,l,n,q,b,hd,hs,c,r⟩
 ·obtain⟨z,l,r,n,q⟩:=h.ok I.hok;exact⟨l,r,⟨_,n,q,rfl,rfl,rfl⟩,z⟩
 ·exact⟨l.toList,r,⟨o,n,I.cM a o q,b,hd,(by simpa using hs)⟩,(by have w:=r.length;simp at w;omega)⟩
theorem Inv.lO (I:Inv X pins σ H s)(h:SqL X.K H a xs)(i:SqL X.K H a ys):xs=ys:=by
 obtain⟨c,r,⟨o,n,e,_,_,d⟩,_⟩:=I.list h;obtain⟨b,j,⟨k,l,f,_,_,g⟩,_⟩:=I.list i;rw[e]at f;cases f;rw[d]at g;injection g with d1 _;have:c=b:=by simpa using congrArg Array.toList d1
 subst this;exact r.inj j
theorem Inv.jX (I:Inv X pins σ H s)(h:cB X.K H a xs)(i:cB X.K H a ys):xs=ys:=by
 obtain⟨c,r,⟨o,e,_,n,d⟩,_⟩:=I.tuple h;obtain⟨b,j,⟨k,f,_,l,g⟩,_⟩:=I.tuple i;rw[e]at f;cases f;rw[d]at g;injection g with d1 _;have:c=b:=by simpa using congrArg Array.toList d1
 subst this;exact r.inj j
abbrev Cx.fK (X:Cx)(E:Value->bc->Prop):Cx:={X with xe:=E}
abbrev Cx.vA (X:Cx):Cx:=X.fK λ_ _=>False
theorem Cx.Ok.fK {X:Cx}(ok:X.Ok)(E:Value->bc->Prop):(X.fK E).Ok:=⟨ok.mod,ok.kind,ok.glob,ok.blt,ok.above,ok.inj,ok.has,ok.qM,ok.hd,ok.frames,ok.sy,ok.jF,ok.bs,ok.jG,ok.hJ,ok.hP,ok.cF,ok.nT,ok.vq⟩
theorem Cx.Ok.cN {X:Cx}(ok:(X.fK E).Ok):X.Ok:=⟨ok.mod,ok.kind,ok.glob,ok.blt,ok.above,ok.inj,ok.has,ok.qM,ok.hd,ok.frames,ok.sy,ok.jF,ok.bs,ok.jG,ok.hJ,ok.hP,ok.cF,ok.nT,ok.vq⟩
theorem Inv.fK (I:Inv X pins σ H s)(E:Value->bc->Prop):Inv (X.fK E) pins σ H s:=⟨I.ok.fK E,I.os,I.bare,I.base,I.loc,I.cell,I.free,I.bA,I.pin,I.hok,I.len,I.fx⟩
theorem Inv.cN (I:Inv (X.fK E) pins σ H s):Inv X pins σ H s:=⟨I.ok.cN,I.os,I.bare,I.base,I.loc,I.cell,I.free,I.bA,I.pin,I.hok,I.len,I.fx⟩
theorem SP.cN (h:SP (X.fK E) pins D f c):SP X pins D f c:=by
 cases f with
 |next=>obtain⟨a,b,I,q⟩:=h;exact⟨a,b,I.cN,q⟩
 |brk=>obtain⟨a,b,I,q⟩:=h;exact⟨a,b,I.cN,q⟩
 |cont=>obtain⟨a,b,I,q⟩:=h;exact⟨a,b,I.cN,q⟩
 |ret u=>obtain⟨v,a,b,I,r,q⟩:=h;exact⟨v,a,b,I.cN,r,q⟩
theorem PSs.vA {st:List Stmt}(h:PSs X.vA st t):PSs X st t:=λpins s σ H D I a=>ek (h pins s σ H D (I.fK _) a) (λ_ _ q=>q.cN) λ_ _ z=>False.elim z
section
variable {X:Cx}{st:Stmt}{rest:List Stmt}{t u:TS}
def Fp:TS:=λD σ H=>D.nx σ H
def vB (t u:TS):TS:=λD σ H=>t {D with nx:=u D} σ H
theorem Fq:PSs X [] Fp:=λ_ _ a H _ I h=>kr ⟨a,H,I,h⟩
theorem Fs (c:PS X st t)(d:PSs X rest u):PSs X (st::rest) (vB t u):=by
 intro a s e H D I h;refine wpAny_execs_cons (aI (c a s e H {D with nx:=u D} I h) λf g q=>?_);cases f with
 |next=>obtain⟨b,i,j,q⟩:=q;exact d a g b i D j q
 |ret v=>exact q
 |brk=>exact q
 |cont=>exact q
theorem Inv.quiet (I:Inv X a b H s):interactive X.env=false:=by simp[interactive,I.ok.kind]
def sF (te:TE):TS:=λD σ H=>te σ H λ_ H1=>D.nx σ H1
theorem LN (c:PE X e te)(hs:i8 e none pos.line X.env=pure false:=by rfl):PS X (.Expr e pos) (sF te):=by intro a s b H D I h;exact wpAny_Expr_any (aI (c a s b H _ I h) λv g ⟨x,H1,d,i,f⟩=>⟨b,H1,d,f⟩) I.quiet hs
def vC (te:TE):TS:=λD σ H=>te σ H D.rt
theorem AI (c:PE X e te):PS X (.Return (some e) pos) (vC te):=by intro a s b H D I h;exact wpAny_Return_some (aI (c a s b H _ I h) λv i ⟨x,H1,d,f,g⟩=>⟨x,b,H1,d,f,g⟩)
def vD (c:TT)(t u:TS):TS:=λD σ H=>c σ H λb H1=>if b=true then t D σ H1 else u D σ H1
theorem Ft (k:PT X c tc)(l:PSs X a t)(m:PSs X b u):PS X (.If c a b pos) (vD tc t u):=by
 intro e s f H D I h;refine wpAny_If (aI (k e s f H _ I h) λd g ⟨H1,i,j⟩=>?_);cases d with
 |true=>exact l e g f H1 D i j
 |false=>exact m e g f H1 D i j
end
abbrev TG:=V->St->Hp->(St->Hp->Prop)->Prop
abbrev sG:=List V->St->Hp->(St->Hp->Prop)->Prop
def PG (X:Cx)(target:Expr)(t:TG):Prop:=∀(pins:List (Addr×Obj)) (s:bc) (σ:St) (H:Hp) (v:V) (u:Value) (Q:St->Hp->Prop),Inv X pins σ H s->RelV v u->t v σ H Q->wpAny (model X.prog X.w) X.A (pi target X.env u) (λ_ s'=>∃bP H',Inv X pins bP H' s'/\Q bP H') X.xe s
def PGs (X:Cx)(ts:List Expr)(t:sG):Prop:=∀(pins:List (Addr×Obj)) (s:bc) (σ:St) (H:Hp) (vs:List V) (us:List Value) (Q:St->Hp->Prop),Inv X pins σ H s->Vals vs us->t vs σ H Q->wpAny (model X.prog X.w) X.A (assignInOrder ((d7 ts X.env).map (·.2)) us) (λ_ s'=>∃bP H',Inv X pins bP H' s'/\Q bP H') X.xe s
abbrev AJ:=V->V->V->Hp->(Hp->Prop)->Prop
def AK (X:Cx)(t:AJ):Prop:=∀(pins:List (Addr×Obj)) (s:bc) (σ:St) (H:Hp) (o i v:V) (ov iv u:Value) (Q:Hp->Prop),Inv X pins σ H s->RelV o ov->RelV i iv->RelV v u->t o i v H Q->wpAny (model X.prog X.w) X.A (setItem ov iv u) (λ_ s'=>∃H',Inv X pins σ H' s'/\Q H') X.xe s
def uq (i:Nat):TG:=λv σ H Q=>Q (σ.set i (some v)) H
theorem AL (hN:X.N.Nodup)(b:X.N[i]?=some x)(c:Loc X.env.scope x)(hf:X.fn x=true\/X.env.scope.names.lookup x=some .local:=by first|exact .inl rfl|exact .inr rfl|assumption):PG X (.Name x pos) (uq i):=by intro a s e H v u Q I r h;exact pv (z6b I hN b c r (λf d=>⟨_,H,d,h⟩) hf)
def AM:sG:=λvs σ H Q=>vs=[]/\Q σ H
def LO (t:TG)(u:sG):sG:=λvs σ H Q=>∃v r,vs=v::r/\t v σ H λbP H'=>u r bP H' Q
theorem LP:PGs X [] AM:=by
 rintro a s b H c d Q I r ⟨rfl,h⟩
 cases r;exact assignInOrder_nil ⟨b,H,I,h⟩
theorem zgp (c:PG X e t)(d:PGs X es u)
  (hs:(d7 (e::es) X.env).map (·.2)=pi e X.env::(d7 es X.env).map (·.2):=by rfl):PGs X (e::es) (LO t u):=by
 rintro a s f H k l Q I r ⟨v,m,rfl,h⟩
 cases r with
 |cons r rr=>rw[hs];refine assignInOrder_cons (aI (c a s f H _ _ _ I r h) λ_ g ⟨b,H1,i,j⟩=>?_);exact d a g b H1 _ _ Q i rr j
def AN (K:W.Frag)(n:Nat)(t:sG):TG:=λv σ H Q=>∃a xs,v=.ref a/\cB K H a xs/\xs.length=n/\t xs σ H Q
theorem zs1 (i:X.calm=true)(h:PGs X es t)
  (hn:(d7 es X.env).length=n:=by rfl) (d:(d7 es X.env).findIdx? (·.1)=none:=by rfl):PG X (.Tuple es k pos) (AN X.K n t):=by
 rintro c s f H v u Q I r ⟨a,j,rfl,l,m,p⟩
 cases r;obtain⟨q,g,w,A⟩:=I.tuple l;refine assign_Tuple_tuple (I.ok.hd i) w (by simp[hn,<-m,g.length]) d λx y=>?_;have z:Inv X c f H {s with heap:=x}:=I.kept λb o e=>y b o (cc (bg e)) e;exact h c _ f H j _ Q z (by simpa using g) p
def oH (te:TE)(g:TG):TS:=λD σ H=>te σ H λx H1=>g x σ H1 D.nx
theorem zre (d:PE X e te)(f:PG X b g)(hs:pa [b] e pos.line X.env=pure false:=by rfl)(i:pb [b] e X.env=pure none:=by rfl)
  (j:(d7 [b] X.env).map (·.2)=[pi b X.env]:=by rfl):PS X (.Assign [b] e pos) (oH te g):=by
 intro a s c H D I h;refine wpAny_Assign_stores (aI (d a s c H _ I h) ?_) hs i
 rintro v k ⟨x,H1,l,m,n⟩
 rw[j];exact aI (f a k c H1 x v _ l m n) λ_ o q=>q
theorem zje (hN:X.N.Nodup)(c:X.N[i]?=some x)(d:Loc X.env.scope x)(f:PE X e te)(hs:i8 e (some (.Name x a)) pos.line X.env=pure false:=by rfl)(hf:X.fn x=true\/X.env.scope.names.lookup x=some .local:=by first|exact .inl rfl|exact .inr rfl|assumption):
  PS X (.Assign [.Name x a] e pos) (oH te (uq i)):=by
 intro b s g H D I h;refine wpAny_Assign_Name (aI (f b s g H _ I h) ?_) hs
 rintro v n ⟨y,H1,j,k,l⟩
 exact z6b j hN c d k (λo m=>⟨_,H1,m,l⟩) hf
def Fv (c:TT)(tb:TS):TS:=λD σ H=>∃W:Nat->St->Hp->Prop,(∃m,W m σ H)/\∀m σ H,W m σ H->c σ H λb H1=>if b=true then ∃N:St->Hp->Prop,(∀bP H',N bP H'->∃m',m'<m/\W m' bP H')/\tb {D with nx:=N,ct:=N,bk:=D.nx} σ H1 else D.nx σ H1
theorem Fw (q:fm (model X.prog X.w) X.A X.env X.xe)(x:PT X c tc)(y:PSs X g z):PS X (.While c g [] pos) (Fv tc z):=by
 rintro a s B H D I ⟨W,⟨C,E⟩,h⟩
 refine wpAny_While (codeAny_whileLoop (λn F=>∃i r,Inv X a i r F/\W n i r) ?_ C ⟨B,H,I,E⟩)
 rintro n G ⟨e,H1,J,K⟩
 refine gn q (aI (x a G e H1 _ J (h n e H1 K)) λb L ⟨t,u,k⟩=>?_);cases b with
 |true=>
  obtain⟨N,hN,k⟩:=k;refine gn q (aI (y a L e t _ u k) λf M l=>?_);cases f with
  |next=>obtain⟨d,j,m,n3⟩:=l;obtain⟨o,hm,p⟩:=hN d j n3;exact⟨o,hm,d,j,m,p⟩
  |cont=>obtain⟨d,j,m,n3⟩:=l;obtain⟨o,hm,p⟩:=hN d j n3;exact⟨o,hm,d,j,m,p⟩
  |brk=>exact l
  |ret v=>exact l
 |false=>exact kr ⟨e,t,u,k⟩
structure It where
 go:Nat->Hp->Prop
 gE:Nat->Hp->V->Hp->Prop
 stop:Nat->Hp->Prop
def FpOk (X:Cx)(pins:List (Addr×Obj))(H:Hp)(b:Addr):Prop:=H b=none/\b≠X.env.locals/\b∉X.fs/\(b∈X.ex\/X.s₀.heap.objs.size<=b)/\(∀x c,X.env.cells.lookup x=some c->c≠b)/\∀p∈X.pn++pins,p.1≠b
theorem Inv.gG (I:Inv X a h H s)(d:s.heap.objs.size<=b)(hn:f b=none):FpOk X a f b:=by
 refine⟨hn,Nat.ne_of_gt (b8 I.lt d),I.vv d,.inr (bq I.sz d),λx c e z=>?_,λp g z=>?_⟩
 ·obtain⟨v,q⟩:=I.cell x c e;exact absurd (b8 q.lt (z▸d)) (cq _)
 ·exact absurd (b8 (bg (I.pin p g).1) (z▸d)) (cq _)
structure Turn (P:cj)(w:World)(K:W.Frag)(tg:Expr)(J:It)(fp:List Addr)(it:Addr)(tn:Nat->Heap->Prop):Prop where
 mem:it∈fp
 obj:∀i h,tn i h->∀b∈fp,∃o,h.get? b=some o/\∀v,o.data≠.cell v
 keep:∀i h h',tn i h->(∀b∈fp,∀o,h.get? b=some o->h'.get? b=some o)->tn i h'
 item:∀(X:Cx),X.prog=P->X.w=w->X.K=K->X.calm=true->∀(i:Nat) (pins:List (Addr×Obj)) (s:bc) (σ:St) (H:Hp) (E:Value->bc->Prop),Inv X pins σ H s->(∀b∈fp,FpOk X pins H b)->tn i s.heap->J.go i H->wpAny (model P w) X.A (pyNext (.ref it)) (λr s1=>∃u,r=some u/\wpAny (model P w) X.A (jh tg (.ref it) u) (λ_ s2=>∃x H',Inv X pins σ H' s2/\RelV x u/\J.gE i H x H'/\tn (i+1) s2.heap/\∀b∈fp,H' b=none) E s1) E s
 done:∀(X:Cx),X.prog=P->X.w=w->X.K=K->X.calm=true->∀(i:Nat) (pins:List (Addr×Obj)) (s:bc) (σ:St) (H:Hp) (E:Value->bc->Prop),Inv X pins σ H s->(∀b∈fp,FpOk X pins H b)->tn i s.heap->J.stop i H->wpAny (model P w) X.A (pyNext (.ref it)) (λr s1=>r=none/\Inv X pins σ H s1) E s
 self:∀(A:fz) (i:Nat) (s:bc) (Q:Value->bc->Prop) (E:Value->bc->Prop),tn i s.heap->Q (.ref it) s->wpAny (model P w) A (qm (.ref it)) Q E s
abbrev TI:=St->Hp->(It->Hp->Prop)->Prop
def ur (X:Cx)(pins:List (Addr×Obj))(σ:St)(tg:Expr)(R:It->Hp->Prop)(vE:Value)(s2:bc):Prop:=∃(it:Addr) (fp:List Addr) (tn:Nat->Heap->Prop) (J:It) (H':Hp),vE=.ref it/\Inv X pins σ H' s2/\Turn X.prog X.w X.K tg J fp it tn/\tn 0 s2.heap/\(∀b∈fp,FpOk X pins H' b)/\R J H'
def PI (X:Cx)(tg iter:Expr)(wi:TI):Prop:=∀(pins:List (Addr×Obj)) (s:bc) (σ:St) (H:Hp) (R:It->Hp->Prop),Inv X pins σ H s->wi σ H R->wpAny (model X.prog X.w) X.A (eval iter X.env) (λv s1=>wpAny (model X.prog X.w) X.A (qm v) (ur X pins σ tg R) X.xe s1) X.xe s
theorem zgh (b:s.heap.get? it=some o)(c:o.cls=.type n)(hd:o.data=.fields d)
  (hn:["enumerate","zip","dict_itemiterator","dict_reverseitemiterator","odict_iterator","itertools.zip_longest","itertools.pairwise"].contains n=false) (a:Q () s):wpAny M A (jh e (.ref it) u) Q E s:=by
 cases e<;>first
  |exact bb a
  |(cases u<;>first
   |exact bb a
   |(refine ac (wpAny_load b ?_)
     rw[c,hd];show wpAny M A (if(["enumerate","zip","dict_itemiterator","dict_reverseitemiterator","odict_iterator","itertools.zip_longest","itertools.pairwise"].contains n&&d[0]?==some (kt _))=true then _ else _) Q E s;rw[rq (by intro h;rw[hn]at h;cases h)];exact bb a))
def AO (K:W.Frag)(a:Addr):It:=⟨λi H=>∃xs x,SqL K H a xs/\xs[i]?=some x,λi H x H'=>H'=H/\∀xs,SqL K H a xs->xs[i]?=some x,λi H=>∃xs,SqL K H a xs/\xs.length<=i⟩
def Fx (K:W.Frag)(a:Addr):It:=⟨λi H=>∃xs x,cB K H a xs/\xs[i]?=some x,λi H x H'=>H'=H/\∀xs,cB K H a xs->xs[i]?=some x,λi H=>∃xs,cB K H a xs/\xs.length<=i⟩
def vF (lo:Int)(n:Nat):It:=⟨λi _=>i<n,λi H x H'=>H'=H/\x=.int (lo+i),λi _=>n<=i⟩
theorem Fy {K:W.Frag}(a it:Addr):Turn P w K Y (AO K a) [it] it (λi h=>h.IsListIter it a i) where
 mem:=by simp
 obj:=λi h st b g=>by
  have e:b=it:=by simpa using g
  subst e;obtain⟨o,e,c,d⟩:=st;exact⟨o,e,λv z=>by rw[d]at z;cases z⟩
 keep:=λi h m st k=>st.at λo e=>k it (by simp) o e
 item:=by intro X n q r L i f s M H E I hf st t;subst n q r;obtain⟨N,x,l,y⟩:=t;obtain⟨A,B,p,O⟩:=I.list l;obtain⟨u,hu,Q⟩:=B.get y;obtain⟨C,D,R,F,G,J⟩:=hf it (by simp);refine wpAny_pyNext_list_item st p.isList (by simpa using hu) λm j S=>?_;have T:Inv X f M H {s with heap:=m}:=I.turned (λb o g e=>(S.2 b g).trans e) C D F G J;obtain⟨o,e,c,d⟩:=id j;exact⟨u,rfl,zgh e c d dc ⟨x,H,T,Q,⟨rfl,λys U=>by rw[I.lO U l];exact y⟩,j,λb g=>(hf b g).1⟩⟩
 done:=by intro X n q r L i f s M H E I hf st t;subst n q r;obtain⟨N,l,y⟩:=t;obtain⟨A,B,p,O⟩:=I.list l;obtain⟨C,D,R,F,G,J⟩:=hf it (by simp);have hl:=B.length;exact wpAny_pyNext_list_end (I.ok.hd L) st p.isList (by grind) λm V=>⟨rfl,I.turned (λb o g e=>V b o g e) C D F G J⟩
 self:=λ_ _ _ _ _ st h=>wpAny_pyIter_listiter st h
theorem LQ {K:W.Frag}(a it:Addr):Turn P w K Y (Fx K a) [it] it (λi h=>h.IsTupleIter it a i) where
 mem:=by simp
 obj:=λi h st b g=>by
  have e:b=it:=by simpa using g
  subst e;obtain⟨o,e,c,d⟩:=st;exact⟨o,e,λv z=>by rw[d]at z;cases z⟩
 keep:=λi h m st k=>st.at λo e=>k it (by simp) o e
 item:=by intro X n q r L i f s M H E I hf st t;subst n q r;obtain⟨N,x,l,y⟩:=t;obtain⟨A,B,p,O⟩:=I.tuple l;obtain⟨u,hu,Q⟩:=B.get y;obtain⟨C,D,R,F,G,J⟩:=hf it (by simp);refine wpAny_pyNext_tuple_item st p (by simpa using hu) λm j S=>?_;have T:Inv X f M H {s with heap:=m}:=I.turned (λb o g e=>(S.2 b g).trans e) C D F G J;obtain⟨o,e,c,d⟩:=id j;exact⟨u,rfl,zgh e c d dc ⟨x,H,T,Q,⟨rfl,λys U=>by rw[I.jX U l];exact y⟩,j,λb g=>(hf b g).1⟩⟩
 done:=by intro X n q r L i f s M H E I hf st t;subst n q r;obtain⟨N,l,y⟩:=t;obtain⟨A,B,p,O⟩:=I.tuple l;obtain⟨C,D,R,F,G,J⟩:=hf it (by simp);have hl:=B.length;exact wpAny_pyNext_tuple_end (I.ok.hd L) st p (by grind) λm V=>⟨rfl,I.turned (λb o g e=>V b o g e) C D F G J⟩
 self:=λ_ _ _ _ _ st h=>wpAny_pyIter_tupleiter st h
theorem LR {K:W.Frag}(it:Addr)(f:Int)(n:Nat):Turn P w K L (vF f n) [it] it (λi h=>IsRangeIter h it (f+(i:Nat)*1) ((n:Int)-(i:Nat)) 1) where
 mem:=by simp
 obj:=λi h st b c=>by
  have e:b=it:=by simpa using c
  subst e;exact⟨_,st,λv z=>by cases z⟩
 keep:=λi h g st k=>k it (by simp) _ st
 item:=by intro X x y A j i a s B H E I hf st l;subst x y A;obtain⟨m,p,C,q,r,u⟩:=hf it (by simp);refine(Walks.range (prog:=X.prog) (w:=X.w) (I.ok.hd j) it f 1 n).item i s _ _ l st λv g D F d kk=>?_;obtain⟨t,rfl⟩:=F;have G:Inv X a B H {s with heap:=g,toks:=D}:=I.turned (λb o c e=>kk b o (by simpa using c) e) m p q r u;refine⟨_,rfl,zgh d rfl rfl dc ⟨.int (f+i),H,G,⟨t,?_⟩,⟨rfl,rfl⟩,d,λb c=>(hf b c).1⟩⟩;rw[Int.mul_one]
 done:=by intro X x y A j i a s B H E I hf st l;obtain⟨m,p,C,q,r,u⟩:=hf it (by simp);exact wpAny_pyNext_range_end (I.ok.hd j) st (by have:n<=i:=l;omega) λg J=>⟨rfl,I.turned (λb o c e=>J b o c e) m p q r u⟩
 self:=λ_ _ _ _ _ st h=>wpAny_pyIter_rangeiter st h
def vG (K:W.Frag)(tl:TE):TI:=λσ H R=>tl σ H λx H1=>∃a,x=.ref a/\(∃xs,SqL K H1 a xs)/\R (AO K a) H1
theorem Fz (g:PE X l i):PI X tg l (vG X.K i):=by
 intro c s j H R I h;refine aI (g c s j H _ I h) ?_
 rintro v f ⟨x,H1,d,k,m⟩
 obtain⟨a,rfl,⟨u,n⟩,q⟩:=m;cases k;obtain⟨r,w,p,y⟩:=d.list n;refine lu p.isList (⟨f.heap.objs.size,[f.heap.objs.size],_,_,H1,rfl,d.kept λb o e=>ak _ e,Fy a _,⟨_,br _ rfl,rfl,rfl⟩,λb t=>?_,q⟩);have e:b=f.heap.objs.size:=by simpa using t
 subst e;exact d.gG (ah _) (d.hok.fresh (ah _))
theorem zb7 {a:Int}(I:Inv X d g H s)(h:-(2 ^ 62)<=a)(i:a<2 ^ 62)(j:-(2 ^ 62)<=c)(k:c<2 ^ 62)
  (q:R (vF a (c-a).toNat) H):wpAny (model X.prog X.w) X.A (qm (.ref s.heap.objs.size)) (ur X d g tg R) E {s with heap:=s.heap.push {cls:=.type "range",data:=.fields #[.int a t,.int c u,.int 1 v]},toks:=tk}:=by
 refine wpAny_pyIter_range (IsRange.new ..) (small_one h i j k) ?_;have f:Inv X d g H {s with heap:=s.heap.push {cls:=.type "range",data:=.fields #[.int a t,.int c u,.int 1 v]},toks:=tk}:=I.kept λb o e=>ak _ e;refine⟨(s.heap.push {cls:=.type "range",data:=.fields #[.int a t,.int c u,.int 1 v]}).objs.size,[(s.heap.push {cls:=.type "range",data:=.fields #[.int a t,.int c u,.int 1 v]}).objs.size],_,_,H,rfl,f.kept λb o e=>ak _ e,LR _ a (c-a).toNat,?_,λb l=>?_,q⟩
 ·have m:a+((0:Nat):Int)*1=a:=by simp
  have n:(((c-a).toNat:Nat):Int)-((0:Nat):Int)=Builtin.Range.rangeSize a c 1:=by rw[rangeSize_one];split<;>omega
  rw[m,n];exact br _ rfl
 ·have e:b=(s.heap.push {cls:=.type "range",data:=.fields #[.int a t,.int c u,.int 1 v]}).objs.size:=by simpa using l
  subst e;exact f.gG (ah _) (f.hok.fresh (ah _))
def LS (ta:TA):TI:=λσ H R=>ta σ H λvs H1=>∃j:Int,vs=[.int j]/\-(2 ^ 62)<=j/\j<2 ^ 62/\R (vF 0 j.toNat) H1
def LU (ta:TA):TI:=λσ H R=>ta σ H λvs H1=>∃i j:Int,vs=[.int i,.int j]/\(-(2 ^ 62)<=i/\i<2 ^ 62/\-(2 ^ 62)<=j/\j<2 ^ 62)/\R (vF i (j-i).toNat) H1
theorem LV (d:Gl X "range")(hm:X.mg "range"=none)(e:PA X [a] f)(hs:c8 [a] X.env=[(false,eval a X.env)]:=by rfl):PI X tg (.Call (.Name "range" p) [a] [] pos) (LS f):=by
 intro b s g H R I h;refine Call_ (z2l I d hm boot_range (PyProof.Rows.callWith_type1 (aI (e pos b s g H _ I h) λm n ⟨o,H1,i,k,c⟩=>?_) hs rfl));obtain⟨j,rfl,c,l,q⟩:=c;cases k with
 |cons r rr=>cases rr;obtain⟨t,rfl⟩:=r;exact call_range_1 (zb7 i (by omega) (by omega) c l (by simpa using q))
theorem zey (f:Gl X "range")(hm:X.mg "range"=none)(g:PA X [a,b] k)(hs:c8 [a,b] X.env=[(false,eval a X.env),(false,eval b X.env)]:=by rfl)(c:c8 [b] X.env=[(false,eval b X.env)]:=by rfl):
  PI X tg (.Call (.Name "range" p) [a,b] [] pos) (LU k):=by
 intro d s l H R I h;refine Call_ (z2l I f hm boot_range (PyProof.Rows.callWith_type1 (aI (g pos d s l H _ I h) λx y ⟨z,H1,m,n,e⟩=>?_) (by rw[hs,c]) (by rw[c];rfl)));obtain⟨i,j,rfl,⟨e,o,u,v⟩,q⟩:=e;cases n with
 |cons r rr=>
  cases rr with
  |cons w rr=>cases rr;obtain⟨t,rfl⟩:=r;obtain⟨A,rfl⟩:=w;exact call_range_2 (zb7 m e o u v q)
def iP (wi:TI)(g:TG)(tb:TS):TS:=λD σ H=>wi σ H λJ H1=>∃W:Nat->Nat->St->Hp->Prop,(∃m,W 0 m σ H1)/\∀i m σ H,W i m σ H->(J.stop i H/\D.nx σ H)\/(J.go i H/\∃N:St->Hp->Prop,(∀bP H',N bP H'->∃m',m'<m/\W (i+1) m' bP H')/\∀x H',J.gE i H x H'->g x σ H' λuu H2=>tb {D with nx:=N,ct:=N,bk:=D.nx} uu H2)
def z85 (fp:List Addr)(h:Heap):List (Addr×Obj):=fp.filterMap λb=>(h.get? b).map λo=>(b,o)
theorem uw (a:b∈c)(e:h.get? b=some o):(b,o)∈z85 c h:=ij.mpr ⟨b,a,by rw[e];rfl⟩
theorem LW (a:p∈z85 c h):p.1∈c/\h.get? p.1=some p.2:=by
 obtain⟨b,d,e⟩:=ij.mp a;cases q:h.get? b with
 |none=>rw[q]at e;cases e
 |some o=>rw[q]at e;have f:=se e;subst f;exact⟨d,q⟩
theorem Inv.pinned (I:Inv X a h H s)(hf:∀b∈c,FpOk X a H b)(i:∀b∈c,∃o,s.heap.get? b=some o/\∀v,o.data≠.cell v):Inv X (a++z85 c s.heap) h H s:=I.gD λp j=>(b6.mp j).elim (λz=>I.pin p (bo _ z)) λz=>by obtain⟨f,e⟩:=LW z;obtain⟨k,l,m,_⟩:=hf p.1 f;obtain⟨o,g,d⟩:=i p.1 f;rw[e]at g;cases g;exact⟨e,k,l,m,d⟩
theorem Inv.bX (I:Inv X (a++pl) b H s):Inv X a b H s:=I.gD λp c=>I.pin p (bo _ (ee _ c))
theorem zam (F:fm (model X.prog X.w) X.A X.env X.xe)(V:X.calm=true)(hi:PI X tg B wi)(hg:PG X tg g)(j:PSs X G tb)
  (hs:∀x,fq B X.env x=pure x:=by intro _;rfl):PS X (.For tg B G [] pos) (iP wi g tb):=by
 intro a s Y H D I h;refine wpAny_For (aI (hi a s Y H _ I h) λv s1 h1=>aI h1 λvE s2 h2=>?_) hs;obtain⟨it,K,tn,J,H2,rfl,I2,T,Q,f2,W,⟨m0,w0⟩,L⟩:=h2;have k:∀{z:Hp},(∀b∈K,z b=none)->∀b∈K,FpOk X a z b:=λhn b j=>⟨hn b j,(f2 b j).2⟩;refine codeAny_forLoop_any (λn s'=>∃i l z,Inv X a l z s'/\tn i s'.heap/\(∀b∈K,z b=none)/\W i n l z) ?_ m0 ⟨0,Y,H2,I2,Q,λb j=>(f2 b j).1,w0⟩
 rintro n s3 ⟨i,p,P,I3,M,O,w3⟩
 rcases L i n p P w3 with⟨stop,qn⟩|⟨go,N,hN,step⟩
 ·refine gn F (aI (T.done X rfl rfl rfl V i a s3 p P X.xe I3 (k O) M stop) λr s4 ⟨hr,I4⟩=>?_);subst hr;exact kr ⟨p,P,I4,qn⟩
 ·refine gn F (aI (T.item X rfl rfl rfl V i a s3 p P X.xe I3 (k O) M go) λr s4 ⟨u,hr,h4⟩=>?_);subst hr;refine gn F (aI h4 ?_)
  rintro _ s5 ⟨x,H5,I5,r5,y5,E,R⟩
  refine gn F (aI (hg _ s5 p H5 x u _ (I5.pinned (k R) (T.obj _ _ E)) r5 (step x H5 y5)) λ_ s6 ⟨S,H6,I6,q6⟩=>?_);refine gn F (aI (j _ s6 S H6 _ I6 q6) λf U C=>?_);have q:∀{c:St} {t:Hp},Inv X (a++z85 K s5.heap) c t U->N c t->∃m,m<n/\∃i l z,Inv X a l z U/\tn i U.heap/\(∀b∈K,z b=none)/\W i m l z:=λ{c t} y n7=>by obtain⟨m',hm,w7⟩:=hN c t n7;refine⟨m',hm,i+1,c,t,y.bX,T.keep _ _ _ E λb j o e=>(y.pin (b,o) (bo _ (bo _ (uw j e)))).1,λb j=>?_,w7⟩;obtain⟨o,e,d⟩:=T.obj _ _ E b j;exact(y.pin (b,o) (bo _ (bo _ (uw j e)))).2.1
  cases f with
  |next=>obtain⟨c,t,y,n7⟩:=C;exact q y n7
  |cont=>obtain⟨c,t,y,n7⟩:=C;exact q y n7
  |brk=>obtain⟨c,t,y,C⟩:=C;exact⟨c,t,y.bX,C⟩
  |ret v=>obtain⟨x7,c,t,y,r7,C⟩:=C;exact⟨x7,c,t,y.bX,r7,C⟩
abbrev R2:=V->V->Hp->VK->Prop
def OpR (X:Cx)(f:Value->Value->Sem Value)(r:R2):Prop:=∀(pins:List (Addr×Obj)) (s:bc) (σ:St) (H:Hp) (x y:V) (v u:Value) (Q:VK),Inv X pins σ H s->RelV x v->RelV y u->r x y H Q->wpAny (model X.prog X.w) X.A (f v u) (EP X pins σ Q) X.xe s
def AQ (X:Cx)(f:Value->Sem Value)(r:V->Hp->VK->Prop):Prop:=∀(pins:List (Addr×Obj)) (s:bc) (σ:St) (H:Hp) (x:V) (v:Value) (Q:VK),Inv X pins σ H s->RelV x v->r x H Q->wpAny (model X.prog X.w) X.A (f v) (EP X pins σ Q) X.xe s
def CallR (X:Cx)(f:Value)(r:List V->Hp->VK->Prop):Prop:=∀(pins:List (Addr×Obj)) (s:bc) (σ:St) (H:Hp) (xs:List V) (us:List Value) (Q:VK),Inv X pins σ H s->Vals xs us->r xs H Q->wpAny (model X.prog X.w) X.A (call f us) (EP X pins σ Q) X.xe s
def AR (X:Cx)(r:V->Hp->(Bool->Hp->Prop)->Prop):Prop:=∀(pins:List (Addr×Obj)) (s:bc) (σ:St) (H:Hp) (x:V) (v:Value) (Q:Bool->Hp->Prop),Inv X pins σ H s->RelV x v->r x H Q->wpAny (model X.prog X.w) X.A (truthy v) (TP X pins σ Q) X.xe s
def jH (r:R2)(ta tb:TE):TE:=λσ H Q=>ta σ H λx H1=>tb σ H1 λy H2=>r x y H2 Q
def LX (r:V->Hp->VK->Prop)(ta:TE):TE:=λσ H Q=>ta σ H λx H1=>r x H1 Q
def rI (C:Int->Int->Prop)(g:Int->Int->V):R2:=λx y H Q=>∃i j,x=.int i/\y=.int j/\C i j/\Q (g i j) H
def kW (g:Int->Int->V):R2:=λx y H Q=>∃i j,x=.int i/\y=.int j/\Q (g i j) H
def rU (g:Int->V):V->Hp->VK->Prop:=λx H Q=>∃i,x=.int i/\Q (g i) H
theorem binT (j:PE X a ta)(k:PE X b tb){R:V->V->Hp->Prop}(I:Inv X pins d H s)
  (h:ta d H λx H1=>tb d H1 λy c=>R x y c) {f:Value->Value->Sem Value}
  (hf:∀v u i x y c,Inv X pins d c i->RelV x v->RelV y u->R x y c->wpAny (model X.prog X.w) X.A (f v u) Q X.xe i):
  wpAny (model X.prog X.w) X.A (eval a X.env) (λv e=>wpAny (model X.prog X.w) X.A (eval b X.env) (λu g=>wpAny (model X.prog X.w) X.A (f v u) Q X.xe g) X.xe e) X.xe s:=by
 exact aI (j pins s d H _ I h) λv l ⟨x,H1,m,n,o⟩=>aI (k pins l d H1 _ m o) λu i ⟨y,c,p,q,r⟩=>hf v u i x y c p n q r
theorem LY (d:OpR X (fy e) r)(f:PE X a ta)(g:PE X b tb):PE X (.BinOp a e b pos) (jH r ta tb):=by intro c s i H Q I h;exact wpAny_BinOp (binT f g I h λv u j x y k l m n q=>d c j i k x y v u Q l m n q)
theorem LZ (d:AQ X (unaryOp e) r)(f:PE X a ta):PE X (.UnaryOp e a pos) (LX r ta):=by intro b s c H Q I h;exact UnaryOp_ (aI (f b s c H _ I h) λv g ⟨x,H1,i,j,k⟩=>d b g c H1 x v Q i j k)
theorem opI {g:Int->Int->Int}
  (a:∀i j t u s Q E,C i j->Q (.int (g i j) s.toks) {s with toks:=s.toks+1}->wpAny (model X.prog X.w) X.A (f (.int i t) (.int j u)) Q E s):
  OpR X f (rI C λi j=>.int (g i j)):=by
 rintro b s k H x y v u Q I c d ⟨i,j,rfl,rfl,e,q⟩
 obtain⟨t,rfl⟩:=c;obtain⟨h,rfl⟩:=d;exact a i j t h s _ _ e ⟨.int (g i j),H,I.tok _,⟨_,rfl⟩,q⟩
theorem opI0 {g:Int->Int->Int}
  (a:∀i j t u s Q E,Q (.int (g i j) s.toks) {s with toks:=s.toks+1}->wpAny (model X.prog X.w) X.A (f (.int i t) (.int j u)) Q E s):
  OpR X f (kW λi j=>.int (g i j)):=by
 rintro b s h H x y v u Q I c d ⟨i,j,rfl,rfl,q⟩
 obtain⟨t,rfl⟩:=c;obtain⟨e,rfl⟩:=d;exact a i j t e s _ _ ⟨.int (g i j),H,I.tok _,⟨_,rfl⟩,q⟩
theorem opB0 {g:Int->Int->Bool}
  (a:∀i j t u s Q E,Q (.bool (g i j)) s->wpAny (model X.prog X.w) X.A (f (.int i t) (.int j u)) Q E s):
  OpR X f (kW λi j=>.bl (g i j)):=by
 rintro b s h H x y v u Q I c d ⟨i,j,rfl,rfl,q⟩
 obtain⟨t,rfl⟩:=c;obtain⟨e,rfl⟩:=d;exact a i j t e s _ _ ⟨.bl (g i j),H,I,rfl,q⟩
def AS (i j:Int):Prop:=0<=j/\j<=1000000/\i.natAbs<2 ^ 64
def sH (i j:Int):Prop:=(-(2 ^ 64)<i/\i<2 ^ 64)\/(-(2 ^ 64)<j/\j<2 ^ 64)
theorem sH.ok (h:sH i j):IntMulOk i j:=by
 rcases h with⟨a,b⟩|⟨a,b⟩
 ·exact .of_left (intBits_le_64 a b)
 ·exact .of_right (intBits_le_64 a b)
theorem L0:OpR X (fy .Add) (kW λi j=>.int (i+j)):=opI0 λ_ _ _ _ _ _ _ q=>add_int q
theorem L1:OpR X (fy .Sub) (kW λi j=>.int (i-j)):=opI0 λ_ _ _ _ _ _ _ q=>sub_int q
theorem L3:OpR X (fy .Mult) (rI sH λi j=>.int (i*j)):=opI λ_ _ _ _ _ _ _ a q=>mul_int q a.ok
theorem L4:OpR X (fy .Mod) (rI (λ_ j=>0<j) λi j=>.int (i%j)):=opI λi j _ _ _ _ _ a q=>by exact mod_int' (by omega) (by rw[Int.fmod_eq_emod_of_nonneg i (by omega)];exact q)
theorem L5:OpR X (fy .Pow) (rI AS λi j=>.int (i ^ j.toNat)):=opI λ_ _ _ _ _ _ _ a q=>pow_int_small a.1 a.2.1 a.2.2 q
theorem unI {g:Int->Int}
  (a:∀i t s Q E,Q (.int (g i) s.toks) {s with toks:=s.toks+1}->wpAny (model X.prog X.w) X.A (f (.int i t)) Q E s):
  AQ X f (rU λi=>.int (g i)):=by
 rintro b s d H x v Q I c ⟨i,rfl,q⟩
 obtain⟨t,rfl⟩:=c;exact a i t s _ _ ⟨.int (g i),H,I.tok _,⟨_,rfl⟩,q⟩
theorem L6:AQ X (unaryOp .USub) (rU λi=>.int (-i)):=unI λ_ _ _ _ _ q=>neg_int q
theorem FC (I:Inv X pins σ H s)(q:Q (.bl k) H)(e:k=k'):EP X pins σ Q (.bool k') s:=by subst e;exact⟨.bl k,H,I,rfl,q⟩
theorem L7:OpR X (cw .Lt) (kW λi j=>.bl (decide (i<j))):=opB0 λ_ _ _ _ _ _ _ q=>lt_int q
theorem L8:OpR X (cw .LtE) (kW λi j=>.bl (decide (i<=j))):=opB0 λ_ _ _ _ _ _ _ q=>le_int q
theorem L9:OpR X (cw .Gt) (kW λi j=>.bl (decide (j<i))):=opB0 λ_ _ _ _ _ _ _ q=>gt_int q
theorem L':OpR X (cw .Lt) (λx y H Q=>∃i j,x=.str i/\y=.str j/\Q (.bl (decide (i.cps.toList<j.cps.toList))) H):=by
 rintro a s d H x y v u Q I b c ⟨i,j,rfl,rfl,q⟩
 obtain⟨t,rfl⟩:=b;obtain⟨e,rfl⟩:=c;exact lt_str (FC I q rfl)
theorem Ma:OpR X (cw .In) (λx y H Q=>∃i j,x=.str i/\y=.str j/\Q (.bl (!(g6 j i 0 j.length 1).isEmpty)) H):=by
 rintro a s d H x y v u Q I b c ⟨i,j,rfl,rfl,q⟩
 obtain⟨t,rfl⟩:=b;obtain⟨e,rfl⟩:=c;exact in_str (FC I q rfl)
theorem OpR.or (h:OpR X f r)(e:OpR X f g):OpR X f (λx y H Q=>r x y H Q\/g x y H Q):=by
 intro a s b H x y v u Q I c d q;rcases q with q|q
 ·exact h a s b H x y v u Q I c d q
 ·exact e a s b H x y v u Q I c d q
theorem FD (e:OpR X (cw d) r)(f:PE X a ta)(g:PE X b tb)(hm:dt d b=false):PE X (.Compare a [d] [b] pos) (jH r ta tb):=by intro c s i H Q I h;exact wpAny_Compare1 (binT f g I h λv u j x y k l m n q=>e c j i k x y v u Q l m n q) hm
def qO (t:TE):TT:=λσ H Q=>t σ H λx H'=>∃k,x=.bl k/\Q k H'
theorem FE (i:OpR X (cw g) r)(j:PE X a ta)(l:PE X b tb)(hm:dt g b=false):PT X (.Compare a [g] [b] pos) (qO (jH r ta tb)):=by intro d s f H Q I h;refine nr (aI (j d s f H _ I h) λv m ⟨x,H1,n,o,p⟩=>aI (l d m f H1 _ n p) λu q ⟨y,t,w,A,B⟩=>aI (i d q f t x y v u _ w o A B) λc G ⟨z,C,D,E,k,e,F⟩=>?_) hm;subst e;cases E;exact fk ⟨C,D,F⟩
def AU (r r':R2)(ta tb tc:TE):TE:=λσ H Q=>ta σ H λx H1=>tb σ H1 λy H2=>r x y H2 λz H3=>∃k,z=.bl k/\(if k=true then tc σ H3 λw' H4=>r' y w' H4 Q else Q (.bl false) H3)
theorem zg4 (q:OpR X (cw l) r)(j:OpR X (cw g) t)(w:PE X a ta)(A:PE X b tb)(B:PE X c tc)
  (hm:lastMarks [l,g] [b,c]=false:=by with_unfolding_all rfl):PT X (.Compare a [l,g] [b,c] pos) (qO (AU r t ta tb tc)):=by
 intro f s i H Q I h;refine isTrue_chain (aI (w f s i H _ I h) λv C ⟨x,H1,D,E,F⟩=>test_link (aI (A f C i H1 _ D F) λu G ⟨y,J,K,m,L⟩=>aI (q f G i J x y v u _ K E m L) λd M ⟨z,n,o,N,k,e,p⟩=>?_)) hm;subst e;cases N;refine fk ?_;cases k with
 |false=>obtain⟨k',O,P⟩:=p;cases O;exact ite_ff ⟨n,o,P⟩
 |true=>
  refine ite_tt (test_last (aI (B f M i n _ o p) λR S ⟨T,U,V,W,Y⟩=>aI (j f S i U y T u R _ V m W Y) ?_))
  rintro d' s5 ⟨z2,Z,I5,r5,k2,e2,q5⟩
  subst e2;cases r5;exact fk ⟨Z,I5,q5⟩
def lP (K:W.Frag)(x:V)(H:Hp)(k:Bool):Prop:=
 match x with
 |.aK=>k=false
 |.bl b=>k=b
 |.int i=>k=(i != 0)
 |.str y=>y.length<=ay/\k=((y.length:Int) != 0)
 |.ref p=>(∃xs,SqL K H p xs/\k=!xs.isEmpty)\/(∃xs,cB K H p xs/\k=!xs.isEmpty)\/∃kvs,H p=some (.dK kvs)/\k=!kvs.isEmpty
 |_=>False
theorem Mb (r:KV kvs vs):(!vs.isEmpty)=!kvs.isEmpty:=by cases r<;>rfl
theorem FF (r:Vals xs eM):(!eM.toArray.isEmpty)=!xs.isEmpty:=by cases r<;>simp
theorem sI:(ay:Nat)<2 ^ 63:=by rw[ci];decide
theorem FG:AR X (λx H Q=>∃k,lP X.K x H k/\Q k H):=by
 rintro h s o H x v Q I d ⟨k,e,q⟩
 have u:=sI;cases x with
 |aK=>cases d;have a:=e;subst a;exact truthy_none ⟨H,I,q⟩
 |bl b=>cases d;have a:=e;subst a;exact fk ⟨H,I,q⟩
 |int i=>obtain⟨t,rfl⟩:=d;have a:=e;subst a;exact PySem.P.truthy_int ⟨H,I,q⟩
 |str y=>obtain⟨t,rfl⟩:=d;obtain⟨w,rfl⟩:=e;exact PySem.P.truthy_str (by omega) ⟨H,I.tok _,q⟩
 |ref p=>
  cases d;have a:=e;rcases a with⟨l,f,a⟩|⟨l,f,a⟩|⟨kvs,f,a⟩
  ·subst a;obtain⟨g,r,pl,j⟩:=I.list f;have c:=r.length;exact wpAny_truthy_list pl.isList (by grind) ⟨H,I.tok _,by rw[FF r];exact q⟩
  ·subst a;obtain⟨g,r,pl,j⟩:=I.tuple f;have c:=r.length;exact truthy_tuple pl (by grind) ⟨H,I.tok _,by rw[FF r];exact q⟩
  ·subst a;obtain⟨j,n,z,r,m⟩:=I.hok p _ f;have c:=Paired.length r;exact wpAny_truthy_dict n m (by omega) ⟨H,I.tok _,by rw[Mb r];exact q⟩
 |_=>exact e.elim
theorem z9q (f:PE X a ta)(g:∀b,ql a X.env b=(do let v <-b;standAt a.pos;holding [v] (truthy v))):
  PT X a (λd H Q=>ta d H λx e=>∃k,lP X.K x e k/\Q k e):=by
 intro c s d H Q I h;exact isTrue_plain (aI (f c s d H _ I h) λv i ⟨x,H1,j,l,m⟩=>FG c i d H1 x v Q j l m) (g _)
theorem Me:OpR X (fy .Add) (λx y H Q=>∃i j,x=.str i/\y=.str j/\i.length+j.length<=ay/\Q (.str (i++j)) H):=by
 rintro a s f H x y v u Q I b c ⟨i,j,rfl,rfl,d,q⟩
 obtain⟨t,rfl⟩:=b;obtain⟨e,rfl⟩:=c;exact add_str (λe g=>⟨.str (i++j),H,I.tok _,⟨_,rfl⟩,q⟩) d
theorem vals1 (r:Vals [x] us):∃u,us=[u]/\RelV x u:=by
 cases r with
 |cons a b=>cases b;exact⟨_,rfl,a⟩
theorem vals2 (r:Vals [x,y] us):∃u a,us=[u,a]/\RelV x u/\RelV y a:=by
 cases r with
 |cons b c=>
  cases c with
  |cons d e=>cases e;exact⟨_,_,rfl,b,d⟩
theorem Mf (d:X.calm=true):CallR X (.builtin "min") (λb H Q=>∃i j,b=[.int i,.int j]/\Q (.int (if j<i then j else i)) H):=by
 rintro c s e H b f Q I r ⟨i,j,rfl,q⟩
 obtain⟨u,g,rfl,⟨t,rfl⟩,h,rfl⟩:=vals2 r;refine min_two_ints (I.ok.hd d) λl m k=>⟨_,H,I.kept k,?_,q⟩;by_cases a:j<i
 ·rw[rj a,rj a];exact⟨_,rfl⟩
 ·rw[rq a,rq a];exact⟨_,rfl⟩
theorem Mg:CallR X (.type "int") (λa H Q=>(∃i,a=[.int i]/\Q (.int i) H)\/∃k,a=[.bl k]/\Q (.int (if k then 1 else 0)) H):=by
 intro b s c H a d Q I r h;rcases h with⟨i,rfl,q⟩|⟨k,rfl,q⟩
 ·obtain⟨u,rfl,t,rfl⟩:=vals1 r;exact call_int_int ⟨.int i,H,I,⟨_,rfl⟩,q⟩
 ·obtain⟨u,rfl,rfl⟩:=vals1 r;exact call_int_bool ⟨.int (if k then 1 else 0),H,I.tok _,⟨_,rfl⟩,q⟩
structure ObjM (h:Heap)(x dx C:Addr)(mA:Str->Option Value):Prop where
 obj:h.get? x=some (W.instObj C dx)
 ns:h.Ns1 dx mA
 ne:dx≠x
theorem Mh {h:Heap}(n:h.Ns1 dx d):∃od,h.get? dx=some od/\∀b,W.lookIn b od=some (d b):=by
 obtain⟨o,es,ep,f,hd,g,_,hm⟩:=n;refine⟨o,f,λb=>?_⟩;have e:=hm b;unfold nsFind findBy at e;rw[<-pj]at e;unfold W.lookIn;rw[hd]
 dsimp only
 split
 ·rename_i y q;rw[q]at e;exact congrArg some e
 ·rename_i q;rw[q]at e;have a:es.toList.any (·.refKey)=false:=by rw[List.any_eq_false];intro y i;obtain⟨z,t,c⟩:=g y (Array.mem_toList_iff.mp i);simp[DictEntry.refKey,c]
  rw[rq (a▸dq)];exact congrArg some e
theorem ObjM.look (I:ObjM h x dx C b):∃od,W.InstAt h x (W.instObj C dx) C (some od)/\∀a,W.lookIn a od=some (b a):=
 let⟨od,ho,hl⟩:=Mh I.ns
 ⟨od,⟨I.obj,rfl,rfl,ho⟩,hl⟩
section
variable {prog:cj}{w:World}{A:fz}{E:Value->bc->Prop}{s:bc}{K:W.Frag}{x dx C f:Addr}{mA:Str->Option Value}{name:Str}{v:Value}
theorem zl5 (X:K.In s.heap)(I:ObjM s.heap x dx C mA)(b:W.plainGet K C name=true)(hh:W.hasDictIn K C=true)
  (c:W.findIn K (.ref C) name=some none) (d:mA name=some v) (a:W.handedIn v=true) (h:Q v {s with toks:=s.toks+1}):
  wpAny (model prog w) A (ri (.ref x) name expr) Q E s:=by
 obtain⟨od,J,e⟩:=I.look;exact W.get_value X J (W.plainGet_of b).1 (W.findObj_own hh c rfl (by rw[e,d])) a h
theorem zhq (X:K.In s.heap)(I:ObjM s.heap x dx C mA)(a:W.plainGet K C name=true)
  (hf:W.findIn K (.ref C) name=some (some (.ref f))) (b:W.isFn K (.ref f)=true) (c:mA name=none) (h:Q (.ref f,[.ref x]) s):
  wpAny (model prog w) A (getMethod (.ref x) name pl) Q E s:=by
 obtain⟨od,J,d⟩:=I.look;exact W.method_fn X J (W.plainGet_of a).1 (W.plainGet_of a).2 hf (sj b) (by show(W.lookIn name od).map (·.isSome)=some false;rw[d,c];rfl) h
theorem zmi (X:K.In s.heap)(I:ObjM s.heap x dx C mA)
  (hs:W.findIn K (.ref C) "__setattr__"=some (some (.builtin "object.__setattr__"))) (i:W.plainOver K C=true) (j:W.takerIn K C name=some none) (hh:W.hasDictIn K C=true)
  (k:PySem.Within mA ns) (l:ns.length<=ay)
  (h:∀d,ObjM d x dx C (λy=>if y=name then some v else mA y)->gb dx s.heap d->Q () {s with heap:=d,toks:=s.toks+2}):
  wpAny (model prog w) A (setAttr (.ref x) name v) Q E s:=by
 obtain⟨od,J,p⟩:=I.look;refine W.set_plain X J hs (W.osa_open X J i j λb=>?_);obtain⟨cd,m,e⟩:=W.any_some hh;refine ac (bb (ac (ac (wpAny_loadPart I.obj (ac (W.Looks.here (W.looks_clsIn X m) ?_))))));rw[e];refine bb (ac (bb (ac ?_)));refine wpAny_nsSet1 I.ns λd a c=>?_;obtain⟨q,n,o,f,gZ,g⟩:=a.count (PySem.Within.cons name v k);refine ac (wpAny_lookBehind f (gZ▸pastItsLine_dict (bq g (by grind))) ?_);exact bb (h _ ⟨(c.2 _ (Ne.symm I.ne)).trans I.obj,a,I.ne⟩ c)
theorem zhj (X:K.In s.heap)(hm:W.makesIn K C=true)
  (c:W.findIn K (.ref C) "__init__"=some (some (.ref f))) (hf:W.typeIn K (.ref f)=some (.type "function"))
  (h:i9 (model prog w) (A.under (.builtin "type.__call__" ⟨.ref C::a,b⟩)) (.call (.ref f) ⟨.ref (s.heap.objs.size+1)::a,b⟩) (W.InitBack (s.heap.objs.size+1) R)
   {s with heap:=(s.heap.push W.emptyDict).push (W.instObj C s.heap.objs.size)}):
  i9 (model prog w) A (.call (.ref C) ⟨a,b⟩) R s:=by
 exact W.make_core (W.makes_of X hm) (W.looks_findIn X c) (λself=>W.bind_fn X self hf) (.inl rfl) h
end
def bT (f:Str)(v:V):List (Str×V)->List (Str×V)
 | []=>[(f,v)]
 |(g,x)::r=>if g=f then(g,v)::r else(g,x)::bT f v r
theorem FH (f g:Str)(v:V):∀fs,(bT f v fs).lookup g=if g=f then some v else fs.lookup g
 | []=>by
  show jr g [(f,v)]=_;by_cases h:g=f
  ·have a:(g==f)=true:=beq_iff_eq.mpr h;simp only[jr,a,rj h]
  ·have a:(g==f)=false:=beq_eq_false_iff_ne.mpr h;simp only[jr,a,rq h]
 |(k,x)::r=>by
  rw[show bT f v ((k,x)::r)=(if k=f then(k,v)::r else(k,x)::bT f v r)from rfl];by_cases b:k=f
  ·rw[rj b];by_cases h:g=k
   ·have a:(g==k)=true:=beq_iff_eq.mpr h;simp only[jr,a,rj (h.trans b)]
   ·have a:(g==k)=false:=beq_eq_false_iff_ne.mpr h;simp only[jr,a,rq (λe:g=f=>h (e.trans b.symm))]
  ·rw[rq b];by_cases h:g=k
   ·have a:(g==k)=true:=beq_iff_eq.mpr h;simp only[jr,a,rq (λe:g=f=>b (h.symm.trans e))]
   ·have a:(g==k)=false:=beq_eq_false_iff_ne.mpr h;simp only[jr,a];exact FH f g v r
theorem AV (f:Str)(v:V):∀fs,f∈(bT f v fs).map (·.1)/\∀g,g∈fs.map (·.1)->g∈(bT f v fs).map (·.1)
 | []=>⟨by simp[bT],λg h=>by simp at h⟩
 |(k,x)::r=>by
  obtain⟨b,c⟩:=AV f v r;rw[show bT f v ((k,x)::r)=(if k=f then(k,v)::r else(k,x)::bT f v r)from rfl];by_cases a:k=f
  ·rw[rj a];subst a;exact⟨by simp,λg h=>by simpa using h⟩
  ·rw[rq a];refine⟨?_,λg h=>?_⟩
   ·rw[bj];exact ba _ b
   ·rw[bj]at h ⊢;rcases az.mp h with e|e
    ·exact az.mpr (.inl e)
    ·exact ba _ (c g e)
theorem FI (f:Str)(v:V):∀fs,(bT f v fs).length<=fs.length+1
 | []=>by simp[bT]
 |(k,x)::r=>by
  have b:=FI f v r;rw[show bT f v ((k,x)::r)=(if k=f then(k,v)::r else(k,x)::bT f v r)from rfl];by_cases a:k=f
  ·rw[rj a,bd,bd];omega
  ·rw[rq a,bd,bd];omega
theorem cA.some_of (r:cA (some v) o):∃u,o=some u/\RelV v u:=by
 cases o with
 |none=>exact r.elim
 |some u=>exact⟨u,rfl,r⟩
theorem cA.none_of (r:cA none o):o=none:=by
 cases o with
 |none=>rfl
 |some u=>exact r.elim
theorem FJ (r:RelV v u):W.handedIn u=true:=by
 cases v with
 |aK=>cases r;rfl
 |bl b=>cases r;rfl
 |int i=>obtain⟨t,e⟩:=r;cases e;rfl
 |str x=>obtain⟨t,e⟩:=r;cases e;rfl
 |ref a=>cases r;rfl
 |ty n=>cases r;rfl
theorem yE (hok:HOk P w H h)(e:H a=some (.ins C dx fs)):∃b,ObjM h a dx C b/\(∀f,cA (fs.lookup f) (b f))/\PySem.Within b (fs.map (·.1))/\fs.length<=1000/\H dx=some (.own a):=by obtain⟨d,z,ne,ob,b,n,r,q⟩:=(hok a _ e);exact⟨b,⟨ob,n,ne⟩,r,q,z,d⟩
structure Cls (K:W.Frag)(C:Addr):Prop where
 pg:W.plainGet K C Str.empty=true
 hd:W.hasDictIn K C=true
 po:W.plainOver K C=true
 sa:W.findIn K (.ref C) "__setattr__"=some (some (.builtin "object.__setattr__"))
theorem Cls.get {K:W.Frag}(c:Cls K C)(f:Str):W.plainGet K C f=true:=c.pg
def z1x (K:W.Frag)(C:Addr)(f:Str):Prop:=W.findIn K (.ref C) f=some none
theorem z1x.vH {K:W.Frag}(n:z1x K C f):W.takerIn K C f=some none:=by unfold W.takerIn;rw[show W.findIn K (.ref C) f=some none from n];rfl
structure Meth (K:W.Frag)(C:Addr)(m:Str)(f:Addr):Prop where
 at_:W.findIn K (.ref C) m=some (some (.ref f))
 fn:W.isFn K (.ref f)=true
 kp:W.keepIn K (.ref f)=true
theorem zbm (I:Inv X pins σ H s)(e:H a=some (.ins C dx fs))(c:Cls X.K C)(n:z1x X.K C f)(l:fs.lookup f=some v)
  (h:∀u d,Inv X pins σ H d->RelV v u->Q u d):wpAny (model X.prog X.w) A (ri (.ref a) f b) Q E s:=by
 obtain⟨i,O,r,_,_,_⟩:=yE I.hok e;obtain⟨u,hu,g⟩:=cA.some_of (l▸r f);exact zl5 I.cM O (c.get f) c.hd n hu (FJ g) (h u _ (I.tok _) g)
theorem zbs (I:Inv X pins σ H s)(e:H a=some (.ins C dx fs))(c:Cls X.K C)(k:Meth X.K C m g)(l:fs.lookup m=none)
  (h:Q (.ref g,[.ref a]) s):wpAny (model X.prog X.w) A (getMethod (.ref a) m pl) Q E s:=by
 obtain⟨b,O,r,_,_,_⟩:=yE I.hok e;exact zhq I.cM O (c.get m) k.at_ k.fn (cA.none_of (l▸r m)) h
theorem zc2 (I:Inv X pins σ H s)(e:H a=some (.ins C dx fs))(c:Cls X.K C)(n:z1x X.K C f)(v:fs.length<1000)(l:RelV y u)
  (h:∀i,Inv X pins σ (upd H a (.ins C dx (bT f y fs))) i->Q () i):wpAny (model X.prog X.w) A (setAttr (.ref a) f u) Q E s:=by
 obtain⟨j,O,r,wi,_,k⟩:=yE I.hok e;refine zmi I.cM O c.sa c.po n.vH c.hd wi (by rw[am,ci];omega) λx d m=>h _ (I.write (e▸True.intro) (.inr k) (λb q p z=>(m.2 b p).trans z) (let⟨o,_,_,e',_⟩:=d.ns;⟨o,e'⟩) ⟨by rw[aE O.ne];exact k,?_,O.ne,d.obj,_,d.ns,λg=>?_,λg t=>?_⟩)
 ·have:=FI f y fs;omega
 ·show cA ((bT f y fs).lookup g) (if g=f then some u else j g);rw[FH];by_cases q:g=f
  ·rw[rj q,rj q];exact l
  ·rw[rq q,rq q];exact r g
 ·by_cases q:g=f
  ·rw[q];exact(AV f y fs).1
  ·refine(AV f y fs).2 g (wi g λz=>t ?_);show(if g=f then some u else j g)=none;rw[rq q];exact z
theorem Inv.made (I:Inv X pins σ H s):Inv X pins σ (upd (upd H s.heap.objs.size (.own (s.heap.objs.size+1))) (s.heap.objs.size+1) (.ins C s.heap.objs.size []))
  {s with heap:=(s.heap.push W.emptyDict).push (W.instObj C s.heap.objs.size)}:=by
 have a:(s.heap.push W.emptyDict).get? s.heap.objs.size=some W.emptyDict:=br s.heap rfl
 have c:((s.heap.push W.emptyDict).push (W.instObj C s.heap.objs.size)).get? (s.heap.objs.size+1)=some (W.instObj C s.heap.objs.size):=by
  have:=br (s.heap.push W.emptyDict) (o:=W.instObj C s.heap.objs.size) rfl
  rwa [lb]at this
 refine(I.laid (o:=.own (s.heap.objs.size+1)) (t':=s.toks) (λb u q=>ak _ q) (ah _) ⟨_,a⟩).laid (λb u q=>ak _ q) (Nat.le_of_eq (lb _ _)) ?_;have ne:s.heap.objs.size≠s.heap.objs.size+1:=cc (g7 _);refine⟨by rw[aE ne,bF],cz _,ne,c,λ_=>none,(pw ⟨W.emptyDict,#[],_,a,rfl,(λe d=>absurd d (by simp)),λ_=>rfl⟩).at λo q=>ak _ q,λ_=>True.intro,λy f=>absurd rfl f⟩
theorem zeg (b:jf e f env (eval e env)=eval e env)
  (h:wpAny (model prog w) A (eval e env) (λo a=>wpAny (model prog w) A (ri o f true) Q E a) E s):wpAny (model prog w) A (eval (.Attribute e f pos) env) Q E s:=
 Attribute_any_ h (by rw[arm_eval_Attribute,b])
def sJ (K:W.Frag)(ta:TE)(f:Str):TE:=λσ H Q=>ta σ H λx H1=>∃a C dx fs v,x=.ref a/\H1 a=some (.ins C dx fs)/\Cls K C/\z1x K C f/\fs.lookup f=some v/\Q v H1
def sM (K:W.Frag)(ta tv:TE)(f:Str):TS:=λD σ H=>tv σ H λy H1=>ta σ H1 λx H2=>∃a C dx fs,x=.ref a/\H2 a=some (.ins C dx fs)/\Cls K C/\z1x K C f/\fs.length<1000/\D.nx σ (upd H2 a (.ins C dx (bT f y fs)))
theorem Mj (d:PE X e ta)(g:jf e f X.env (eval e X.env)=eval e X.env):PE X (.Attribute e f pos) (sJ X.K ta f):=by
 intro b s i H Q I h;refine zeg g (aI (d b s i H _ I h) ?_)
 rintro u r ⟨x,H1,j,k,a,C,dx,fs,v,ex,m,c,n,l,q⟩
 subst ex;obtain rfl:u=Value.ref a:=k;exact zbm j m c n l λt w o p=>⟨v,H1,o,p,q⟩
theorem Ml (e:PE X o ta)(g:PE X value tv)(hs:i8 value (some (.Attribute o f pos')) pos.line X.env=pure false):PS X (.Assign [.Attribute o f pos'] value pos) (sM X.K ta tv f):=by
 intro b s d H D I h;refine j6 (aI (g b s d H _ I h) λu i ⟨y,H1,j,k,q⟩=>aI (e b i d H1 _ j q) ?_) hs
 rintro m z ⟨x,A,p,r,a,C,dx,fs,ex,t,c,n,l,v⟩
 subst ex;obtain rfl:m=Value.ref a:=r;exact zc2 p t c n l k λB w=>⟨d,_,w,v⟩
section
variable {H:Hp}
inductive TyOf (K:W.Frag)(H:Hp):V->Value->Prop where
 |aK:TyOf K H .aK (.type "NoneType")
 |bl (x:Bool):TyOf K H (.bl x) (.type "bool")
 |int (i:Int):TyOf K H (.int i) (.type "int")
 |str (x:Str):TyOf K H (.str x) (.type "str")
 |lst {a:Addr} {xs:List V} (e:H a=some (.lst xs)):TyOf K H (.ref a) (.type "list")
 |fD {a:Addr} {o:Obj} {xs:List V} (e:H a=some (.fD o (.lst xs))):TyOf K H (.ref a) (.type "list")
 |tup {a:Addr} {xs:List V} (e:H a=some (.tup xs)):TyOf K H (.ref a) (.type "tuple")
 |dK {a:Addr} {kvs:List (Key×V)} (e:H a=some (.dK kvs)):TyOf K H (.ref a) (.type "dict")
 |dT {a:Addr} {kvs:List (List Key×V)} (e:H a=some (.dT kvs)):TyOf K H (.ref a) (.type "dict")
 |ins {a C dx:Addr} {fs:List (Str×V)} (e:H a=some (.ins C dx fs)) (cl:Cls K C) (ha:W.findIn K (.ref C) "__class__"=some (some (.builtin "object.__class__")))
  (hn:W.specialIn K (.builtin "object.__class__") "__get__"=some (some (.builtin "getset_descriptor.__get__"))) (VN:W.takesIn K (.builtin "object.__class__")=some true)
  (hm:W.mroIn K C (.type "object")=some true):TyOf K H (.ref a) (.ref C)
theorem z2g (I:Inv X pins σ H s)(f:RelV x u)(ty:TyOf X.K H x t)(e:W.kitOne X.K t c=some b)(h:∀m,Q (.bool b) {s with toks:=m}):
  wpAny (model X.prog X.w) A (call (.builtin "isinstance") [u,c]) Q E s:=by
 cases ty with
 |aK=>cases f;exact W.kia_one W.kitx_none I.cM True.intro e (λz=>nomatch z) h
 |bl y=>cases f;exact W.kia_one W.kitx_bool I.cM True.intro e (λz=>nomatch z) h
 |int i=>obtain⟨t,q⟩:=f;cases q;exact W.kia_one W.kitx_int I.cM True.intro e (λz=>nomatch z) h
 |str y=>obtain⟨t,q⟩:=f;cases q;exact W.kia_one W.kitx_str I.cM True.intro e (λz=>nomatch z) h
 | @lst a k d=>cases f;obtain⟨_,_,n,_,g⟩:=(I.hok a _ d);exact W.kia_one W.kitx_list I.cM ⟨_,g,rfl⟩ e (λz=>nomatch z) h
 | @fD a ob k d=>cases f;obtain⟨_,_,_,n,_,g⟩:=(I.hok a _ d);exact W.kia_one W.kitx_list I.cM ⟨_,g,rfl⟩ e (λz=>nomatch z) h
 | @tup a k d=>cases f;obtain⟨_,_,_,p⟩:=(I.hok a _ d);obtain⟨o,g,j,_⟩:=p.tup;exact W.kia_one W.kitx_tuple I.cM ⟨o,g,j⟩ e (λz=>nomatch z) h
 | @dK a kvs d=>cases f;obtain⟨_,_,v,_,⟨o,es,ep,g,j,_⟩⟩:=(I.hok a _ d);exact W.kia_one W.kitx_dict I.cM ⟨o,g,j.1⟩ e (λz=>nomatch z) h
 | @dT a kvs d=>cases f;obtain⟨_,_,k,_,o,es,ep,g,j,_⟩:=(I.hok a _ d);exact W.kia_one W.kitx_dict I.cM ⟨o,g,j.1⟩ e (λz=>nomatch z) h
 | @ins a C dx fs d cl r hn l hm=>cases f;obtain⟨B,O,_⟩:=yE I.hok d;obtain⟨od,J,_⟩:=O.look;exact W.kia_one (W.kitx_own (cl.get _) cl.hd r hn l hm) I.cM J e (λz=>nomatch z) h
end
structure Room (k:Nat)(A:fz):Prop where
 hd:A.handled=none
 dp:A.depth+3*k+5<recursionLimit
 un:A.units+16*k+200<cLine
theorem Room.mono (r:Room k A)(h:j<=k):Room j A:=⟨r.hd,by have:=r.dp;omega,by have:=r.un;omega⟩
theorem Room.deeper (r:Room (k+1) A)(env:Env):Room k (A.deeper env):=⟨r.hd,by have:=r.dp;show A.depth+1+3*k+5<_;omega,by have:=r.un;show A.units+3+16*k+200<_;omega⟩
theorem Mm {A:fz}:(A.under (.builtin "type.__call__" ⟨.ref C::a,b⟩)).depth=A.depth+1:=by first|rfl|simp[Around.under,Code.weight,Code.isCreation,Code.isGuard,Code.isCaller,Code.frames,Code.isFrame,guardIds]
theorem Mn {A:fz}:(A.under (.builtin "type.__call__" ⟨.ref C::a,b⟩)).units=A.units+1:=by first|rfl|simp[Around.under,Code.cUnits,Code.frames,Code.isFrame]
theorem Room.make (r:Room (k+1) A)(C:Addr)(a:List Value)(b:List (Str×Value)):Room k (A.under (.builtin "type.__call__" ⟨.ref C::a,b⟩)):=⟨r.hd,by have:=r.dp;rw[Mm];omega,by have:=r.un;rw[Mn];omega⟩
theorem Room.depth (r:Room k A):A.depth<recursionLimit:=by have:=r.dp;omega
theorem Room.units (r:Room k A):A.units+64<cLine:=by have:=r.un;omega
def gI:TA:=λ_ H Q=>Q [] H
def qP (ta:TE)(tr:TA):TA:=λσ H Q=>ta σ H λx H1=>tr σ H1 λxs H2=>Q (x::xs) H2
theorem kX:PA X [] gI:=λ_ _ _ _ H Q I h=>Calls.spliced_nil ⟨[],H,I,.nil,h⟩
theorem yF (c:PE X e te)(hr:PA X es t)(hs:c8 (e::es) X.env=(false,eval e X.env)::c8 es X.env:=by rfl):PA X (e::es) (qP te t):=by
 intro pos a s b H Q I h;rw[hs];refine Calls.spliced_cons (aI (c a s b H _ I h) ?_)
 rintro u d ⟨x,H1,f,g,i⟩
 exact aI (hr pos a d b H1 _ f i) λo p ⟨j,k,l,m,n⟩=>⟨x::j,k,l,.cons g m,n⟩
def vJ (t:TA):TE:=λσ H Q=>t σ H λxs H1=>xs.length<=ay/\∀p,H1 p=none->Q (.ref p) (upd H1 p (.tup xs))
def vK (t:TA):TE:=λσ H Q=>t σ H λxs H1=>xs.length<=ay/\∀p,H1 p=none->Q (.ref p) (upd H1 p (.lst xs))
theorem FK {f}(h:PA X es t):PE X (.Tuple es f pos) (vJ t):=by intro a s g H Q I i;refine wpAny_Tuple_spliced (aI (h pos a s g H _ I i) λj c ⟨k,H1,d,r,z,q⟩=>⟨by rw[<-r.length];exact z,?_⟩);refine⟨.ref c.heap.objs.size,upd H1 c.heap.objs.size (.tup k),d.laid (λb u e=>ak _ e) (ah _) ?_,rfl,q _ (d.hok.fresh (ah _))⟩;exact⟨z,j,r,⟨_,br _ rfl⟩⟩
theorem FN (h:PA X es t):PE X (.List es pos) (vK t):=by intro a s f H Q I g;refine wpAny_List_spliced (aI (h pos a s f H _ I g) λi c ⟨j,H1,d,r,z,q⟩=>⟨by rw[<-r.length];exact z,?_⟩);refine⟨.ref c.heap.objs.size,upd H1 c.heap.objs.size (.lst j),d.laid (λb u e=>ak _ e) (ah _) ?_,rfl,q _ (d.hok.fresh (ah _))⟩;exact⟨z,i,0,r,br _ rfl⟩
abbrev Sp:=List V->Hp->VK->XK->Prop
abbrev CXT:=List Env->Hp->bc->XK->Value->bc->Prop
structure jY (P:cj)(w:World)(K:W.Frag)(mg:Str->Option Value)(base:Heap)(A:fz)(outer:List Env)(s:bc)(H:Hp):Prop where
 frames:A.frames=some outer
 mod:Mod K mg base
 bs:∀b o,base.get? b=some o->s.heap.get? b=some o/\H b=none
 jG:base.objs.size<=s.heap.objs.size
 cF:s.heap.FunFrames base outer
 nT:∀b∈frs outer,H b=none
 hok:HOk P w H s.heap
 bare:kz s.gens
def CE (outer:List Env)(P:cj)(w:World)(H:Hp)(s:bc)(Q:VK)(u:Value)(s':bc):Prop:=∃v H',s'.os=s.os/\kz s'.gens/\Un (frs outer) [] H H' s.heap s'.heap/\HOk P w H' s'.heap/\RelV v u/\Q v H'
def CR (CX:CXT)(outer:List Env)(P:cj)(w:World)(H:Hp)(s:bc)(Q:VK)(E:XK)(r:Result)(s':bc):Prop:=
 match r with
 |.ok (.ret u)=>CE outer P w H s Q u s'
 |.ok _=>False
 |.error e=>CX outer H s E e s'
structure FnOk (P:cj)(w:World)(K:W.Frag)(mg:Str->Option Value)(base:Heap)(CX:CXT)(k:Nat)(f:Addr)(fd:dn)(ps:List Str)(sp:Sp):Prop where
 len:∀vs H Q E,sp vs H Q E->vs.length=ps.length
 run:∀(A:fz) (outer:List Env) (s:bc) (H:Hp) (args:Args) (us:List Value) (vs:List V) (Q:VK) (E:XK),Room k A->jY P w K mg base A outer s H->oo s fd args (ps.zip us)->Vals vs us->sp vs H Q E->i9 (model P w) A (.call (.ref f) args) (CR CX outer P w H s Q E) s
theorem jY.make {K:W.Frag}(e:jY P w K mg base A outer s H)(C:Addr)(a:List Value)(b:List (Str×Value)): jY P w K mg base (A.under (.builtin "type.__call__" ⟨.ref C::a,b⟩)) outer s H:=⟨by first|exact e.frames|(simpa[Around.under,Code.envs,Code.isFrame,pushEnvs]using e.frames),e.mod,e.bs,e.jG,e.cF,e.nT,e.hok,e.bare⟩
theorem Inv.sN (I:Inv X pins σ H s):jY X.prog X.w X.K X.mg X.base X.A X.stack s H:=⟨I.ok.frames,I.ok.mod,I.bs,bq I.ok.jG I.sz,I.stack,I.gC,I.hok,I.bare⟩
theorem Inv.after (I:Inv X pins σ H s)(h:CE X.stack X.prog X.w H s Q u s'):EP X pins σ Q u s':=by obtain⟨v,c,os,bare,un,hok,r,q⟩:=h;obtain⟨hh,g,d,t,a⟩:=s';obtain rfl:a=s.os:=os;exact⟨v,c,I.call un hok bare (λb z=>absurd z (by simp)),r,q⟩
def nU (sp:Sp)(dvs:List V)(E:XK)(t:TA):TE:=λσ H Q=>t σ H λvs H1=>sp (vs++dvs) H1 Q E
def jI (C:Addr)(m:Str)(sp:Sp)(dvs:List V)(E:XK)(ta:TE)(t:TA):TE:=λσ H Q=>ta σ H λx H1=>∃a dx fs,x=.ref a/\H1 a=some (.ins C dx fs)/\fs.lookup m=none/\t σ H1 λvs H2=>sp (x::(vs++dvs)) H2 Q E
def vL (C:Addr)(sp:Sp)(dvs:List V)(E:XK)(t:TA):TE:=λσ H Q=>t σ H λvs H1=>∀x dx,H1 x=none->H1 dx=none->dx≠x->sp (.ref x::(vs++dvs)) (upd (upd H1 dx (.own x)) x (.ins C dx [])) (λv H2=>v=.aK/\Q (.ref x) H2) E
def Binds (K:W.Frag)(fd:dn)(ps:List Str)(ds:List Value):Prop:=∀(s:bc) (us:List Value),K.In s.heap->(us++ds).length=ps.length->oo s fd ⟨us,[]⟩ (ps.zip (us++ds))
theorem Binds.all {K:W.Frag}(h:∀a,a.length=ps.length->n0 fd ⟨a,[]⟩=pure (ps.zip a)):Binds K fd ps []:=λs a _ b=>by rw[dm]at b ⊢;exact .of_eq (h a b)
def z2m (CX:CXT)(X:Cx)(E:XK):Prop:=∀(pins:List (Addr×Obj)) (σ:St) (H:Hp) (s:bc) (e:Value) (s':bc),Inv X pins σ H s->CX X.stack H s E e s'->X.xe e s'
section
variable {f C:Addr}
theorem zaj (F:FnOk X.prog X.w X.K X.mg X.base CX k f fd ps sp)(hr:Room k X.A)(i:Binds X.K fd ps ds)(hd:Vals dvs ds)(j:z2m CX X E)
  (I:Inv X a d H s) (r:Vals vs c) (h:sp (vs++dvs) H Q E):wpAny (model X.prog X.w) X.A (call (.ref f) c) (EP X a d Q) X.xe s:=by
 have g:=r.append hd;refine pp (ja (F.run X.A X.stack s H ⟨c,[]⟩ (c++ds) (vs++dvs) Q E hr I.sN (i s c I.cM (g.length▸F.len _ _ _ _ h)) g h) λr l b=>?_);cases r with
 |error e=>exact j a d H s e l I b
 |ok fl=>
  cases fl with
  |ret u=>exact I.after b
  |next=>exact False.elim b
  |brk=>exact False.elim b
  |cont=>exact False.elim b
theorem zcc (F:FnOk X.prog X.w X.K X.mg X.base CX k f fd ps sp)(hr:Room k X.A)(g:Gl X x)(hm:X.mg x=some (.ref f))(i:W.keepIn X.K (.ref f)=true)(j:Binds X.K fd ps ds)(hd:Vals dvs ds)(l:z2m CX X E)
  (m:PA X (e::es) t) (b:Wl x:=by decide) (n:c8 (e::es) X.env=(false,eval e X.env)::c8 es X.env:=by rfl) (c:(i5 pos (c8 es X.env)).any (·.1)=false:=by rfl):
  PE X (.Call (.Name x p) (e::es) [] pos) (nU sp dvs E t):=by
 intro a s o H Q I h;refine ik (z4w I g hm ?_ b);refine W.callWith_K I.ok.mod.sx i (aI (m pos a s o H _ I h) λu v ⟨y,H1,d,r,q⟩=>⟨d.cM,?_⟩) n c;exact zaj F hr j hd l d r q
structure Mk (K:W.Frag)(C f:Addr):Prop where
 makes:W.makesIn K C=true
 init:W.findIn K (.ref C) "__init__"=some (some (.ref f))
 fn:W.isFn K (.ref f)=true
 kp:W.keepIn K (.ref C)=true
theorem zg3 (M:Mk X.K C f)(F:FnOk X.prog X.w X.K X.mg X.base CX k f fd ps sp)(hr:Room (k+1) X.A)(m:Binds X.K fd ps ds)(hd:Vals dvs ds)
  (n:z2m CX X E) (I:Inv X b g H s) (r:Vals i c)
  (h:∀x dx,H x=none->H dx=none->dx≠x->sp (.ref x::(i++dvs)) (upd (upd H dx (.own x)) x (.ins C dx [])) (λv o=>v=.aK/\Q (.ref x) o) E):
  wpAny (model X.prog X.w) X.A (call (.ref C) c) (EP X b g Q) X.xe s:=by
 have j:=h (s.heap.objs.size+1) s.heap.objs.size (I.hok.fresh (kg _)) (I.hok.fresh (ah _)) (cc (g7 _));have d:=Inv.made (C:=C) I;have l:Vals (V.ref (s.heap.objs.size+1)::(i++dvs)) (Value.ref (s.heap.objs.size+1)::(c++ds)):=.cons rfl (r.append hd);have p:(Value.ref (s.heap.objs.size+1)::c++ds).length=ps.length:=by have e:=l.length;rw[F.len _ _ _ _ j]at e;exact e.symm
 refine pp (zhj I.cM M.makes M.init (sj M.fn) (ja (F.run _ X.stack _ _ ⟨Value.ref (s.heap.objs.size+1)::c,[]⟩ (Value.ref (s.heap.objs.size+1)::(c++ds)) _ _ E (hr.make C c []) (d.sN.make C c []) (m _ (Value.ref (s.heap.objs.size+1)::c) d.cM p) l j) λr q a=>?_));cases r with
 |error e=>exact n b g _ _ e q d a
 |ok fl=>
  cases fl with
  |ret u=>obtain⟨v,t,y,z,rfl,B⟩:=d.after a;exact⟨z,V.ref (s.heap.objs.size+1),t,y,rfl,B⟩
  |next=>exact False.elim a
  |brk=>exact False.elim a
  |cont=>exact False.elim a
theorem zkw (M:Mk X.K C f)(F:FnOk X.prog X.w X.K X.mg X.base CX k f fd ps sp)(hr:Room (k+1) X.A)(g:Gl X x)(hm:X.mg x=some (.ref C))(i:Binds X.K fd ps ds)(hd:Vals dvs ds)(j:z2m CX X E)
  (l:PA X (e::es) t) (b:Wl x:=by decide) (m:c8 (e::es) X.env=(false,eval e X.env)::c8 es X.env:=by rfl) (c:(i5 pos (c8 es X.env)).any (·.1)=false:=by rfl):
  PE X (.Call (.Name x p) (e::es) [] pos) (vL C sp dvs E t):=by
 intro a s n H Q I h;refine ik (z4w I g hm ?_ b);refine W.callWith_K I.ok.mod.sx M.kp (aI (l pos a s n H _ I h) λo u ⟨v,H1,d,r,q⟩=>⟨d.cM,?_⟩) m c;exact zg3 M F hr i hd j d r q
end
def PK (X:Cx)(Mo:List lv)(t:TA):Prop:=∀(pos:Pos) (pins:List (Addr×Obj)) (s:bc) (σ:St) (H:Hp) (Q:List V->Hp->Prop),Inv X pins σ H s->t σ H Q->wpAny (model X.prog X.w) X.A (evalAll ((n4 pos (kh Mo X.env)).map (·.2))) (AP X pins σ Q) X.xe s
section
variable {fd:dn}{ps ks:List Str}
structure lQ (K:W.Frag)(fd:dn)(ps ks:List Str)(g:List Value->List Value->List Value)(gV:List V->List V->List V):Prop where
 to:∀(s:bc) (us ws:List Value),K.In s.heap->(g us ws).length=ps.length->oo s fd ⟨us,ks.zip ws⟩ (ps.zip (g us ws))
 rel:∀{vs:List V} {us:List Value} {zs:List V} {ws:List Value},Vals vs us->Vals zs ws->Vals (gV vs zs) (g us ws)
end
structure FnScope (N P:List Str)(sc:Scope):Prop where
 kind:sc.kind=.function
 co:sc.isCoroutine=false
 gen:sc.isGenerator=false
 nd:N.Nodup
 pre:N.take P.length=P
 par:∀x∈P,sc.names.lookup x=some .local\/sc.names.lookup x=some .cell
 sO:∀y∈sc.names,y.2≠.free
theorem FO {a:Str->Option eo}:∀{binds:List (Str×Value)} {m:Str->Option Value},(∀v,(x,v)∉binds)->bindL a binds m x=m x
 | [],_,_=>rfl
 |(n,v)::r,m,h=>by
  unfold bindL;rw[FO λw b=>h w (ba _ b)];split
  ·have :x≠n:=by rintro rfl;exact h v bh
   simp[this]
  ·rfl
theorem FP {a:Str->Option eo}:∀{binds:List (Str×Value)} {m:Str->Option Value},(∀v,(x,v)∉binds)->bindC a binds m x=m x
 | [],_,_=>rfl
 |(n,v)::r,m,h=>by
  unfold bindC;rw[FP λw b=>h w (ba _ b)];split
  ·rfl
  ·have :x≠n:=by rintro rfl;exact h v bh
   simp[this]
theorem z8n {a:Str->Option eo}:∀{P:List Str} {b:List Value} {i:Nat} {m:Str->Option Value},P.Nodup->P[i]?=some x->b[i]?=some v->a x=some .local->
  bindL a (P.zip b) m x=some v
 | [],_,_,_,_,h,_,_=>by simp at h
 |_::_,[],_,_,_,_,h,_=>by simp at h
 |p::P,w::b,0,m,nd,c,d,e=>by simp at c d;subst c;subst d;show bindL a ((p,w)::P.zip b) m p=_;unfold bindL;rw[FO λv f=>(dr.mp nd).1 (nh f).1,rj e];simp
 |p::P,w::b,i+1,m,nd,c,d,e=>by show bindL a ((p,w)::P.zip b) m x=_;exact z8n (dr.mp nd).2 (by simpa using c) (by simpa using d) e
theorem z72 {a:Str->Option eo}:∀{P:List Str} {b:List Value} {i:Nat} {m:Str->Option Value},P.Nodup->P[i]?=some x->b[i]?=some v->a x≠some .local->
  bindC a (P.zip b) m x=some v
 | [],_,_,_,_,h,_,_=>by simp at h
 |_::_,[],_,_,_,_,h,_=>by simp at h
 |p::P,w::b,0,m,nd,c,d,e=>by simp at c d;subst c;subst d;show bindC a ((p,w)::P.zip b) m p=_;unfold bindC;rw[FP λv f=>(dr.mp nd).1 (nh f).1,rq e];simp
 |p::P,w::b,i+1,m,nd,c,d,e=>by show bindC a ((p,w)::P.zip b) m x=_;exact z72 (dr.mp nd).2 (by simpa using c) (by simpa using d) e
def start (N:List Str)(vs:List V):St:=vs.map some++ax (N.length-vs.length) none
def hT (CX:CXT)(P:cj)(w:World)(K:W.Frag)(mg:Str->Option Value)(base:Heap)(N:List Str)(qual:Str)(scope:Scope)(f:Addr)(cd:Value)(A:fz)(outer:List Env)(s:bc)(H:Hp)(E:XK):Cx where
 prog:=P
 w:=w
 K:=K
 mg:=mg
 base:=base
 A:=A.deeper (oa qual scope s.heap.objs.size f cd)
 N:=N
 s₀:=s
 hI:=H
 env:=oa qual scope s.heap.objs.size f cd
 outer:=outer
 stack:=oa qual scope s.heap.objs.size f cd::outer
 ex:=[]
 calm:=true
 fn:=λ_=>true
 pn:=[]
 xe:=λe s'=>wpAny (model P w) (A.deeper (oa qual scope s.heap.objs.size f cd)) (qs (oa qual scope s.heap.objs.size f cd) e) (λ_ sP=>CX outer H s E e sP) (λe' sP=>CX outer H s E e' sP) s'
theorem FQ {sc:Scope}(h:sc.names.lookup x=some .cell):∃c,(cellsFrom n sc.names []).lookup x=some c:=by exact Option.isSome_iff_exists.mp (W.cellsFrom_some sc.names n [] (.inl h))
theorem zf1 {K:W.Frag}
  (S:FnScope N ps scope) (hd:A.handled=none) (j:jY P w K mg base A outer s H) (O:n.length=ps.length) (r:Vals n D)
  (x:InCallC s s.heap.objs.size (bindL (oa g scope s.heap.objs.size f cd).kindOf (ps.zip D) λ_=>none) (cellsFrom (s.heap.objs.size+1) scope.names []) (bindC (oa g scope s.heap.objs.size f cd).kindOf (ps.zip D) λ_=>none) G):
  Inv (hT I P w K mg base N g scope f cd A outer s H E) [] (start N n) H G:=by
 have J:=by have:=congrArg ki S.pre;rw[dw]at this;omega
 obtain⟨B,Q,rfl,F⟩:=x.done;have l:∀b,b∉(hT I P w K mg base N g scope f cd A outer s H E).ex:=λb z=>absurd (show b∈([]:List Addr)from z) (by simp);refine⟨⟨j.mod,S.kind,rfl,rfl,ah _,λy z c B d=>?_,λy m=>?_,λy c _ h=>?_,λ_=>hd,Around.frames_deeper j.frames,.inr ⟨rfl,rfl⟩,λb z=>absurd z (l b),j.bs,j.jG,λb _ _=>l b,λb z=>absurd z (l b),j.cF,j.nT,λ_ _ z=>by cases z⟩,rfl,j.bare,Un.kept F,⟨_,x.toInCall.ns,λi y v B d R=>?_⟩,λy c h=>⟨_,x.cell y c h⟩,j.hok.fresh (ah _),λy c h=>?_,λp o=>absurd (show p∈([]:List (Addr×Obj))from o) (by simp),j.hok.kept F,?_,λ_ _ z=>by cases z⟩
 ·exact name_of_addr x.apart (PySem.mem_of_lookup B) (PySem.mem_of_lookup d)
 ·have m:scope.names.lookup y=some .cell\/scope.names.lookup y=some .free:=m;rcases m with m|m
  ·exact FQ m
  ·exact absurd rfl (S.sO _ (PySem.mem_of_lookup m))
 ·exact gr (x.above y c (PySem.mem_of_lookup h))
 ·have C:i<n.length:=by
   unfold start at d;by_cases C:i<n.length
   ·exact C
   ·rw[b9 (by simpa using C)]at d;rw[cr]at d;split at d<;>cases d
  have L:n[i]?=some v:=by
   unfold start at d;rw[cy (by simpa using C),ar]at d;cases e:n[i]? with
   |none=>rw[e]at d;cases d
   |some a=>rw[e]at d;cases d;rfl
  obtain⟨u,hu,M⟩:=r.get L;have o:ps[i]?=some y:=by rw[<-S.pre,jg (by omega)];exact B
  have t:ps.Nodup:=S.pre▸S.nd.sublist (lw _ _);refine⟨u,M,?_⟩;rcases S.par y (aq o)with k|k
  ·exact .inl ⟨k,z8n t o hu k⟩
  ·obtain⟨c,e⟩:=FQ k;refine .inr ⟨.inl k,c,e,?_⟩;have q:=x.cell y c e;rw[z72 t o hu (by show scope.names.lookup y≠_;rw[k];decide)]at q;exact q
 ·exact j.hok.fresh (gr (x.above y c (PySem.mem_of_lookup h)))
 ·unfold start;show _=N.length;rw[av,am,bw];omega
theorem zmg {K:W.Frag}{kV:Value}
  (O:K.lookup f=some ⟨oc,od,.func (W.fnOf m a params g scope R kV C T an c ct),U⟩) (D:W.codeIn K c a=true) (S:FnScope N ps scope)
  (len:∀h H Q E,I h H Q E->h.length=ps.length)
  (j:∀A outer s H h Q E,Room k (A.deeper (oa a scope s.heap.objs.size f c))->I h H Q E->∃t,PSs (hT L P w K mg base N a scope f c A outer s H E) g t/\t {nx:=λ_ i=>Q .aK i,rt:=Q} (start N h) H):
  FnOk P w K mg base L (k+1) f (W.fnOf m a params g scope R kV C T an c ct) ps I:=by
 refine⟨len,λA outer s H args X h Q E hr p Y r z=>?_⟩;have M:=p.mod.sx.keeps λb o e=>(p.bs b o e).1
 have l:∀y∈ps.zip X,scope.names.lookup y.1=some .local\/(scope.names.lookup y.1=some .cell/\((cellsFrom (s.heap.objs.size+1) scope.names []).lookup y.1).isSome=true):=λ⟨n,v⟩ hy=>by
  rcases S.par n (nh hy).1 with q|q
  ·exact .inl q
  ·exact .inr ⟨q,W.cellsFrom_some _ _ _ (.inl q)⟩
 refine codeAny_call_function hr.depth (M _ _ O) rfl S.co S.gen rfl (W.codeRec_of M D) (Y _ _ _ _ ?_);refine wpAny_newFunctionEnv_cells S.kind l λenv he s1 x=>?_;subst he;refine⟨(p.mod.nolimit.keeps λb o e=>(p.bs b o e).1).keeps x.toInCall.keep,codeAny_func ?_⟩;obtain⟨t,ht,hq⟩:=j A outer s H h Q E (hr.deeper _) z;refine ek (ht [] s1 (start N h) H _ (zf1 S hr.hd p (len _ _ _ _ z) r x) hq) (λfl F hs=>?_) λe F hs=>hs;have B:∀{d:St} {i:Hp} {v:V} {u:Value},Inv (hT L P w K mg base N a scope f c A outer s H E) [] d i F->RelV v u->Q v i->CE outer P w H s Q u F:=λ{d i v u} J G q=>⟨v,i,J.os,J.bare,J.base,J.hok,G,q⟩;cases fl with
 |ret u=>obtain⟨v,d,i,J,G,q⟩:=hs;exact B J G q
 |next=>obtain⟨d,i,J,q⟩:=hs;exact B (v:=V.aK) J rfl q
 |brk=>obtain⟨_,_,_,q⟩:=hs;exact False.elim q
 |cont=>obtain⟨_,_,_,q⟩:=hs;exact False.elim q
section
variable {X:Cx}{x:Str}{p pos:Pos}{e:Expr}{es:List Expr}{t:TA}{id:String}{r:List V->Hp->VK->Prop}
def oI (r:List V->Hp->VK->Prop)(t:TA):TE:=λσ H Q=>t σ H λvs H1=>r vs H1 Q
theorem zhz (f:CallR X (.builtin id) r)(g:Gl X x)(hm:X.mg x=none)(i:c9 x=some (.builtin id))(j:PA X (e::es) t)(hn:x≠"__name__":=by decide)(b:Wl x:=by decide)
  (k:c8 (e::es) X.env=(false,eval e X.env)::c8 es X.env:=by rfl) (c:(i5 pos (c8 es X.env)).any (·.1)=false:=by rfl):PE X (.Call (.Name x p) (e::es) [] pos) (oI r t):=by
 intro a s d H Q I h;refine ik (z2l I g hm i ?_ hn b);exact PyProof.Rows.callWith_builtin1 (aI (j pos a s d H _ I h) λl m ⟨n,H1,o,q,u⟩=>f a m d H1 n l Q o q u) k c
theorem zcf (f:CallR X (.type T) r)(g:Gl X x)(hm:X.mg x=none)(i:c9 x=some (.type T))(j:PA X (e::es) t)(hn:x≠"__name__":=by decide)(b:Wl x:=by decide)
  (k:c8 (e::es) X.env=(false,eval e X.env)::c8 es X.env:=by rfl) (c:(i5 pos (c8 es X.env)).any (·.1)=false:=by rfl):PE X (.Call (.Name x p) (e::es) [] pos) (oI r t):=by
 intro a s d H Q I h;refine ik (z2l I g hm i ?_ hn b);exact PyProof.Rows.callWith_type1 (aI (j pos a s d H _ I h) λl m ⟨n,H1,o,q,u⟩=>f a m d H1 n l Q o q u) k c
end
section
variable {κ:Type} [DecidableEq κ]
def cG (kvs:List (κ×V))(k:κ):Option V:=(kvs.find? λkv=>decide (kv.1=k)).map (·.2)
def putK (kvs:List (κ×V))(k:κ)(v:V):List (κ×V):=if(kvs.any λkv=>decide (kv.1=k))=true then kvs.map (λkv=>if kv.1=k then(kv.1,v)else kv)else kvs++[(k,v)]
theorem vM {p:κ×V}(e:p.1=k):cG (p::r) k=some p.2:=by simp[cG,ey,e]
theorem sQ {p:κ×V}(e:¬p.1=k):cG (p::r) k=cG r k:=by simp[cG,ey,e]
theorem FR (k:κ):∀kvs,(kvs.any λa=>decide (a.1=k))=(cG kvs k).isSome
 | []=>rfl
 |p::r=>by
  rw[gz];by_cases e:p.1=k
  ·simp only[vM e,si e,Bool.true_or,Option.isSome_some]
  ·rw[sQ e,decide_eq_false e];exact FR k r
theorem yG (kvs:List (κ×V))(k:κ)(v:V):(putK kvs k v).length<=kvs.length+1:=by
 unfold putK;split
 ·rw[am];omega
 ·rw[av,bd,nk];omega
theorem cA.bY (r:cA o u):o.isSome=u.isSome:=by
 cases o with
 |none=>cases u with
  |none=>rfl
  |some _=>exact r.elim
 |some _=>cases u with
  |none=>exact r.elim
  |some _=>rfl
theorem cA.getD (r:cA o u)(rd:RelV d a):RelV (o.getD d) (u.getD a):=by
 cases o with
 |none=>cases u with
  |none=>exact rd
  |some _=>exact r.elim
 |some _=>cases u with
  |none=>exact r.elim
  |some _=>exact r
theorem KV.val (r:KV kvs f)(k:κ):cA (cG kvs k) (py f k):=by
 induction r with
 |nil=>exact True.intro
 | @cons p q ps a h t g=>
  obtain⟨d,i⟩:=h;by_cases e:p.1=k
  ·have c:q.1=k:=d.symm.trans e;have b:py (q::a) k=some q.2:=by simp[py,ey,c]
   rw[vM e,b];exact i
  ·have c:¬q.1=k:=λz=>e (d.trans z);have b:py (q::a) k=py a k:=by simp[py,ey,c]
   rw[sQ e,b];exact g
theorem KV.any (r:KV kvs b)(k:κ):(kvs.any λa=>decide (a.1=k))=b.any λa=>decide (a.1=k):=by
 induction r with
 |nil=>rfl
 |cons h t c=>rw[gz,gz,c,h.1]
theorem KV.repl (r:KV kvs c)(k:κ)(d:RelV y u):
  KV (kvs.map λa=>if a.1=k then(a.1,y)else a) (c.map λa=>if a.1=k then(a.1,u)else a):=by
 induction r with
 |nil=>exact .nil
 | @cons p q ps i h t f=>
  rw[bj,bj];refine .cons ?_ f;obtain⟨b,g⟩:=h;by_cases e:p.1=k
  ·rw[rj e,rj (b.symm.trans e)];exact⟨b,d⟩
  ·rw[rq e,rq (λz=>e (b.trans z))];exact⟨b,g⟩
theorem KV.put (r:KV kvs a)(k:κ)(b:RelV y u):KV (putK kvs k y) (stored a k u):=by
 unfold putK stored;rw[r.any k];by_cases e:(a.any λc=>decide (c.1=k))=true
 ·rw[rj e,rj e];exact r.repl k b
 ·rw[rq e,rq e];exact Paired.snoc r ⟨rfl,b⟩
theorem KV.length (r:KV kvs vs):kvs.length=vs.length:=Paired.length r
end
theorem qQ (r:RelV (kV k) u):(gA P w).is k u=true:=by
 cases k with
 |inl i=>obtain⟨t,e⟩:=r;subst e;exact Lp P w i t
 |inr x=>obtain⟨t,e⟩:=r;subst e;exact Lq P w x t
theorem FU:∀{ks:List Key} {a:List Value},Vals (ks.map kV) a->ItemsAre (gA P w) ks a
 | [],_,r=>by rw[List.map_nil]at r;cases r;exact .nil
 |k::ks,_,r=>by
  cases r with
  |cons h t=>exact .cons (qQ h) (FU t)
abbrev KT (H:Hp):List (List Key×V)->List (List Key×Addr×Value)->Prop:=jm λp q=>p.1=q.1/\H q.2.1=some (.tup (p.1.map kV))/\RelV p.2 q.2.2
theorem KT.val (r:KT H kvs xs)(k:List Key):cA (cG kvs k) ((atKey xs k).map (·.2)):=by
 induction r with
 |nil=>exact True.intro
 | @cons p q ps a h t f=>
  obtain⟨d,_,g⟩:=h;by_cases e:p.1=k
  ·have c:q.1=k:=d.symm.trans e;have b:atKey (q::a) k=some q.2:=by simp[atKey,ey,c]
   rw[vM e,b];exact g
  ·have c:¬q.1=k:=λz=>e (d.trans z);have b:atKey (q::a) k=atKey a k:=by simp[atKey,ey,c]
   rw[sQ e,b];exact f
theorem KT.repl (r:KT H kvs d)(k:List Key)(f:RelV y u):
  KT H (kvs.map λb=>if b.1=k then(b.1,y)else b) (d.map (putAt k u)):=by
 induction r with
 |nil=>exact .nil
 | @cons p q ps j h t g=>
  rw[bj];refine .cons ?_ g;obtain⟨a,c,i⟩:=h;unfold putAt;by_cases e:p.1=k
  ·rw[rj e,rj (a.symm.trans e)];exact⟨a,c,f⟩
  ·rw[rq e,rq (λz=>e (a.trans z))];exact⟨a,c,i⟩
theorem KT.put (r:KT H kvs a)(k:List Key)(d:H b=some (.tup (k.map kV)))(c:RelV y u):
  KT H (putK kvs k y) (storedH a k b u):=by
 have e:(kvs.any λf=>decide (f.1=k))=(atKey a k).isSome:=by rw[FR,(r.val k).bY,iz]
 unfold putK storedH;rw[e];by_cases q:(atKey a k).isSome=true
 ·rw[rj q,rj q];exact r.repl k c
 ·rw[rq q,rq q];exact Paired.snoc r ⟨rfl,d,c⟩
theorem KT.keeps (r:KT H kvs c)(d:∀b a,H b=some (.tup a)->e b=some (.tup a)):KT e kvs c:=Paired.vj r λ_ _ z=>⟨z.1,d _ _ z.2.1,z.2.2⟩
theorem FV (ok:HOk P w H h)(e:Rd H a u):z16 P w H h a u:=e.ok ok
theorem sR (ok:HOk P w H h)(e:Rd H a (.dK kvs)):kvs.length<=ay/\(a==i4)=false/\∃b,KV kvs b/\h.DictOf (gA P w) a b:=show z16 P w H h a (.dK kvs)from FV ok e
theorem vN (ok:HOk P w H h)(e:H a=some (.dK kvs)):kvs.length<=ay/\(a==i4)=false/\∃b,KV kvs b/\h.DictOf (gA P w) a b:=sR ok (.inl e)
theorem ux (ok:HOk P w H h)(e:H a=some (.tup (ks.map kV))):(mh (gA P w)).is h ks a:=by obtain⟨_,b,r,n,c⟩:=(ok a _ e);exact⟨_,b.toArray,n,c,rfl,rfl,by simpa using FU r⟩
theorem zc9 (ok:HOk P w H h)(e:Rd H a (.dT kvs)):kvs.length<=ay/\(a==i4)=false/\
  ∃c,KT H kvs c/\h.DictOfH (mh (gA P w)) a c:=by
 obtain⟨z,y,c,r,o,es,ep,f,g,i,j,k⟩:=(FV ok e);refine⟨z,y,c,r,o,es,ep,f,g,i,j,λx b=>?_,k⟩
 have all:∀{l:List (List Key×V)} {m:List (List Key×Addr×Value)},KT H l m->∀x∈m,(mh (gA P w)).is h x.1 x.2.1:=by
  intro l m q
  induction q with
  |nil=>intro x b;exact nomatch b
  | @cons p q ps s d t n=>
   intro x b;rcases az.mp b with e|b
   ·subst e;exact ux ok (d.1▸d.2.1)
   ·exact n x b
 exact all r x b
theorem Mp (ok:HOk P w H h)(e:H a=some (.dT kvs)):kvs.length<=ay/\(a==i4)=false/\∃b,KT H kvs b/\h.DictOfH (mh (gA P w)) a b:=zc9 ok (.inl e)
def DGet (H:Hp)(a:Addr)(y:V)(r:Option V):Prop:=(∃kvs k,Rd H a (.dK kvs)/\y=kV k/\r=cG kvs k)\/∃kvs k b,Rd H a (.dT kvs)/\y=.ref b/\H b=some (.tup (k.map kV))/\r=cG kvs k
def DPut (H:Hp)(a:Addr)(y v:V)(H':Hp):Prop:=
 (∃kvs k,H a=some (.dK kvs)/\y=kV k/\kvs.length<ay/\H'=upd H a (.dK (putK kvs k v)))\/
 ∃kvs k b,H a=some (.dT kvs)/\y=.ref b/\H b=some (.tup (k.map kV))/\kvs.length<ay/\H'=upd H a (.dT (putK kvs k v))
theorem DGet.k {k:Key}(e:H a=some (.dK kvs)):DGet H a (kV k) (cG kvs k):=.inl ⟨kvs,k,.inl e,rfl,rfl⟩
theorem Inv.big (I:Inv X pins σ H s):i4<s.heap.objs.size:=by exact k7 dc ((I.mod.glob.keeps I.bk).lt)
theorem z8q (hu:A.units+1<cLine)(I:Inv X pins σ H s)(g:DGet H a y (some v))(n:RelV y u)(h:∀d o,Inv X pins σ H o->RelV v d->Q d o):
  wpAny (model X.prog X.w) A (mx (.ref a) u) Q E s:=by
 rcases g with⟨kvs,k,e,f,l⟩|⟨kvs,k,b,e,f,q,l⟩
 ·subst f;obtain⟨z,hd,t,rel,i⟩:=sR I.hok e;obtain⟨d,j,c⟩:=cA.some_of (l▸rel.val k);exact wpAny_getItem_of (qQ n) i.mapOf j (h d _ (I.tok _) c)
 ·subst f;cases n;obtain⟨z,hd,x,rel,i⟩:=zc9 I.hok e;obtain⟨d,j,c⟩:=cA.some_of (l▸rel.val k);obtain⟨p,r,m⟩:=bn.mp j;refine wpAny_getItem_heap (il hu) (ux I.hok q) i r ?_;rw[m];exact h d _ (I.tok _) c
theorem d_in (hu:A.units+1<cLine)(I:Inv X pins σ H s)(g:DGet H a y o)(f:RelV y u)(h:∀i,Inv X pins σ H i->Q (.bool o.isSome) i):
  wpAny (model X.prog X.w) A (cw .In u (.ref a)) Q E s:=by
 rcases g with⟨kvs,k,e,c,l⟩|⟨kvs,k,b,e,c,j,l⟩
 ·subst c;obtain⟨z,hd,m,rel,d⟩:=sR I.hok e;refine wpAny_in_of (qQ f) hd d.mapOf ?_;rw[<-(rel.val k).bY,<-l];exact h _ (I.tok _)
 ·subst c;cases f;obtain⟨z,hd,n,rel,d⟩:=zc9 I.hok e;refine wpAny_in_heap (il hu) (ux I.hok j) hd d ?_;have q:=(rel.val k).bY;rw[iz]at q;rw[<-q,<-l];exact h _ (I.tok _)
theorem zmb (hu:A.units+1<cLine)(I:Inv X pins σ H s)(g:DGet H a y o)(f:RelV y u)(h:∀i,Inv X pins σ H i->Q (.bool (!o.isSome)) i):
  wpAny (model X.prog X.w) A (cw .NotIn u (.ref a)) Q E s:=by
 rcases g with⟨kvs,k,e,c,l⟩|⟨kvs,k,b,e,c,j,l⟩
 ·subst c;obtain⟨z,hd,m,rel,d⟩:=sR I.hok e;refine wpAny_notIn_of (qQ f) hd d.mapOf ?_;rw[<-(rel.val k).bY,<-l];exact h _ (I.tok _)
 ·subst c;cases f;obtain⟨z,hd,n,rel,d⟩:=zc9 I.hok e;refine wpAny_notIn_heap (il hu) (ux I.hok j) hd d ?_;have q:=(rel.val k).bY;rw[iz]at q;rw[<-q,<-l];exact h _ (I.tok _)
theorem z6q (I:Inv X pins σ H s)(d:Mut (H a))(hs:gb a s.heap c)(e:∃q,c.get? a=some q)(new:z16 X.prog X.w (upd H a ob) c a ob):
  Inv X pins σ (upd H a ob) {s with heap:=c,toks:=t'}:=
 I.write d (.inl rfl) (λb q f z=>(hs.2 b f).trans z) e new
theorem AW (z:kvs.length<=ay)(hd:(a==i4)=false)(rel:KV kvs b)(c:d.DictOf (gA P w) a b): z16 P w e d a (.dK kvs):=⟨z,hd,b,rel,c⟩
theorem zcz (hu:A.units+1<cLine)(I:Inv X pins σ H s)(g:DPut H a y v B)(n:RelV y u)(o:RelV v r)(h:∀p,Inv X pins σ B p->Q () p):
  wpAny (model X.prog X.w) A (setItem (.ref a) u r) Q E s:=by
 rcases g with⟨kvs,k,e,i,l,j⟩|⟨kvs,k,b,e,i,t,l,j⟩
 ·subst i j;obtain⟨z,hd,C,rel,m⟩:=vN I.hok e;have D:C.length<=ay:=rel.length▸z;exact wpAny_setItem_pairs (qQ n) m λF d hs=>h _ (z6q I (e▸True.intro) hs (let⟨q,_,_,f,_⟩:=d;⟨q,f⟩) (AW (by have:=yG kvs k v;omega) hd (rel.put k o) d))
 ·subst i j;cases n;obtain⟨z,hd,G,rel,m⟩:=Mp I.hok e;have D:G.length<=ay:=Paired.length rel▸z;refine wpAny_setItem_heap (il hu) (ux I.hok t) m λF d hs=>h _ ?_;obtain⟨q,es,ep,f,J,K,L,_,M⟩:=d;refine z6q I (e▸True.intro) hs ⟨q,f⟩ ⟨(by have:=yG kvs k v;omega),hd,_,(rel.put k t o).keeps λc N x=>?_,q,es,ep,f,J,K,L,M⟩;rw[aE (Ls x e (λz=>nomatch z))];exact x
theorem Mr (I:Inv X pins σ H s)(e:Rd H a (.dK kvs))(h:∀t b,Inv X pins σ H b->Q (.int kvs.length t) b):wpAny (model X.prog X.w) A (call (.builtin "len") [.ref a]) Q E s:=by obtain⟨z,hd,d,rel,c⟩:=sR I.hok e;refine call_len_dict hd c (by rw[<-rel.length];rw[ci]at z;omega) ?_;rw[<-rel.length];exact h _ _ (I.tok _)
def sS (i:Expr):Prop:=∀ov iv,og i false ov iv=operate [ov,iv] (mx ov iv)
theorem znm {id:String}
  (j:qv (.type T) "__getitem__"=pure (some (.builtin id))) (hs:sS slice)
  (h:wpAny (model prog w) A (eval value env) (λo c=>wpAny (model prog w) A (eval slice env) (λi a=>a.TypeIs o T/\wpAny (model prog w) A (mx o i) Q E a) E c) E s):
  wpAny (model prog w) A (eval (.Subscript value slice pos) env) Q E s:=by
 refine qw (ek h (λo c f=>ek f (λi a b=>?_) λ_ _ x=>x) λ_ _ x=>x);obtain⟨k,b⟩:=b;refine ac (ac (wpAny_specialOf k j ?_));have e:wpAny (model prog w) A (og slice false o i) (λr d=>wpAny (model prog w) A (letTemporaryGo value o r>>=λ_=>pure r) Q E d) E a:=by rw[hs o i];exact wpAny_operating (ek b (λr d g=>ac (wpAny_letTemporaryGo (bb g))) λ_ _ x=>x)
 first
  |exact bb (ac e)
  |exact ac (bb (ac e))
  |exact ac e
theorem FW (I:Inv X d f H s)(g:DGet H a y o):s.TypeIs (.ref a) "dict":=by
 rcases g with⟨kvs,k,e,_,_⟩|⟨kvs,k,b,e,_,_,_⟩
 ·obtain⟨_,_,h,_,c⟩:=sR I.hok e;exact c.typeIs
 ·obtain⟨_,_,i,_,c⟩:=zc9 I.hok e;exact c.typeIs
def FY (td ty:TE):TE:=λσ H Q=>td σ H λx H1=>ty σ H1 λy H2=>∃a v,x=.ref a/\DGet H2 a y (some v)/\Q v H2
theorem Mu (hu:X.A.units+1<cLine)(f:PE X o td)(j:PE X i ty)(hs:sS i):PE X (.Subscript o i pos) (FY td ty):=by intro b s d H Q I h;refine znm PySem.F.slot_dict_getitem.lookup hs (aI (f b s d H _ I h) λu k ⟨x,l,m,n,p⟩=>aI (j b k d l _ m p) λz B ⟨y,q,e,r,a,v,ex,g,t⟩=>?_);subst ex;obtain rfl:u=Value.ref a:=n;exact⟨FW e g,z8q hu e g r λC D w c=>⟨v,q,w,c,t⟩⟩
theorem AX (h:Heap)(a:i4<h.objs.size):z16 P w H (h.push {cls:=.type "dict",data:=.dict #[]}) h.objs.size (.dK []):=⟨cz _,beq_eq_false_iff_ne.mpr (Ne.symm (cc a)),[],.nil,Heap.DictOf.new h⟩
def FZ:TE:=λ_ H Q=>∀p,H p=none->Q (.ref p) (upd H p (.dK []))
theorem F6:PE X (.Dict [] [] pos) FZ:=λa s b H Q I h=>wpAny_Dict_empty ⟨.ref s.heap.objs.size,_,I.laid (λ_ _ q=>ak _ q) (ah _) (AX s.heap I.big),rfl,h _ (I.hok.fresh (ah _))⟩
def AY:List (TE×TE)->St->Hp->(List (V×V)->Hp->Prop)->Prop
 | [],_,H,Q=>Q [] H
 |(tk,tv)::r,σ,H,Q=>tk σ H λx H1=>tv σ H1 λy H2=>AY r σ H2 λps H3=>Q ((x,y)::ps) H3
abbrev VV:List (V×V)->List (Value×Value)->Prop:=jm λp q=>RelV p.1 q.1/\RelV p.2 q.2
def PPs (X:Cx)(pos:Pos)(keys:List (Option Expr))(values:List Expr)(AZ:List (TE×TE)):Prop:=∀(pins:List (Addr×Obj)) (s:bc) (σ:St) (H:Hp) (Q:List (V×V)->Hp->Prop),Inv X pins σ H s->AY AZ σ H Q->wpAny (model X.prog X.w) X.A (evalPairs (pairTrees keys values X.env pos)) (λvs s'=>∃ps H',Inv X pins σ H' s'/\VV ps vs/\Q ps H') X.xe s
theorem Mv:PPs X pos [] [] []:=λa s b H Q I h=>pairTrees_nil_walk ⟨[],H,I,.nil,h⟩
theorem z45 (d:PE X k e)(f:PE X v tv)(hr:PPs X pos ks g b):
  PPs X pos (some k::ks) (v::g) ((e,tv)::b):=λa s c H Q I h=>
 pairTrees_cons_walk (aI (d a s c H _ I h) λu i ⟨x,j,l,m,n⟩=>aI (f a i c j _ l n) λB o ⟨y,p,q,r,t⟩=>aI (hr a o c p _ q t) λC D ⟨ps,w,z,rel,A⟩=>⟨(x,y)::ps,w,z,.cons ⟨m,r⟩ rel,A⟩)
def sT (kvs more:List (Key×V)):List (Key×V):=more.foldl (λacc kv=>putK acc kv.1 kv.2) kvs
theorem KV.merge:∀{a:List (Key×V)} {rs:List (Key×Value)} {kvs:List (Key×V)} {b:List (Key×Value)},KV a rs->KV kvs b->KV (sT kvs a) (merged b rs):=by
 intro a rs kvs b r
 induction r generalizing kvs b with
 |nil=>intro q;exact q
 | @cons p q ps d h t c=>
  intro r0;have e:KV (putK kvs p.1 p.2) (stored b q.1 q.2):=by have:=r0.put p.1 h.2;rw[<-h.1];exact this
  exact c e
theorem Ga:∀a kvs,(sT kvs a).length<=kvs.length+a.length
 | [],kvs=>by show kvs.length<=kvs.length+0;omega
 |p::r,kvs=>by have b:=Ga r (putK kvs p.1 p.2);have c:=yG kvs p.1 p.2;show(sT (putK kvs p.1 p.2) r).length<=_;rw[bd];omega
theorem Gb:∀{kvs:List (Key×V)} {d:List (Value×Value)},VV (kvs.map λe=>(kV e.1,e.2)) d->∃rs,Carries (gA P w) d rs/\KV kvs rs
 | [],_,r=>by rw[List.map_nil]at r;cases r;exact⟨[],True.intro,.nil⟩
 |p::kvs,_,r=>by
  cases r with
  | @cons a b as bs h t=>obtain⟨rs,c,q⟩:=Gb t;obtain⟨g,f⟩:=b;exact⟨(p.1,f)::rs,⟨qQ h.1,rfl,c⟩,.cons ⟨rfl,h.2⟩ q⟩
def Ge (AZ:List (TE×TE)):TE:=λσ H Q=>∀p,H p=none->AY AZ σ (upd H p (.dK [])) λps H2=>H2 p=some (.dK [])/\∃kvs:List (Key×V),ps=kvs.map (λkv=>(kV kv.1,kv.2))/\kvs.length<=15/\Q (.ref p) (upd H2 p (.dK (sT [] kvs)))
theorem zlf (h:PPs X pos keys values f)(a:keys.all (·.isSome)=true)(j:keys.length=values.length)(h0:keys≠[])
  (g:keys.length<=15):PE X (.Dict keys values pos) (Ge f):=by
 intro b s k H Q I q;refine wpAny_Dict_walk (knd:=gA X.prog X.w) a j h0 g (aI (h b _ k _ _ (I.laid (t':=s.toks) (λ_ _ q=>ak _ q) (ah _) (AX s.heap I.big)) (q _ (I.hok.fresh (ah s.heap.objs.size)))) λt u ⟨ps,v,i,rel,e,kvs,ep,x,l⟩=>?_);subst ep;obtain⟨rs,c,m⟩:=Gb rel;obtain⟨z,hd,n,r0,o⟩:=vN i.hok e;cases r0;refine⟨rs,c,o,λy d hs=>⟨.ref s.heap.objs.size,_,?_,rfl,l⟩⟩;have p:(sT [] kvs).length<=ay:=by have r:=Ga kvs [];rw[nk]at r;rw[ci];omega
 exact z6q i (e▸True.intro) hs (let⟨q,_,_,hq,_⟩:=d;⟨q,hq⟩) (AW p hd (m.merge .nil) d)
structure M1 (X:Cx)(o:Expr)(m:Str)(apos:Pos)(e:Expr)(bN:Pos):Prop where
 base:jf o m X.env (eval o X.env)=eval o X.env
 Gf:((i5 bN (c8 [e] X.env)).all (λx=> !x.1)&&(n4 bN (kh [] X.env)).all (λx=>x.1.isSome) &&decide (([e]:List Expr).length+([]:List lv).length+(if([]:List lv).isEmpty then 0 else 1)<30))=true
 line:(apos.endLine==bN.line)=true
 trees:i5 bN (c8 [e] X.env)=[(false,eval e X.env)]
theorem znq (hu:A.units+1<cLine)(I:Inv X pins σ H s)(g:DGet H a y o)(i:RelV y u)(rd:RelV d r)(h:∀j m,Inv X pins σ H m->RelV (o.getD d) j->Q j m):
  wpAny (model X.prog X.w) A (call (.builtin "dict.get") [.ref a,u,r]) Q E s:=by
 rcases g with⟨kvs,k,e,f,l⟩|⟨kvs,k,b,e,f,n,l⟩
 ·subst f;obtain⟨z,hd,q,rel,c⟩:=sR I.hok e;refine pz PySem.F.slot_dict_get c.typeIs PySem.F.entry_dict_get (PySem.F.args_dict_get_3 _ _ _) (meets_dict_get_default (gA X.prog X.w) a (qQ i) hd r) ⟨_,c.mapOf,h _ _ (I.tok _) ?_⟩;rw[l];exact(rel.val k).getD rd
 ·subst f;cases i;obtain⟨z,hd,p,rel,c⟩:=zc9 I.hok e;refine pz PySem.F.slot_dict_get c.typeIs PySem.F.entry_dict_get (PySem.F.args_dict_get_3 _ _ _) (meetsH_dict_get_default (mh (gA X.prog X.w)) a b hd r) ⟨il hu,k,p,ux I.hok n,c,h _ _ (I.tok _) ?_⟩;rw[l];exact(rel.val k).getD rd
end L2
namespace HT
open PySem PyProof.Rows
theorem cat_tup (r:IsTup s.heap t d.toArray)(u:IsTup s.heap b a.toArray)(o:d≠[])
  (v:a=[]->Q (.ref t) s) (x:a≠[]->Q (.ref s.heap.objs.size) {s with heap:=s.heap.push {cls:=.type "tuple",data:=.seq (d++a).toArray}})
  (j:d.length+a.length<=ay):wpAny (model prog w) A (fy .Add (.ref t) (.ref b)) Q E s:=by
 obtain⟨⟨cls,p,data,sl⟩,h,y,n,hd⟩:=id r;obtain⟨⟨q,f,k,g⟩,c,l,n2,m⟩:=id u;subst y hd l m;have e:d.toArray++a.toArray=(d++a).toArray:=by simp
 by_cases i:a=[]
 ·exact my ⟨_,h,rfl⟩ ⟨_,c,rfl⟩ mj pc PySem.F.slot_tuple_add PySem.F.entry_tuple_add (PySem.F.args_tuple_add_2 _ _) (tuple_addW1 t b d.toArray a.toArray n n2 p f sl g (by simpa using o) (by simp[i])) ⟨h,c,v i⟩
 ·refine my ⟨_,h,rfl⟩ ⟨_,c,rfl⟩ mj pc PySem.F.slot_tuple_add PySem.F.entry_tuple_add (PySem.F.args_tuple_add_2 _ _)
   (tuple_addW2 t b d.toArray a.toArray n n2 p f sl g (by simpa using o) (by simpa using i) (bz▸j)) ⟨h,c,?_⟩
  rw[e];exact x i
def aZ (n d:Nat):Option Int->Nat
 |none=>d
 |some v=>if v<0 then(v+(n:Int)).toNat else min v.toNat n
theorem sU (n d:Nat)(hd:d<=n)(o:Option Int):aZ n d o<=n:=by
 cases o with
 |none=>exact hd
 |some v=>
  show(if v<0 then(v+n).toNat else min v.toNat n)<=n;by_cases a:v<0
  ·rw[rj a];omega
  ·rw[rq a];exact Nat.min_le_right _ _
theorem Gg (v:Int)(n d:Nat):(if v<0 then max (v+(n:Int)) 0 else min v (n:Int))=((aZ n d (some v):Nat):Int):=by
 show(if v<0 then max (v+n) 0 else min v n)=(((if v<0 then(v+n).toNat else min v.toNat n):Nat):Int);by_cases a:v<0
 ·simp only[rj a];omega
 ·simp only[rq a];omega
theorem Mw (a b:Option Int)(n:Nat):lq a b 1 (n:Int)=(((aZ n 0 a:Nat):Int),((aZ n n b:Nat):Int)):=by
 refine Prod.ext ?_ ?_
 ·cases a with
  |none=>rfl
  |some v=>exact Gg v n 0
 ·cases b with
  |none=>rfl
  |some v=>exact Gg v n n
theorem Mx (i j:Nat):gk (i:Int) (j:Int) 1=j-i:=by unfold gk;split<;>omega
theorem Gh (p:pu v o)(h:Q o s):wpAny (model prog w) A (Builtin.Slice.slicePartIndex v) Q E s:=by
 cases p with
 |none=>exact slicePart_none h
 |int i t=>exact slicePart_int h
theorem z41 {a:Option Int}{n:Nat}(hs:s.heap.IsSliceOf sl e f .none)(pl:pu e a)(g:pu f d)
  (h:Q (((aZ n 0 a:Nat):Int),1,aZ n n d-aZ n 0 a) s):wpAny (model prog w) A (Builtin.Slice.sliceApplied (.ref sl) (pure n)) Q E s:=by
 obtain⟨os,b,i,c⟩:=id hs;refine ac (ac (gf b c rfl (ac (gf b c rfl (ac (gf b c rfl (bb ?_)))))));refine ac (slicePart_none ?_);refine ac (Gh pl (ac (Gh g (ac (bb ?_)))));show wpAny _ _ (match lq a d 1 n with|(a,d)=>pure (a,(1:Int),gk a d 1)) _ _ s;rw[Mw a d n];show wpAny _ _ (pure (((aZ n 0 a:Nat):Int),1,gk ((aZ n 0 a:Nat):Int) ((aZ n n d:Nat):Int) 1)) _ _ s;rw[Mx];exact bb h
theorem My (a:Array Value)(i k:Nat):((bu k).filterMap λ(m:Nat)=>a[((i:Int)+(m:Int)*1).toNat]?).toArray=((a.toList.drop i).take k).toArray:=by
 have e:(λ(m:Nat)=>a[((i:Int)+m*1).toNat]?)=λm=>a[i+m]?:=by
  funext m
  have:((i:Int)+m*1).toNat=i+m:=by omega
  rw[this]
 rw[e];have:=pick_run a i k;rw[List.filterMap_map]at this;have b:((λx=>a[x]?)∘λx=>i+x)=λm=>a[i+m]?:=rfl;rw[b]at this;rw[this]
theorem getItem_tuple_cut {b:Option Int}(d:IsTup s.heap t items)(hs:s.heap.IsSliceOf sl i j .none)(pl:pu i b)(k:pu j c)
  (l:¬(aZ items.size 0 b=0/\aZ items.size items.size c=items.size))
  (h:Q (.ref s.heap.objs.size) {s with heap:=s.heap.push {cls:=.type "tuple",data:=.seq ((items.toList.drop (aZ items.size 0 b)).take (aZ items.size items.size c-aZ items.size 0 b)).toArray}})
  (m:items.size<=ay):wpAny (model prog w) A (mx (.ref t) (.ref sl)) Q E s:=by
 have a:sizeOk (.seq ((items.toList.drop (aZ items.size 0 b)).take (aZ items.size items.size c-aZ items.size 0 b)).toArray):=by show((items.toList.drop (aZ items.size 0 b)).take (aZ items.size items.size c-aZ items.size 0 b)).toArray.size<=ay;rw[bz,dw,ml,jb];omega
 obtain⟨os,e,f,n⟩:=id hs;unfold mx
 try with_reducible refine fj ?_
 first|refine ac (bb ?_)|skip
 refine ac (wpAny_sequenceKey d.typeIs dc ?_);refine ac (jt d.typeIs PyProof.Rows.slot_tuple_getitem (j8 PyProof.Rows.slot_tuple_getitem d.typeIs entry_tuple_getitem ?_ (args_tuple_getitem _ _)));show wpAny _ _ (Builtin.Tuple.tupleItemsOf (.ref t)>>=_) _ _ s;refine ac (tupleItemsOf_ d ?_);refine ac (k8 ⟨os,e,f⟩ ?_);refine ac (z41 hs pl k ?_);have g:¬((((aZ items.size 0 b:Nat):Int)==0&&(1:Int)==1&&(aZ items.size items.size c-aZ items.size 0 b)==items.size)=true):=by intro q;rw[bt,bt]at q;have o:=eq_of_beq q.1.1;have p:=eq_of_beq q.2;exact l ⟨by omega,by omega⟩
 show wpAny _ _ (if(((aZ items.size 0 b:Nat):Int)==0&&1==1&&(aZ items.size items.size c-aZ items.size 0 b)==items.size)=true then _ else _) _ _ s;rw[rq g,My]
 first
  |exact ac (gv (bb ⟨_,rfl,bb h⟩) a)
  |exact ac (gv (ac (bb (bb ⟨_,rfl,bb h⟩))) a)
  |exact ac (ac (gv (bb (bb ⟨_,rfl,bb h⟩)) a))
  |exact ac (ac (gv (bb ⟨_,rfl,bb h⟩) a))
end HT
namespace L2
open PySem PySem.Spec PyProof.Rows
abbrev TO:=St->Hp->(Option Int->Hp->Prop)->Prop
def PO (X:Cx)(e:Option Expr)(t:TO):Prop:=∀(pins:List (Addr×Obj)) (s:bc) (σ:St) (H:Hp) (Q:Option Int->Hp->Prop),Inv X pins σ H s->t σ H Q->wpAny (model X.prog X.w) X.A (evalPart e X.env) (λu s'=>∃o H',Inv X pins σ H' s'/\pu u o/\Q o H') X.xe s
def Mz:TO:=λ_ H Q=>Q none H
def MA (t:TE):TO:=λσ H Q=>t σ H λx H1=>∃i,x=.int i/\Q (some i) H1
section
variable {X:Cx}{e:Expr}{te:TE}{lo hi:Option Expr}{tl th:TO}{pos p2:Pos}
theorem MB:PO X none Mz:=by intro a s b H Q I h;exact bb ⟨none,H,I,.none,h⟩
theorem MC (h:PE X e te):PO X (some e) (MA te):=by intro a s b H Q I c;refine aI (h a s b H _ I c) λu j ⟨x,H1,d,f,g⟩=>?_;obtain⟨i,rfl,q⟩:=g;obtain⟨t,rfl⟩:=f;exact⟨some i,H1,d,.int i t,q⟩
def nV (X:Cx)(r:V->Option Int->Option Int->Hp->VK->Prop):Prop:=∀(pins:List (Addr×Obj)) (s:bc) (σ:St) (H:Hp) (x:V) (v vl vu:Value) (lo hi:Option Int) (sl:Addr) (Q:VK),Inv X pins σ H s->RelV x v->s.heap.IsSliceOf sl vl vu .none->pu vl lo->pu vu hi->r x lo hi H Q->∃T id,qv (.type T) "__getitem__"=pure (some (.builtin id))/\s.TypeIs v T/\wpAny (model X.prog X.w) X.A (mx v (.ref sl)) (EP X pins σ Q) X.xe s
theorem nV.or (h:nV X r)(g:nV X i):nV X (λx lo hi H Q=>r x lo hi H Q\/i x lo hi H Q):=by
 intro a s b H x v c d lo hi sl Q I e hs pl f q;rcases q with q|q
 ·exact h a s b H x v c d lo hi sl Q I e hs pl f q
 ·exact g a s b H x v c d lo hi sl Q I e hs pl f q
def MD (r:V->Option Int->Option Int->Hp->VK->Prop)(te:TE)(tl th:TO):TE:=λσ H Q=>te σ H λx H1=>tl σ H1 λl H2=>th σ H2 λu H3=>r x l u H3 Q
theorem ME (hr:nV X r)(j:PE X e te)(k:PO X lo tl)(hu:PO X hi th):PE X (.Subscript e (.Slice lo hi none p2) pos) (MD r te tl th):=by
 intro a s c H Q I h;refine qw (aI (j a s c H _ I h) ?_)
 rintro v m ⟨x,H1,n,o,p⟩
 refine wpAny_Slice (aI (k a m c H1 _ n p) λf t ⟨l,w,y,pl,z⟩=>aI (hu a t c w _ y z) ?_)
 rintro g d ⟨u,i,A,B,C⟩
 refine bb ?_;have D:Inv X a c i {d with heap:=d.heap.push {cls:=.type "slice",data:=.fields #[f,g,.none]}}:=A.kept λb ob q=>ak _ q;obtain⟨T,id,E,F,G⟩:=hr a {d with heap:=d.heap.push {cls:=.type "slice",data:=.fields #[f,g,.none]}} c i x v f g l u d.heap.objs.size Q D o (Heap.IsSliceOf.new ..) pl B C;exact tail_any F E G (by with_unfolding_all rfl)
def oJ (xs:List V)(lo hi:Option Int):List V:=(xs.drop (HT.aZ xs.length 0 lo)).take (HT.aZ xs.length xs.length hi-HT.aZ xs.length 0 lo)
theorem Gi (a:List V)(lo hi:Option Int):(oJ a lo hi).length<=a.length:=by unfold oJ;rw[dw,ml];omega
def A0 (K:W.Frag):V->Option Int->Option Int->Hp->VK->Prop:=λx lo hi H Q=>∃a xs,x=.ref a/\cB K H a xs/\¬(HT.aZ xs.length 0 lo=0/\HT.aZ xs.length xs.length hi=xs.length)/\∀p,H p=none->Q (.ref p) (upd H p (.tup (oJ xs lo hi)))
theorem MF:nV X (A0 X.K):=by
 rintro f s m H x v n o lo hi sl Q I i hs pl j ⟨a,d,rfl,k,l,q⟩
 cases i;obtain⟨e,r,g,h⟩:=I.tuple k;have c:e.toArray.size=d.length:=bz▸r.length.symm;refine⟨"tuple",_,PyProof.Rows.slot_tuple_getitem.lookup,g.typeIs,?_⟩;refine HT.getItem_tuple_cut g hs pl j (c▸l) ?_ (c▸h);rw[c];refine⟨.ref s.heap.objs.size,_,I.laid (λb ob q=>ak _ q) (ah _) ?_,rfl,q _ (I.hok.fresh (ah _))⟩;exact⟨bq (Gi d lo hi) h,_,(r.drop (HT.aZ d.length 0 lo)).take (HT.aZ d.length d.length hi-HT.aZ d.length 0 lo),TupN.new _ _⟩
def Gj (K:W.Frag):R2:=λx y H Q=>∃a b xs ys,x=.ref a/\y=.ref b/\cB K H a xs/\cB K H b ys/\xs≠ []/\xs.length+ys.length<=ay/\(ys=[]->Q (.ref a) H)/\(ys≠[]->∀p,H p=none->Q (.ref p) (upd H p (.tup (xs++ys))))
theorem Vals.gK (r:Vals a b):b=[]↔a=[]:=by
 cases r with
 |nil=>simp
 |cons _ _=>simp
theorem MG:OpR X (fy .Add) (Gj X.K):=by
 rintro e s r H x y v u Q I h i ⟨a,b,t,A,rfl,rfl,j,k,l,f,m,n⟩
 cases h;cases i;obtain⟨o,d,p,_⟩:=I.tuple j;obtain⟨g,c,p2,_⟩:=I.tuple k;refine HT.cat_tup p p2 (λz=>l (d.gK.mp z)) (λz=>⟨.ref a,H,I,rfl,m (c.gK.mp z)⟩) (λz=>?_) (by rw[<-d.length,<-c.length];exact f);refine⟨.ref s.heap.objs.size,_,I.laid (λb ob q=>ak _ q) (ah _) ?_,rfl,n (λw=>z (c.gK.mpr w)) _ (I.hok.fresh (ah _))⟩;exact⟨by rw[av];exact f,_,d.append c,TupN.new _ _⟩
end
def iG (n:Nat)(i:Int):Option Nat:=if 0<=i then(if i<n then some i.toNat else none)else if -(n:Int)<=i then some (i+n).toNat else none
def bW {α:Type}(xs:List α)(i:Int):Option α:=(iG xs.length i).bind λj=>xs[j]?
theorem Gk (h:iG n i=some j):seqIndex? i n=some j/\j<n/\-(n:Int)<=i/\i<n:=by
 unfold iG at h;by_cases h0:0<=i
 ·rw[rj h0]at h;by_cases a:i<n
  ·rw[rj a]at h;have e:=se h;exact⟨by rw[qp h0 a,e],by omega,by omega,a⟩
  ·rw[rq a]at h;cases h
 ·rw[rq h0]at h;by_cases a:-n<=i
  ·rw[rj a]at h;have e:=se h;exact⟨by rw[p4 (by omega) a,e],by omega,a,by omega⟩
  ·rw[rq a]at h;cases h
theorem A4 (h:bW a i=some v):∃j,seqIndex? i a.length=some j/\a[j]?=some v/\j<a.length/\-(a.length:Int)<=i/\i<a.length:=by
 unfold bW at h;cases e:iG a.length i with
 |none=>rw[e]at h;cases h
 |some j=>rw[e]at h;obtain⟨b,c,d,f⟩:=Gk e;exact⟨j,b,h,c,d,f⟩
def Gn (b:Expr):Prop:=∀o i,og b false o i=operate [o,i] (mx o i)
def kY (X:Cx)(r:R2):Prop:=∀(value slice:Expr) (pins:List (Addr×Obj)) (s:bc) (σ:St) (H:Hp) (x y:V) (v u:Value) (Q:VK),Inv X pins σ H s->RelV x v->RelV y u->r x y H Q->og slice false v u=operate [v,u] (mx v u)->wpAny (model X.prog X.w) X.A (subscriptTail value slice v u) (EP X pins σ Q) X.xe s
def MtR (X:Cx)(id:String)(r:V->List V->Hp->VK->Prop):Prop:=∀(pins:List (Addr×Obj)) (s:bc) (σ:St) (H:Hp) (x:V) (xs:List V) (v:Value) (us:List Value) (Q:VK),Inv X pins σ H s->RelV x v->Vals xs us->r x xs H Q->wpAny (model X.prog X.w) X.A (call (.builtin id) (v::us)) (EP X pins σ Q) X.xe s
section
variable {X:Cx}
theorem kY.or (h:kY X r)(g:kY X i):kY X (λx y H Q=>r x y H Q\/i x y H Q):=by
 intro a b c s d H x y v u Q I e f q hs;rcases q with q|q
 ·exact h a b c s d H x y v u Q I e f q hs
 ·exact g a b c s d H x y v u Q I e f q hs
theorem A5 (hr:kY X r)(d:PE X a ta)(e:PE X b tb)(hs:Gn b):PE X (.Subscript a b pos) (jH r ta tb):=by intro c s f H Q I h;exact qw (binT d e I h λv u g x y i j k l q=>hr a b c g f i x y v u Q j k l q (hs _ _))
def vO (K:W.Frag):R2:=λx y H Q=>∃p xs i v,x=.ref p/\y=.int i/\SqL K H p xs/\bW xs i=some v/\Q v H
def vP (K:W.Frag):R2:=λx y H Q=>∃p xs i v,x=.ref p/\y=.int i/\cB K H p xs/\bW xs i=some v/\Q v H
def vQ:R2:=λx y H Q=>∃z i c,x=.str z/\y=.int i/\z.length<=ay/\bW z.cps.toList i=some c/\Q (.str ⟨#[c]⟩) H
theorem MH:kY X (vO X.K):=by
 intro d e a s m H x y v u Q I n o h hs;obtain⟨p,G,i,z,rfl,rfl,A,B,q⟩:=h;cases n;obtain⟨t,rfl⟩:=o;obtain⟨f,r,pl,J⟩:=I.list A;obtain⟨j,c,C,L,D,E⟩:=A4 B;obtain⟨w,l,g⟩:=r.get C;have F:=r.length;have hn:=sI;have b:EP X a m Q w s:=⟨z,H,I,g,q⟩;by_cases h0:0<=i
 ·have k:i.toNat=j:=by
   rw[qp h0 E]at c;exact se c
  exact item_listR pl.isList h0 (by omega) (by rw[k];simpa using l) b hs
 ·have k:(i+f.toArray.size).toNat=j:=by
   rw[p4 (by omega) D]at c;rw[bz,<-F];exact se c
  exact mz pl.isList.typeIs slot_list_getitem.lookup (wpAny_getItem_list_neg pl.isList (by omega) (by rw[bz]<;>omega) (by omega) (by rw[k];simpa using l) ⟨rfl,b⟩) hs
theorem MI:kY X (vP X.K):=by intro a b d s A H x y v u Q I e f h hs;obtain⟨p,B,i,z,rfl,rfl,g,k,q⟩:=h;cases e;obtain⟨t,rfl⟩:=f;obtain⟨l,r,pl,C⟩:=I.tuple g;obtain⟨j,m,n,D,E,F⟩:=A4 k;obtain⟨w,o,c⟩:=r.get n;have hn:=sI;exact mz pl.typeIs slot_tuple_getitem.lookup (getItem_tuple pl (by omega) (by omega) (by rw[bz,<-r.length];exact m) (by simpa using o) ⟨rfl,⟨z,H,I,c,q⟩⟩) hs
theorem A6:kY X vQ:=by
 intro a b d s p H x y v u Q I f g h hs;obtain⟨z,i,c,rfl,rfl,r,k,q⟩:=h;obtain⟨t,rfl⟩:=f;obtain⟨w,rfl⟩:=g;obtain⟨j,e,l,A,m,n⟩:=A4 k;have o:z.cps.toList.length=z.length:=by simp[Str.length]
 rw[o]at e m n;have hn:=sI;exact tail_any (qx s z t) slot_str_getitem.lookup (getItem_str (by rw[decide_eq_false (by omega),decide_eq_false (by omega),Bool.or_false]) (by rw[e];simpa using l) ⟨.str ⟨#[c]⟩,H,I.tok _,⟨_,rfl⟩,q⟩) hs
def vR (K:W.Frag):R2:=λx y H Q=>vO K x y H Q\/vP K x y H Q\/vQ x y H Q
theorem Gp:kY X (vR X.K):=MH.or (MI.or A6)
theorem MJ (a:List Value)(n j:Nat)(u:Value):Obj.mapSeq (·.setIfInBounds j u) {cls:=.type "list",data:=.seq a.toArray n}={cls:=.type "list",data:=.seq (a.set j u).toArray n}:=by simp[Obj.mapSeq]
theorem Inv.lst {b:List (Addr×Obj)}{σ:St}{H:Hp}{s:bc}{p:Addr}{xs:List V}(I:Inv X b σ H s)(h:H p=some (.lst xs)):
  ∃a n,Vals xs a/\s.heap.get? p=some {cls:=.type "list",data:=.seq a.toArray n}/\xs.length<=ay:=by
 obtain⟨z,a,n,r,e⟩:=I.hok p _ h;exact⟨a,n,r,e,z⟩
theorem Inv.lstUpd {a:List Value}(I:Inv X c d H s)(h:H p=some (.lst k))
  (g:s.heap.get? p=some {cls:=.type "list",data:=.seq a.toArray n}) (hf:f {cls:=.type "list",data:=.seq a.toArray n}={cls:=.type "list",data:=.seq jZ.toArray n'}) (r:Vals ys jZ) (i:ys.length<=ay) t:
  Inv X c d (upd H p (.lst ys)) {s with heap:=s.heap.update p f,toks:=t}:=by
 have e:(s.heap.update p f).get? p=some {cls:=.type "list",data:=.seq jZ.toArray n'}:=by rw[gj f g (by rw[hf]<;>rfl),hf]
 refine I.write (by rw[h];trivial) (.inl rfl) (λb u j q=>(er _ _ (Ne.symm j)).trans q) ⟨_,e⟩ ?_;exact⟨i,jZ,n',r,e⟩
def Gq:V->V->V->Hp->(Hp->Prop)->Prop:=λo i v H Q=>∃p xs k j,o=.ref p/\i=.int k/\H p=some (.lst xs)/\iG xs.length k=some j/\Q (upd H p (.lst (xs.set j v)))
theorem set_list:AK X Gq:=by
 rintro a s w H o i v D E u Q I x y z ⟨p,A,k,j,rfl,rfl,g,B,q⟩
 cases x;obtain⟨t,rfl⟩:=y;obtain⟨b,n,r,d,C⟩:=I.lst g;obtain⟨c,F,h,l⟩:=Gk B;have e:=r.length;have hn:=sI;have m:Inv X a w (upd H p (.lst (A.set j v))) {s with heap:=s.heap.update p (Obj.mapSeq (·.setIfInBounds j u))}:=I.lstUpd g d (MJ b n j u) (r.set z j) (by rw[cn];exact C) s.toks;by_cases h0:0<=k
 ·have f:k.toNat=j:=by
   rw[qp h0 l]at c;exact se c
  exact W.ki_setAt d h0 (by omega) (by rw[bz,<-e];exact l) (f▸⟨_,m,q⟩)
 ·have f:(k+b.toArray.size).toNat=j:=by
   rw[p4 (by omega) h]at c;rw[bz,<-e];exact se c
  exact W.ki_setBack d (by omega) (by rw[bz,<-e];exact h) (by omega) (f▸⟨_,m,q⟩)
theorem MK (a b:Option Int)(n:Nat):(ju a b none n).1=((HT.aZ n 0 a:Nat):Int)/\(ju a b none n).2.1=((HT.aZ n n b:Nat):Int)/\(ju a b none n).2.2=1:=by
 refine⟨?_,?_,rfl⟩
 ·cases a with
  |none=>simp[ju,HT.aZ]
  |some i=>
   simp only[ju,HT.aZ,Option.getD_none,show 1>0 by decide,if_true];by_cases h:i<0
   ·simp only[h,if_true]<;>omega
   ·simp only[h,if_false]<;>omega
 ·cases b with
  |none=>simp[ju,HT.aZ]
  |some i=>
   simp only[ju,HT.aZ,Option.getD_none,show 1>0 by decide,if_true];by_cases h:i<0
   ·simp only[h,if_true]<;>omega
   ·simp only[h,if_false]<;>omega
theorem ML (a:List Value)(b c:Option Int):slicePick a.toArray b c none=((a.drop (HT.aZ a.length 0 b)).take (HT.aZ a.length a.length c-HT.aZ a.length 0 b)).toArray:=by obtain⟨d,e,f⟩:=MK b c a.toArray.size;unfold slicePick;rw[d,e,f];simp only[oh,pick_run,bz]<;>rfl
def vS (K:W.Frag):V->Option Int->Option Int->Hp->VK->Prop:=λx lo hi H Q=>∃a xs,x=.ref a/\SqL K H a xs/\∀p,H p=none->Q (.ref p) (upd H p (.lst (oJ xs lo hi)))
theorem MM:nV X (vS X.K):=by
 rintro f s n H x v o p e g sl Q I i hs pl j ⟨a,c,rfl,k,q⟩
 cases i;obtain⟨l,r,h,m⟩:=I.list k;have d:=r.length;refine⟨"list",_,slot_list_getitem.lookup,h.isList.typeIs,?_⟩;refine wpAny_getItem_list_slice h.isList hs pl j .none (by simp) ?_ (by rw[bz]<;>omega);rw[ML,<-d];refine⟨.ref s.heap.objs.size,_,I.laid (λb ob q=>ak _ q) (ah _) ?_,rfl,q _ (I.hok.fresh (ah _))⟩;exact⟨bq (Gi c e g) m,_,0,(r.drop (HT.aZ c.length 0 e)).take (HT.aZ c.length c.length g-HT.aZ c.length 0 e),br _ rfl⟩
def qR:V->Bool
 |.aK=>true
 |.bl _=>true
 |.int _=>true
 |.str _=>true
 |_=>false
def qT:V->V->Bool
 |.aK,.aK=>true
 |.bl a,.bl b=>a==b
 |.bl a,.int b=>(if a then 1 else 0)==b
 |.int a,.bl b=>a==(if b then 1 else 0)
 |.int a,.int b=>a==b
 |.str a,.str b=>a==b
 |_,_=>false
theorem MN (e:RelV y u)(c:RelV x v)(f:qR y=true)(fx:qR x=true):SeqAt.EqAt A s u v (qT y x):=by
 cases y with
 |aK=>
  cases e;cases x with
  |aK=>cases c;exact SeqAt.EqAt.same _
  |bl b=>cases c;exact SeqAt.EqAt.none_bool b
  |int b=>obtain⟨t,rfl⟩:=c;exact SeqAt.EqAt.none_int b t
  |str b=>obtain⟨t,rfl⟩:=c;exact SeqAt.EqAt.none_str b t
  |_=>exact absurd fx dq
 |bl a=>
  cases e;cases x with
  |aK=>cases c;exact SeqAt.EqAt.bool_none a
  |bl b=>cases c;exact SeqAt.EqAt.bool_bool a b
  |int b=>obtain⟨t,rfl⟩:=c;exact SeqAt.EqAt.bool_int a b t
  |str b=>obtain⟨t,rfl⟩:=c;exact SeqAt.EqAt.bool_str a b t
  |_=>exact absurd fx dq
 |int a=>
  obtain⟨d,rfl⟩:=e;cases x with
  |aK=>cases c;exact SeqAt.EqAt.int_none a d
  |bl b=>cases c;exact SeqAt.EqAt.int_bool a d b
  |int b=>obtain⟨t,rfl⟩:=c;exact SeqAt.EqAt.int_int a d b t
  |str b=>obtain⟨t,rfl⟩:=c;exact SeqAt.EqAt.int_str a d b t
  |_=>exact absurd fx dq
 |str a=>
  obtain⟨d,rfl⟩:=e;cases x with
  |aK=>cases c;exact SeqAt.EqAt.str_none a d
  |bl b=>cases c;exact SeqAt.EqAt.str_bool a d b
  |int b=>obtain⟨t,rfl⟩:=c;exact SeqAt.EqAt.str_int a d b t
  |str b=>obtain⟨t,rfl⟩:=c;exact SeqAt.EqAt.str_str a d b t
  |_=>exact absurd fx dq
 |_=>exact absurd f dq
def iQ (x:V)(u:Value):Bool:=match u with
 |.none=>qT .aK x
 |.bool b=>qT (.bl b) x
 |.int i _=>qT (.int i) x
 |.str z _=>qT (.str z) x
 |_=>false
theorem Gr (r:RelV y u)(f:qR y=true):iQ x u=qT y x:=by
 cases y with
 |aK=>cases r;rfl
 |bl b=>cases r;rfl
 |int i=>obtain⟨t,rfl⟩:=r;rfl
 |str z=>obtain⟨t,rfl⟩:=r;rfl
 |_=>exact absurd f dq
theorem yH {a:List V}{b:List Value}(h:Vals a b)(f:a.all qR=true):b.any (iQ x)=a.any λy=>qT y x:=by
 induction h with
 |nil=>rfl
 |cons r t i=>rw[cx,bt]at f;rw[gz,gz,Gr r f.1,i f.2]
theorem vU (c:RelV x v)(fx:qR x=true):∀{a:List V} {b:List Value},Vals a b->a.all qR=true->∀u∈b,SeqAt.EqAt A s u v (iQ x u)
 |_,_,.nil,_=>λu hu=>by cases hu
 |y::a,u::b,.cons r t,f=>λd hu=>by
  rw[cx,bt]at f;rcases az.mp hu with rfl|hu
  ·rw[Gr r f.1];exact MN r c f.1 fx
  ·exact vU c fx t f.2 d hu
def Gs (x:V)(xs:List V):Bool:=xs.any λy=>qT y x
def A8 (K:W.Frag)(neg:Bool):R2:=λx y H Q=>∃p xs,y=.ref p/\(SqL K H p xs\/cB K H p xs)/\qR x=true/\xs.all qR=true/\Q (.bl (if neg then !Gs x xs else Gs x xs)) H
theorem MO:OpR X (cw .In) (A8 X.K false):=by
 rintro d s h H x y v u Q I e f ⟨p,i,rfl,b,fx,fs,q⟩
 cases f;rcases b with b|b
 ·obtain⟨a,r,pl,g⟩:=I.list b;refine SeqAt.in_listAt (iQ x) pl.isList (λw c=>vU e fx r fs w (by simpa using c)) ⟨.bl _,H,I,rfl,?_⟩;rw[show a.toArray.any (iQ x)=a.any (iQ x) by simp,yH r fs];exact q
 ·obtain⟨a,r,pl,g⟩:=I.tuple b;refine SeqAt.in_tupleAt (iQ x) pl (λw c=>vU e fx r fs w (by simpa using c)) ⟨.bl _,H,I,rfl,?_⟩;rw[show a.toArray.any (iQ x)=a.any (iQ x) by simp,yH r fs];exact q
theorem MP:OpR X (cw .NotIn) (A8 X.K true):=by
 rintro d s h H x y v u Q I e f ⟨p,i,rfl,b,fx,fs,q⟩
 cases f;rcases b with b|b
 ·obtain⟨a,r,pl,g⟩:=I.list b;refine SeqAt.notIn_listAt (iQ x) pl.isList (λw c=>vU e fx r fs w (by simpa using c)) ⟨.bl _,H,I,rfl,?_⟩;rw[show a.toArray.any (iQ x)=a.any (iQ x) by simp,yH r fs];exact q
 ·obtain⟨a,r,pl,g⟩:=I.tuple b;refine SeqAt.notIn_tupleAt (iQ x) pl (λw c=>vU e fx r fs w (by simpa using c)) ⟨.bl _,H,I,rfl,?_⟩;rw[show a.toArray.any (iQ x)=a.any (iQ x) by simp,yH r fs];exact q
theorem MQ:OpR X (cw .NotIn) (λx y H Q=>∃i j,x=.str i/\y=.str j/\Q (.bl (!(!(g6 j i 0 j.length 1).isEmpty))) H):=by
 rintro a s d H x y v u Q I b c ⟨i,j,rfl,rfl,q⟩
 obtain⟨t,rfl⟩:=b;obtain⟨e,rfl⟩:=c;exact notIn_str ⟨.bl _,H,I,rfl,q⟩
theorem MR:CallR X (.builtin "len") (λf H Q=>∃p b,f=[.ref p]/\(SqL X.K H p b\/cB X.K H p b)/\Q (.int b.length) H):=by
 rintro g s i H f j Q I r ⟨p,b,rfl,c,q⟩
 obtain⟨u,rfl,rfl⟩:=vals1 r;have hn:=sI;rcases c with c|c
 ·obtain⟨d,e,pl,h⟩:=I.list c;have a:=e.length;exact Calls.call_len_list pl.isList (by simp<;>omega) ⟨.int b.length,H,I.tok _,⟨s.toks+1,by rw[bz,a]⟩,q⟩
 ·obtain⟨d,e,pl,h⟩:=I.tuple c;have a:=e.length;exact len_tuple pl (by simp<;>omega) ⟨.int b.length,H,I.tok _,⟨s.toks+1,by rw[bz,a]⟩,q⟩
theorem MS:CallR X (.builtin "len") (λa H Q=>∃z,a=[.str z]/\z.length<=ay/\Q (.int z.length) H):=by
 rintro b s c H a d Q I r ⟨z,rfl,e,q⟩
 obtain⟨u,rfl,t,rfl⟩:=vals1 r;have hn:=sI;exact len_str (by omega) ⟨.int z.length,H,I.tok _,⟨_,rfl⟩,q⟩
theorem CallR.or (h:CallR X f r)(e:CallR X f g):CallR X f (λb H Q=>r b H Q\/g b H Q):=by
 intro a s c H b d Q I rs q;rcases q with q|q
 ·exact h a s c H b d Q I rs q
 ·exact e a s c H b d Q I rs q
theorem MT:CallR X (.type "tuple") (λj H Q=>∃p d,j=[.ref p]/\((SqL X.K H p d/\∀l,H l=none->Q (.ref l) (upd H l (.tup d)))\/(cB X.K H p d/\Q (.ref p) H))):=by
 rintro a s k H j w Q I r ⟨p,d,rfl,h⟩
 obtain⟨u,rfl,rfl⟩:=vals1 r;rcases h with⟨g,q⟩|⟨g,q⟩
 ·obtain⟨c,i,pl,m⟩:=I.list g;have n:=i.length;refine call_tuple_list pl.isList (λf kp=>?_) (by simp<;>omega);have t:Inv X a k H {s with heap:=f}:=I.kept kp;have v:Inv X a k (upd H f.objs.size (.tup d)) {s with heap:=f.push {cls:=.type "tuple",data:=.seq c.toArray}}:=t.laid (λb o e=>ak _ e) (ah _) (⟨m,c,i,TupN.new _ _⟩);exact⟨.ref f.objs.size,_,v,rfl,q _ (t.hok.fresh (ah _))⟩
 ·obtain⟨c,i,pl,m⟩:=I.tuple g;exact call_tuple_same pl ⟨.ref p,H,I,rfl,q⟩
def tyV (K:W.Frag)(T:String)(x:V)(H:Hp):Prop:=match x with
 |.str _=>T="str"
 |.int _=>T="int"
 |.ref p=>(T="list"/\∃xs,SqL K H p xs)\/(T="tuple"/\∃o,K.lookup p=some o/\o.cls=.type "tuple"/\o.dict=none)\/(T="dict"/\((∃kvs,H p=some (.dK kvs))\/∃kvs,H p=some (.dT kvs)))\/(T="set"/\∃S n,H p=some (.set S n))
 |_=>False
theorem zir (I:Inv X f k H s)(r:RelV x v)(ty:tyV X.K T x H):
  s.TypeIs v T/\∀a,v=.ref a->∃ob,s.heap.get? a=some ob/\ob.dict=none:=by
 cases x with
 |str z=>obtain⟨t,rfl⟩:=r;cases ty;exact⟨qx s z t,λ_ e=>nomatch e⟩
 |int i=>obtain⟨t,rfl⟩:=r;cases ty;exact⟨typeIs_int s i t,λ_ e=>nomatch e⟩
 |ref p=>
  cases r;rcases ty with⟨rfl,l,g⟩|⟨rfl,o,b,h,hd⟩|⟨rfl,b⟩|⟨rfl,S,n,b⟩
  ·obtain⟨j,_,pl,_⟩:=I.list g;refine⟨pl.isList.typeIs,λa e=>?_⟩;cases e;obtain⟨o,n,e,c,hd,_⟩:=pl;exact⟨o,e,hd⟩
  ·refine⟨⟨o,I.cM p o b,h⟩,λa e=>?_⟩;cases e;exact⟨o,I.cM _ o b,hd⟩
  ·have z:∃o,s.heap.get? p=some o/\o.ExactDict:=by
    rcases b with⟨kvs,b⟩|⟨kvs,b⟩
    ·obtain⟨_,_,_,_,o,_,_,e,ex,_⟩:=I.hok p _ b;exact⟨o,e,ex⟩
    ·obtain⟨_,_,_,_,o,_,_,e,ex,_⟩:=I.hok p _ b;exact⟨o,e,ex⟩
   obtain⟨o,e,ex⟩:=z;refine⟨⟨o,e,ex.1⟩,λa d=>?_⟩;cases d;exact⟨o,e,ex.2.1⟩
  ·obtain⟨o,_,_,_,e,ex,_⟩:=I.hok p _ b;refine⟨⟨o,e,ex.1⟩,λa d=>?_⟩;cases d;exact⟨o,e,ex.2.1⟩
 |_=>exact False.elim ty
def lR (K:W.Frag)(T:String)(r:V->List V->Hp->VK->Prop)(to:TE):TE:=λσ H Q=>to σ H λx H1=>tyV K T x H1/\r x [] H1 Q
def A9 (K:W.Frag)(T:String)(r:V->List V->Hp->VK->Prop)(to:TE)(t:TA):TE:=λσ H Q=>to σ H λx H1=>tyV K T x H1/\t σ H1 λxs H2=>r x xs H2 Q
variable {o e:Expr}{es:List Expr}{to:TE}{t:TA}{name:Str}{apos bN:Pos}{T id:String}{r:V->List V->Hp->VK->Prop}
theorem zis (i:qy T)(slot:Slot T name id)(d:qo (.builtin id)=pure (.type "method_descriptor"))(hm:MtR X id r)(j:PE X o to)
  (b:jf o name X.env (eval o X.env)=eval o X.env:=by rfl) (c:(apos.endLine==bN.line)=true:=by rfl):PE X (.Call (.Attribute o name apos) [] [] bN) (lR X.K T r to):=by
 intro a s e H Q I h;refine wpAny_Call_method0_late b c (aI (j a s e H _ I h) ?_)
 rintro v k ⟨x,H1,f,g,ty,l⟩
 obtain⟨m,n⟩:=zir f g ty;exact⟨T,id,i,slot,d,m,n,m4 rfl (PySem.evalArgs_none (hm a k e H1 x [] v [] Q f g .nil l))⟩
theorem zng (m:qy T)(slot:Slot T name id)(g:qo (.builtin id)=pure (.type "method_descriptor"))(hm:MtR X id r)(n:PE X o to)(p:PA X (e::es) t)
  (c:jf o name X.env (eval o X.env)=eval o X.env:=by rfl)
  (f:((i5 bN (c8 (e::es) X.env)).all (λx=> !x.1)&&(n4 bN (kh [] X.env)).all (λx=>x.1.isSome)
   &&decide ((e::es).length+([]:List lv).length+(if([]:List lv).isEmpty then 0 else 1)<30))=true:=by rfl)
  (d:(apos.endLine==bN.line)=true:=by rfl) (hs:c8 (e::es) X.env=(false,eval e X.env)::c8 es X.env:=by rfl) (b:(i5 bN (c8 es X.env)).any (·.1)=false:=by rfl):
  PE X (.Call (.Attribute o name apos) (e::es) [] bN) (A9 X.K T r to t):=by
 intro a s i H Q I h;refine wpAny_Call_method_late c f d rfl (aI (n a s i H _ I h) ?_)
 rintro v q ⟨x,H1,j,k,ty,u⟩
 obtain⟨w,y⟩:=zir j k ty;refine⟨T,id,m,slot,g,w,y,?_⟩;have l:=p bN a q i H1 _ j u;rw[hs]at l ⊢;refine m4 (by show(false||(i5 bN (c8 es X.env)).any (·.1))=false;rw[b]<;>rfl) (kj ?_);exact aI l λz A ⟨B,C,D,E,F⟩=>hm a A i C x B v z Q D k E F
end
def Gu (X:Cx)(id:String)(r:V->List V->Hp->VK->Prop):Prop:=∀(pins:List (Addr×Obj)) (s:bc) (σ:St) (H:Hp) (x:V) (xs:List V) (v:Value) (us:List Value) (Q:VK),Inv X pins σ H s->RelV x v->Vals xs us->r x xs H Q->wpAny (model X.prog X.w) X.A (call (.builtin id) (v::us)) (EP X pins σ Q) X.xe s
theorem Vals.one (h:Vals [x] a):∃u,a=[u]/\RelV x u:=by
 cases h with
 |cons r h=>cases h;exact⟨_,rfl,r⟩
theorem Vals.two (h:Vals [x,y] a):∃u v,a=[u,v]/\RelV x u/\RelV y v:=by
 cases h with
 |cons r h=>cases h with
  |cons q h=>cases h;exact⟨_,_,rfl,r,q⟩
theorem Vals.zero:∀{a:List Value},Vals [] a->a=[]
 |_,.nil=>rfl
theorem Vals.rep (h:Vals a b):∀k,Vals (ax k a).flatten (ax k b).flatten
 |0=>.nil
 |k+1=>by exact Vals.append h (Vals.rep h k)
theorem Inv.lset {a:List Value}(I:Inv X pins σ H s)(b:H l=some (.lst xs))
  (e:s.heap.get? l=some {cls:=.type "list",data:=.seq a.toArray n}) (hf:f a.toArray=jZ.toArray) (c:Vals ys jZ) (d:ys.length<=ay):
  Inv X pins σ (upd H l (.lst ys)) {s with heap:=s.heap.update l (Obj.mapSeq f),toks:=t'}:=by
 have q:=PySem.IsL.update e f;rw[hf]at q;refine I.write (b▸trivial) (.inl rfl) (λh u g hu=>(er s.heap (Obj.mapSeq f) (Ne.symm g)).trans hu) ⟨_,q⟩ ?_;exact⟨d,jZ,_,c,q⟩
theorem Inv.lnew (I:Inv X pins σ H s)(b:Vals ys a)(c:ys.length<=ay):
  Inv X pins σ (upd H s.heap.objs.size (.lst ys)) {s with heap:=s.heap.push {cls:=.type "list",data:=.seq a.toArray},toks:=t'}:=
 I.laid (λ_ _ q=>ak _ q) (ah _) ⟨c,a,0,b,br _ rfl⟩
theorem Inv.fresh (I:Inv X pins σ H s):H s.heap.objs.size=none:=I.hok.fresh (ah _)
theorem Inv.oK (I:Inv X pins σ H s)(b:H l=some (.lst xs)):xs.length<=ay/\∃a n,Vals xs a/\xs.length=a.length/\s.heap.get? l=some {cls:=.type "list",data:=.seq a.toArray n}:=by obtain⟨z,a,n,r,e⟩:=I.hok l _ b;exact⟨z,a,n,r,r.length,e⟩
def yI:V->List V->Hp->VK->Prop:=λx vs H Q=>∃l xs y,x=.ref l/\vs=[y]/\H l=some (.lst xs)/\xs.length<ay/\Q .aK (upd H l (.lst (xs++[y])))
theorem Ba:Gu X "list.append" yI:=by
 rintro b s h H x i v j Q I d f ⟨l,k,y,rfl,rfl,c,m,q⟩
 cases d;obtain⟨u,rfl,g⟩:=f.one;obtain⟨z,a,n,r,o,e⟩:=I.oK c;refine q8 F.slot_list_append ⟨_,e,rfl⟩ F.entry_list_append (F.args_list_append_2 _ _) (PySem.list_append l a.toArray n u (by grind)) ⟨e,?_⟩;refine⟨.aK,_,I.lset c e (by simp) (r.append (.cons g .nil)) ?_,rfl,q⟩;rw[av,d5];omega
def yJ:V->List V->Hp->VK->Prop:=λx vs H Q=>∃l xs,x=.ref l/\vs=[]/\H l=some (.lst xs)/\Q .aK (upd H l (.lst []))
theorem MU:Gu X "list.clear" yJ:=by
 rintro c s h H x i v j Q I f g ⟨l,k,rfl,rfl,d,q⟩
 cases f;have a:=g.zero;subst a;obtain⟨z,b,n,r,m,e⟩:=I.oK d;refine q8 F.slot_list_clear ⟨_,e,rfl⟩ F.entry_list_clear (F.args_list_clear_1 _) (AutoSeq1.list_clear_list_0 l b.toArray n (by grind)) ⟨e,?_⟩;exact⟨.aK,_,I.lset d e rfl .nil (cz _),rfl,q⟩
def vV:R2:=λx y H Q=>∃l b xs zs,x=.ref l/\y=.ref b/\H l=some (.lst xs)/\H b=some (.lst zs)/\xs.length+zs.length<=ay/\∀p,H p=none->Q (.ref p) (upd H p (.lst (xs++zs)))
theorem MV:OpR X (fy .Add) vV:=by
 rintro d s p H x y v u Q I f g ⟨l,b,t,w,rfl,rfl,h,i,A,q⟩
 cases f;cases g;obtain⟨z,c,n,r,B,e⟩:=I.oK h;obtain⟨C,a,n2,j,k,m⟩:=I.oK i;refine PySem.P.add_list e m ?_ (by grind);have o:c.toArray++a.toArray=(c++a).toArray:=by simp
 rw[o];exact⟨.ref _,_,I.lnew (r.append j) (by grind),rfl,q _ I.fresh⟩
end L2
namespace Att
open PySem PySem.W PySem.Calls PyProof.Rows
theorem MW:∀ns c,WellAll P h c (ns.map WData.int)->qt c ns:=by
 intro ns
 induction ns with
 |nil=>intro c w;cases w;exact .nil
 |cons n ns d=>
  intro c w;cases w with
  |cons a b=>cases a;exact .cons _ _ (d _ b)
theorem zcj {l:OpenLaw}(hn:l.most=some n)
  (b:l.row.toRowW.claim.pre args=true) (i:WellAll P h c args):
  ∃a k ns,c=[Value.ref a]/\args=[WData.list (ns.map WData.int)]/\h.get? a=some {cls:=.type "list",data:=.seq k.toArray}/\qt k ns/\ns.length<=n:=by
 have m:l.pre.holds [] {args:=args}=true:=(pre_splitW b).2;obtain⟨d,r,rfl,o,p⟩:=hasAllW_cons ((pre_splitW b).1);obtain rfl:=hasAllW_nil p;obtain⟨w,rfl,s⟩:=hasW_list o;obtain⟨ns,rfl⟩:=items_int s
 have e:ns.length<=n:=by
  have g:(WTm.not (.lt (.lit (.int n)) (.len (.arg 0)))).holds [] {args:=[.list (ns.map .int)]}=true:=by have g:=(holds_andW m).1;rw[hn]at g;exact g
  have j:=condW_of g (w_not (w_lt w_lit (w_len_list (w_arg rfl))));refine Nat.le_of_not_lt λq=>?_
  first
   |(rw[si q']at j;exact absurd j dc)
   |(simp at j;omega)
 cases i with
 |cons t u=>
  cases u;cases t with
  |list v f=>exact⟨_,_,ns,rfl,rfl,v,MW ns _ f,e⟩
theorem MX (l:OpenLaw)(args:List WData):l.row.toRowW.claim.post args (.bool true) args=true:=
 postW_of
  (show WShape.has [] (.bool true) .bool=true by first|rfl|decide|simp[WShape.has,WShape.arms,WShape.armsAll])
  (show(WTm.eq .res (.lit (.bool true))).value [] {args:=args,res:=some (.bool true),after:=args}=some (.bool (true==true))from w_eq_bool (w_res rfl) w_lit) rfl
theorem attach_call {l:OpenLaw}
  (hn:l.most=some n) (m:d.params.defaults=[])
  (call:∀w s₀ b mg p fa o s cd c a g ns,
   Ground q loose [] A w s₀ mg p b.heap->B w b.heap->
   b.heap.get? fa=some o->o.data=.func (docDef d.name d.params d.body d.scope s cd c)->b.heap.CodeRec cd d.name->mg d.name=some (.ref fa)->
   b.heap.get? a=some {cls:=.type "list",data:=.seq g.toArray}->qt g ns->ns.length<=n->b.gens=#[]->
   i9 (model l.prog w) p7 (.call (.ref fa) ⟨[.ref a],[]⟩) (λr k=>r=.ok (.ret (.bool true))/\OldK b.heap k.heap/\k.os=b.os/\kz k.gens) b):
  WalkO q loose A B l.row.toRowW d [] (λf g=>PySem.call f g):=by
 intro w s₀ b mg p G Y fa o s cd c C kV D hd t x u E args y as h z F v H;obtain rfl:C=.none:=Dflts.none x m;obtain rfl:kV=.none:=Dflts.noKw x;obtain⟨a,g,ns,rfl,rfl,i,e,j⟩:=zcj hn h v;refine enter_call (ja (call w s₀ b mg p fa o s cd c a g ns G Y D (fd_plain hd) t u i e j E) λr k I=>?_);obtain⟨rfl,J,K,L⟩:=I;exact⟨.inl ⟨.bool true,.bool true,[],rfl,λ_=>rfl,.bool true,MX l _,λ_=>⟨List.Pairwise.nil,λ_ hm=>(nomatch hm)⟩⟩,J,K,L⟩
end Att
namespace L2
open PySem PySem.Spec PyProof.Rows
theorem Gv:∀{a:List Value} {ns:List Int},qt a ns->Vals (ns.map V.int) a
 |_,_,.nil=>.nil
 |_,_,.cons n t h=>.cons ⟨t,rfl⟩ (Gv h)
def Only (H:Hp):Prop:=∀b,H b=none\/∃o xs,H b=some (.fD o (.lst xs))
theorem zi2 {K:W.Frag}
  (M:K.In c.heap) (p:c.heap.Ns bp mg) (f:c.heap.Ns qu N) (D:∀x:Str,x≠"__name__"->N x=c9 x) (t:c.heap.NoLimit) (X:c.gens=#[])
  (C:c.heap.get? a=some {cls:=.type "list",data:=.seq vs.toArray}) (O:qt vs ns) (Q:ns.length<=ay) (hr:Room k p7)
  (F:∀base,K.In base->base.Ns bp mg->FnOk P w K mg base CX k fa fd [x] sp) (l:∀s u,oo s fd ⟨[u],[]⟩ [(x,u)])
  (E:∀H,Only H->SqL K H a (ns.map V.int)->sp [.ref a] H (λv _=>v=.bl true) λ_ _ _=>False)
  (G:∀H e g,CX [] H c (λ_ _ _=>False) e g->False):
  i9 (model P w) p7 (.call (.ref fa) ⟨[.ref a],[]⟩) (λr g=>r=.ok (.ret (.bool true))/\OldK c.heap g.heap/\g.os=c.os/\kz g.gens) c:=by
 have R:=Gv O
 have j:∀H,Only H->SqL K H a (ns.map V.int)->HOk P w H c.heap->(∀b,H b≠none->b=a)->(H a≠none->K.lookup a=none)->
   i9 (model P w) p7 (.call (.ref fa) ⟨[.ref a],[]⟩) (λr g=>r=.ok (.ret (.bool true))/\OldK c.heap g.heap/\g.os=c.os/\kz g.gens) c:=by
  intro H S hS hok T hK;have nW:∀{b:Addr} {o:Obj},c.heap.get? b=some o->H b=none->(jW c.heap H).get? b=some o:=λe n=>Lx e n
  have I:∀{b:Addr} {o:Obj} {es:Array DictEntry} {ep:Nat},c.heap.get? b=some o->o.data=.dict es ep->H b=none:=λ{b o es ep} e d=>by
   cases q:H b with
   |none=>rfl
   |some u=>have J:=T b (by rw[q];simp);subst J;rw[C]at e;cases e;cases d
  have i:∀{b:Addr} {m:Str->Option Value},c.heap.Ns b m->(jW c.heap H).Ns b m:=λ{b m} ⟨o,es,ep,e,d,r⟩=>⟨o,es,ep,nW e (I e d),d,r⟩
  have y:=λb o e=>nW (M b o e) (by
   cases q:H b with
   |none=>rfl
   |some u=>have J:=T b (by rw[q];simp);subst J;rw[hK (by rw[q];simp)]at e;cases e)
  refine ja ((F _ y (i p)).run p7 [] c H ⟨[.ref a],[]⟩ [.ref a] [.ref a] _ _ hr ⟨rfl,⟨y,i p,⟨N,i f,D⟩,let⟨mc,h1,h2⟩:=t;⟨mc,i h1,h2⟩⟩,λb o e=>Ly e,Nat.le_of_eq (Lw _ _),trivial,λb f=>absurd (show b∈([]:List Addr)from f) (by simp),hok,.of_eq X⟩ (l c (.ref a)) (.cons rfl .nil) (E H S hS)) λr g h=>?_;cases r with
  |error e=>exact(G H e g h).elim
  |ok fl=>
   cases fl with
   |next=>exact False.elim h
   |brk=>exact False.elim h
   |cont=>exact False.elim h
   |ret u=>
    obtain⟨v,H',os,bare,un,A,r',rfl⟩:=h;obtain rfl:u=Value.bool true:=r';refine⟨rfl,OldK.of_keep λb o e=>?_,os,bare⟩;cases q:H b with
    |none=>exact un.keep b o e q (by intro z;exact absurd (show b∈([]:List Addr)from z) (by simp)) (by simp)
    |some u=>
     rcases S b with z|⟨ob,xs,z⟩
     ·rw[q]at z;cases z
     ·have z2:=un.cE b ob _ z;obtain⟨U,_⟩:=hok b _ z;obtain⟨e2,_⟩:=A b _ z2;rw[e]at U;cases U;exact e2
 cases L:K.lookup a with
 |some o=>have e:=M a o L;rw[C]at e;cases e;refine j (λ_=>none) (λ_=>.inl rfl) (.inr ⟨_,vs.toArray,_,L,rfl,rfl,rfl,by rw[bz,O.length];exact Q,by simpa using R⟩) (λb u z=>by have B:none=some u:=z;cases B) (λb z=>absurd rfl z) λz=>absurd rfl z
 |none=>
  refine j (λb=>if b=a then some (.fD {cls:=.type "list",data:=.seq vs.toArray} (.lst (ns.map V.int)))else none) (λb=>?_) (.inl (.inr ⟨{cls:=.type "list",data:=.seq vs.toArray},rj rfl⟩)) (λb u z=>?_) (λb z=>?_) λ_=>L
  ·by_cases f:b=a
   ·exact .inr ⟨_,_,rj f⟩
   ·exact .inl (rq f)
  ·by_cases f:b=a
   ·have B:=(rj f).symm.trans z;cases B;subst f;exact⟨C,by rw[am];exact Q,vs,_,R,C⟩
   ·have B:=(rq f).symm.trans z;cases B
  ·by_cases f:b=a
   ·exact f
   ·exact absurd (rq f) z
theorem walk_of {l:W.OpenLaw}{K:d8->W.Frag}{B:World->CXT}{C:World->Sp}
  (hn:l.most=some n) (p:n<=ay) (r:d.params.defaults=[]) (hr:Room k p7)
  (I:∀w h,J w h->(K w.params).In h)
  (F:∀w mg fa h,(K w.params).In h->h.Ns bp mg->mg d.name=some (.ref fa)->∃fd,(∀s u,oo s fd ⟨[u],[]⟩ [(x,u)])/\∀base,(K w.params).In base->base.Ns bp mg->FnOk l.prog w (K w.params) mg base (B w) k fa fd [x] (C w))
  (t:∀w H a (ns:List Int),ns.length<=n->Only H->SqL (K w.params) H a (ns.map V.int)->C w [.ref a] H (λv _=>v=.bl true) λ_ _ _=>False)
  (y:∀w H s e z,B w [] H s (λ_ _ _=>False) e z->False):
  W.WalkO q loose S J l.row.toRowW d [] (λf D=>PySem.call f D):=by
 refine Att.attach_call hn r λw s₀ j mg U fa o X cd L a D ns G Y Z hd M A m i c N=>?_;have E:=I w _ Y;obtain⟨fd,O,P⟩:=F w mg fa _ E G.T.g A;exact zi2 E G.T.g G.T.b G.T.builtins G.T.nolimit N m i (bq c p) hr P O (λH Q R=>t w H a ns c Q R) λH e z=>y w H j e z
def z0p (s:Stmt):Arguments:=match s with
 |.FunctionDef _ a _ _ _ _ _ _ _ _=>a
 |_=>{posonlyargs:=[],args:=[],vararg:=none,kwonlyargs:=[],kw_defaults:=[],kwarg:=none,defaults:=[]}
def z0f (s:Stmt):List Stmt:=match s with
 |.FunctionDef _ _ b _ _ _ _ _ _ _=>b
 |_=>[]
def z08 (s:Stmt):Scope:=match s with
 |.FunctionDef _ _ _ _ _ _ sc _ _ _=>sc
 |_=>{kind:=.function,names:=[],isGenerator:=false,isCoroutine:=false}
abbrev lS:CXT:=λ_ _ _ _ _ _=>False
abbrev E0:XK:=λ_ _ _=>False
theorem MY:z2m lS X E0:=λ_ _ _ _ _ _ _ h=>h.elim
structure Fun (K:W.Frag)(x qual:Str)(st:Stmt)(f:Addr)(fd:dn):Prop where
 ex:∃(oc:Value) (od:Option Addr) (kV doc pm:Value) (an:Option Addr) (cdv ct:Value) (osl:Array (Option Value)),fd=W.fnOf x qual (z0p st) (z0f st) (z08 st) .none kV doc pm an cdv ct/\K.lookup f=some ⟨oc,od,.func fd,osl⟩/\W.codeIn K cdv qual=true
 kp:W.keepIn K (.ref f)=true
section
variable {P:cj}{w:World}{K:W.Frag}{mg:Str->Option Value}{base:Heap}
theorem Fun.ok {st:Stmt}(F:Fun K x b st f fd)(S:FnScope N ps (z08 st))(len:∀vs H Q E,g vs H Q E->vs.length=ps.length)
  (c:∀a A outer s H vs Q E,Room k (A.deeper (oa b (z08 st) s.heap.objs.size f a))->g vs H Q E->∃t,PSs (hT lS P w K mg base N b (z08 st) f a A outer s H E).vA (z0f st) t/\t {nx:=λ_ i=>Q .aK i,rt:=Q} (start N vs) H):FnOk P w K mg base lS (k+1) f fd ps g:=by
 obtain⟨oc,od,kV,j,n,an,a,ct,l,rfl,m,d⟩:=F.ex;refine zmg m d S len λA outer s H vs Q E hr e=>?_;obtain⟨t,h,q⟩:=c a A outer s H vs Q E hr e;exact⟨t,h.vA,q⟩
theorem Fun.binds {st:Stmt}(F:Fun K x c st f fd)
  (h:∀kV a d an b ct e,e.length=ps.length->n0 (W.fnOf x c (z0p st) (z0f st) (z08 st) .none kV a d an b ct) ⟨e,[]⟩=pure (ps.zip e)):Binds K fd ps []:=by
 obtain⟨oc,od,kV,a,d,an,b,ct,g,rfl,j,i⟩:=F.ex;exact .all (h kV a d an b ct)
theorem Bb {st:Stmt}{kV:Value}(l:K.lookup f=some ⟨oc,od,.func (W.fnOf x a (z0p st) (z0f st) (z08 st) .none kV d g an b ct),e⟩) (c:W.codeIn K b a=true) (k:W.keepIn K (.ref f)=true):Fun K x a st f (W.fnOf x a (z0p st) (z0f st) (z08 st) .none kV d g an b ct):=⟨⟨oc,od,kV,d,g,an,b,ct,e,rfl,l,c⟩,k⟩
end
theorem iR {B:Prop}(h:B):if false=true then A else B:=h
theorem iS {B:Prop}(h:A):if true=true then A else B:=h
def Same (H H':Hp):Prop:=∀b o,H b=some o->H' b=some o
theorem Same.refl (H:Hp):Same H H:=λ_ _ h=>h
theorem Same.trans (a:Same H H1)(b:Same H1 d):Same H d:=λc o h=>b c o (a c o h)
theorem MZ:CallR X (.builtin "len") (λb H Q=>∃a kvs,b=[V.ref a]/\H a=some (.dK kvs)/\Q (.int kvs.length) H):=by
 rintro c s f H b g Q I r ⟨a,kvs,rfl,d,q⟩
 obtain⟨u,rfl,rfl⟩:=vals1 r;exact Mr I (.inl d) λt h e=>⟨.int kvs.length,H,e,⟨t,rfl⟩,q⟩
end L2
set_option maxHeartbeats 5000000
namespace L2
open PySem PySem.Spec PyProof.Rows
def eT (env:Env):List (Str×eo)->List (Str×Addr)->List (Str×Addr)
 | [],cs=>cs
 |(n,k)::r,cs=>eT env r (if(k==.free)=true then(n,(env.cells.lookup n).getD 0)::cs else cs)
theorem Gx:∀(l:List (Str×eo)) (cs:List (Str×Addr)),(∃c,cs.lookup x=some c)->∃c,(eT env l cs).lookup x=some c
 | [],cs,h=>h
 |(n,k)::r,cs,h=>by
  refine Gx r _ ?_;split
  ·by_cases e:(x==n)=true
   ·exact⟨_,by rw[cu,e]⟩
   ·obtain⟨c,a⟩:=h;exact⟨c,by rw[cu,p8.mpr e];exact a⟩
  ·exact h
theorem Bc:∀(l:List (Str×eo)) (cs:List (Str×Addr)),l.lookup x=some .free->∃c,(eT env l cs).lookup x=some c
 | [],cs,h=>by simp at h
 |(n,k)::r,cs,h=>by
  rw[cu]at h;cases e:(x==n)with
  |true=>rw[e]at h;have hk:=se h;subst hk;exact Gx r _ ⟨_,by rw[rj (by rfl),cu,e]⟩
  |false=>rw[e]at h;exact Bc r _ h
theorem zdu:∀(l:List (Str×eo)) (cs:List (Str×Addr)),(∀y∈l,y.2=.free->∃c,env.cells.lookup y.1=some c)->(∀x c,cs.lookup x=some c->env.cells.lookup x=some c)->
  ∀x c,(eT env l cs).lookup x=some c->env.cells.lookup x=some c
 | [],cs,_,h=>h
 |(n,k)::r,cs,g,h=>by
  refine zdu r _ (λy i=>g y (ba _ i)) λx c a=>?_;by_cases hk:(k==NameKind.free)=true
  ·rw[rj hk,cu]at a;cases e:(x==n)with
   |true=>
    rw[e]at a;have f:x=n:=by simpa using e
    obtain⟨d,hd⟩:=g (n,k) bh (by simpa using hk);have b:=hd;rw[b]at a;rw[f,b];exact a
   |false=>rw[e]at a;exact h x c a
  ·rw[rq hk]at a;exact h x c a
theorem Gy (h:∀y∈scope.names,y.2=.free->∃c,env.cells.lookup y.1=some c):closureFor scope env=pure (eT env scope.names []):=by
 have go:∀(l:List (Str×eo)) (cs:List (Str×Addr)),(∀y∈l,y.2=.free->∃c,env.cells.lookup y.1=some c)->
   (forIn l cs λ(x:Str×eo) (r:List (Str×Addr))=>if(x.2==NameKind.free)=true then(do let a <-cellOf env x.1;pure (ForInStep.yield ((x.1,a)::r)):Sem _)else pure (ForInStep.yield r))=(pure (eT env l cs):Sem _):=by
  intro l
  induction l with
  |nil=>intro cs _;rfl
  |cons y r g=>
   intro cs d;obtain⟨n,k⟩:=y;rw[List.forIn_cons];unfold eT;by_cases hk:(k==NameKind.free)=true
   ·obtain⟨c,i⟩:=d (n,k) bh (by simpa using hk);have b:=i;have e:cellOf env n=pure c:=by unfold cellOf;rw[b]
    rw[rj hk,rj hk];rw[e,b];exact g ((n,c)::cs) λy f=>d y (ba _ f)
   ·rw[rq hk,rq hk];exact g cs λy f=>d y (ba _ f)
 have:=go scope.names [] h
 first
  |exact this
  |(show(forIn scope.names [] _>>=λr=>pure r)=_;rw[show(forIn scope.names ([]:List (Str×Addr)) _:Sem _)=_ from this];rfl)
theorem zc7 (f:∀y∈scope.names,y.2≠.cell):
  (relabel scope env).names.lookup x=some .cell\/(relabel scope env).names.lookup x=some .free->scope.names.lookup x=some .free:=by
 have go:∀(l:List (Str×eo)),(∀y∈l,y.2≠ .cell)->∀k,(k=NameKind.cell\/k=NameKind.free)->
   (l.map λ(n,k)=>if(k==.free&&env.scope.kind==.function&&env.kindOf n==some .cell)then(n,NameKind.cell)else(n,k)).lookup x=some k->l.lookup x=some .free:=by
  intro l
  induction l with
  |nil=>intro _ k _ h;simp at h
  |cons y r g=>
   intro b k hk h;obtain⟨n,q⟩:=y;rw[bj]at h;rw[cu];by_cases c:(q==NameKind.free&&env.scope.kind==.function&&env.kindOf n==some .cell)=true
   ·have a:q=.free:=by
     simp at c;simpa using c.1.1
    dsimp only at h
    rw[rj c,cu]at h;cases e:(x==n)with
    |true=>rw[a]
    |false=>rw[e]at h;exact g (λy d=>b y (ba _ d)) k hk h
   ·dsimp only at h
    rw[rq c,cu]at h;cases e:(x==n)with
    |true=>
     rw[e]at h;have a:=se h;rcases hk with hk|hk
     ·exact absurd (a.trans hk) (b (n,q) bh)
     ·show some q=some .free;rw[a,hk]
    |false=>rw[e]at h;exact g (λy d=>b y (ba _ d)) k hk h
 rintro(h|h)
 ·exact go scope.names f .cell (.inl rfl) h
 ·exact go scope.names f .free (.inr rfl) h
def blk (X:Cx)(scope:Scope)(N':List Str)(C:Addr)(fp:List Addr)(s:bc)(H:Hp):Cx:={X with N:=N',s₀:=s,hI:=H,env:=compEnvC scope (eT X.env scope.names []) C X.env,outer:=X.stack,stack:=X.stack,ex:=fp,fn:=λ_=>false,xe:=λ_ _=>False,fx:=none}
structure BlkScope (X:Cx)(scope:Scope)(N':List Str)(nt:Nat)(js:List Nat):Prop where
 kind:scope.kind=.function
 lT:∀y∈scope.names,y.2≠.cell
 names:∀y∈scope.names,y.2=.local->scope.names.lookup y.1=some .local
 frees:∀y∈scope.names,y.2=.free->X.env.scope.names.lookup y.1=some .cell\/X.env.scope.names.lookup y.1=some .free
 nd:N'.Nodup
 len:N'.length=nt+js.length
 pl:∀(i j:Nat),js[i]?=some j->N'[nt+i]?=X.N[j]?/\∃x,X.N[j]?=some x/\scope.names.lookup x=some .free
def oM (NX:List Str)(Gz scope:Scope)(N':List Str)(nt:Nat)(js:List Nat):Bool:=
 (scope.kind==.function)&&scope.names.all (λy=>!(y.2==.cell))&&scope.names.all (λy=>!(y.2==.local)||(scope.names.lookup y.1==some .local))&&
 scope.names.all (λy=>!(y.2==.free)||(Gz.names.lookup y.1==some .cell)||(Gz.names.lookup y.1==some .free))&&decide N'.Nodup&&(N'.length==nt+js.length)&&
 (N'.drop nt==js.map λj=>NX.getD j "")&&js.all (λj=>decide (j<NX.length)&&(scope.names.lookup (NX.getD j "")==some .free))
theorem GA (hN:X.N=f)(hs:X.env.scope=c)(h:oM f c scope k l m=true):BlkScope X scope k l m:=by
 unfold oM at h;simp only[bt,bx,decide_eq_true_eq,beq_iff_eq,ku,qa,beq_eq_false_iff_ne]at h;obtain⟨⟨⟨⟨⟨⟨⟨n,o⟩,p⟩,q⟩,r⟩,s⟩,t⟩,u⟩:=h;refine⟨n,o,λy d e=>(p y d).resolve_left (λz=>z e),λy d e=>?_,r,s,λi j g=>?_⟩
 ·rw[hs];rcases q y d with(z|z)|z
  ·exact absurd e z
  ·exact .inl z
  ·exact .inr z
 ·obtain⟨a,b⟩:=u j (aq g);have e:X.N[j]?=some (f.getD j ""):=by rw[hN,ae a,aa,ae a];rfl
  refine⟨?_,_,e,b⟩;rw[e,<-List.getElem?_drop,t,ar,g];rfl
def eU (nt:Nat)(js:List Nat)(σ:St):St:=ax nt none++js.map λj=>σ.getD j none
theorem zmp (B:BlkScope X scope P F Q)(I:Inv X pins σ H s)
  (w:∀b∈fp,FpOk X pins H b) (R:∀b∈fp,∃o,s.heap.get? b=some o)
  (k:∀b o,s.heap.get? b=some o->N.get? b=some o) (hn:N.Ns s.heap.objs.size m1):
  Inv (blk X scope P s.heap.objs.size fp s H) pins (eU F Q σ) H {s with heap:=N,toks:=t1}:=by
 have S:∀y∈scope.names,y.2=.free->∃c,X.env.cells.lookup y.1=some c:=λy O hf=>I.ok.has y.1 (B.frees y O hf);have g:∀x c,(eT X.env scope.names []).lookup x=some c->X.env.cells.lookup x=some c:=zdu _ _ S (λx c h=>by simp at h);have lt:∀b o,s.heap.get? b=some o->b≠s.heap.objs.size:=λb o e=>cc (bg e);have hf:=I.hok.fresh (ah _);refine⟨⟨I.ok.mod,B.kind,I.ok.glob,I.ok.blt,ah _,λx y c N h2=>I.ok.inj x y c (g x c N) (g y c h2),λx T=>Bc _ _ (zc7 B.lT T),λx c h=>(by cases h),I.ok.hd,I.ok.frames,.inl rfl,λb D=>?_,I.bs,bq I.ok.jG I.sz,λb o e D=>?_,λb D T=>?_,I.stack,I.gC,λ_ _ z=>by cases z⟩,rfl,I.bare,Un.kept k,⟨m1,hn,λi x v e1 A e3=>?_⟩,λx c e=>?_,hf,λx c e=>I.bA x c (g x c e),λp hp=>?_,I.hok.kept k,?_,λ_ _ z=>by cases z⟩
 ·obtain⟨o,G⟩:=R b D;exact⟨lt b o G,λx c h=>(w b D).2.2.2.2.1 x c (g x c h)⟩
 ·rcases(w b D).2.2.2.1 with z|z
  ·exact I.ok.hJ b o e z
  ·exact absurd (b8 (bg e) (bq I.ok.jG z)) (cq _)
 ·rcases az.mp (I.gB b T)with z|z
  ·exact(w b D).2.1 z
  ·exact(w b D).2.2.1 z
 ·--a name with a value:one of VO yK
  have hi:F<=i:=by refine Nat.le_of_not_lt λh=>?_;unfold eU at A;rw[cy (bw▸h),cr,rj h]at A;cases A
  unfold eU at A;rw[b9 (bw▸hi),bw,ar]at A;cases U:Q[i-F]? with
  |none=>rw[U]at A;cases A
  |some j=>
   rw[U]at A;have C:σ.getD j none=some v:=se A;obtain⟨J,y,O,f⟩:=B.pl (i-F) j U;rw[ot hi]at J;have V:x=y:=by have K:P[i]?=some x:=e1;rw[J,O]at K;exact(se K).symm
   subst V
   have W:σ[j]?=some (some v):=by
    rw[aa]at C;cases q:σ[j]? with
    |none=>rw[q]at C;cases C
    |some z=>rw[q]at C;simp_all
   have L:=B.frees (x,.free) (PySem.mem_of_lookup f) rfl;have M:Vis X.env.scope x:=L.elim (λz=>.inr (.inl z)) (λz=>.inr (.inr z));obtain⟨m,VP,hl⟩:=I.loc;obtain⟨u,r,l⟩:=hl j x v O W M;refine⟨u,r,?_⟩;rcases l with⟨hk,_⟩|⟨hk,c,hc,E⟩
   ·rcases L with z|z
    ·have t:X.env.scope.names.lookup x=some .local:=hk;rw[z]at t;cases t
    ·have t:X.env.scope.names.lookup x=some .local:=hk;rw[z]at t;cases t
   ·obtain⟨d,hd⟩:=Bc scope.names [] f;have Y:d=c:=by have:=g x d hd;rw[hc]at this;cases this;rfl
    subst Y;refine .inr ⟨?_,d,hd,?_⟩
    ·rcases e3 with z|z|z
     ·exfalso;have z':=z
      have:∀(l:List (Str×eo)),l.lookup x=some .free->(l.map λ(n,k)=>if(k==.free&&X.env.scope.kind==.function&&X.env.kindOf n==some .cell)then(n,NameKind.cell)else(n,k)).lookup x≠some .local:=by
       intro l
       induction l with
       |nil=>intro h;simp at h
       |cons y r ih=>
        intro h;obtain⟨n,q⟩:=y;rw[cu]at h;rw[bj]
        dsimp only
        cases e:(x==n)with
        |true=>
         rw[e]at h;have hq:=se h;subst hq;split
         ·rw[cu,e];intro z;cases z
         ·rw[cu,e];intro z;cases z
        |false=>
         rw[e]at h;split
         ·rw[cu,e];exact ih h
         ·rw[cu,e];exact ih h
      exact this _ f z'
     ·exact .inl z
     ·exact .inr z
    ·obtain⟨o,G,Z⟩:=E;exact⟨o,k _ _ G,Z⟩
 ·obtain⟨v,o,G,hd⟩:=I.cell x c (g x c e);exact⟨v,o,k _ _ G,hd⟩
 ·obtain⟨q1,q2,q3,q4,q5⟩:=I.pin p hp;refine⟨k _ _ q1,q2,lt _ _ q1,λz=>?_,q5⟩;rcases az.mp (I.gB p.1 z)with z|z
  ·exact q3 z
  ·exact q4 z
 ·show(eU F Q σ).length=P.length;unfold eU;rw[av,bw,am,B.len]
section
variable (M:Model)(A:fz)(env:Env)
abbrev fQ:Value->bc->Prop:=λ_ _=>False
def M6 (acc:Value)(Z:bc->Prop)(x:Value):bc->Prop:=wpAny M A (call (.builtin "list.append") [acc,x]) (λ_=>Z) fQ
def Bd (elt:Expr)(acc:Value)(Z:bc->Prop)(ok:Bool)(s:bc):Prop:=if ok=true then wpAny M A (eval elt env) (M6 M A acc Z) fQ s else Z s
def M' (ifs:List Expr)(elt:Expr)(acc:Value)(Z:bc->Prop):bc->Prop:=wpAny M A (forIn ifs true λc r=>if r=true then(ql c env (eval c env)>>=λok=>pure (ForInStep.yield ok))else pure (ForInStep.yield r)) (Bd M A env elt acc Z) fQ
def Be (tg:Expr)(ifs:List Expr)(elt:Expr)(acc:Value)(Z:bc->Prop)(v:Value):bc->Prop:=wpAny M A (pi tg env v) (λ_=>M' M A env ifs elt acc Z) fQ
def Bf (tg:Expr)(ifs:List Expr)(elt:Expr)(it acc:Value)(End Z:bc->Prop)(r:Option Value)(s:bc):Prop:=match r with
 |some v=>wpAny M A (jh tg it v) (λ_=>Be M A env tg ifs elt acc Z v) fQ s
 |none=>End s
end
theorem zlx (I:Nat->bc->Prop)
  (one:∀k t,I k t->wpAny (model P w) A (pyNext d) (Bf (model P w) A env i a b d c (R (.ok .next)) λj=>∃m,m<k/\I m j) fQ t) (n:Nat) (h:I n s):
  i9 (model P w) A (.compLoop (.ListComp b [⟨i,e,a,0⟩] scope D) 0 d c env) R s:=by
 apply codeAny_loop rfl I _ n h;intro k t hk;apply wpAny_noted;apply wpAny_noRaise;apply ac;apply iw;apply ac;refine aI (one k t hk) ?_
 rintro(_|v) r f
 ·exact bb f
 apply ac;refine aI f λ_ u l=>?_;apply ac;refine aI l λ_ y o=>?_;apply ac;refine aI o ?_
 rintro(_|_) z g
 ·exact bb ⟨rfl,g⟩
 apply ac;apply ac;refine aI g λx B p=>?_;apply ac;refine aI p λ_ C q=>?_;exact bb (bb ⟨rfl,q⟩)
theorem Un.but (u:Un fs ex H j h f)(g:h.get? C=none)(c:gb C f i):Un fs ex H j h i:=by
 have ne:∀b o,h.get? b=some o->b≠C:=λb o e z=>by rw[z,g]at e;cases e
 exact⟨λb o e n d a=>c.extBut b o (ne b o e) (u.keep b o e n d a),λb o e n d a=>let⟨sl,q⟩:=u.slot b o e n d a;⟨sl,c.extBut b _ (ne b o e) q⟩,u.free,λb o e a=>let⟨o',q⟩:=u.there b o e a;⟨o',c.extBut b _ (ne b o e) q⟩,u.cK,u.cE,u.cL⟩
theorem HOk.but (ok:HOk P w H h)(d:H C=none)(f:gb C h g):HOk P w H g:=λa o e=>by
 refine(ok a o e).stay (λb u c q=>f.extBut b u (λz=>?_) q) (λ_ q=>q) λ_ _ q=>q;rcases c with c|c
 ·rw[z]at c;rw[<-c,d]at e;cases e
 ·rw[z,d]at c;cases c
def oN (X:Cx)(ifs:List Expr)(t:TT):Prop:=∀(pins:List (Addr×Obj)) (s:bc) (σ:St) (H:Hp) (Q:Bool->Hp->Prop),Inv X pins σ H s->t σ H Q->wpAny (model X.prog X.w) X.A (forIn ifs true λc r=>if r=true then do let ok <-ql c X.env (eval c X.env);pure (ForInStep.yield ok)else pure (ForInStep.yield r)) (TP X pins σ Q) X.xe s
def vW:TT:=λ_ H Q=>Q true H
theorem GB:oN X [] vW:=λ_ _ _ H _ I h=>wpAny_tests_nil ⟨H,I,h⟩
theorem GC (h:PT X c t):oN X [c] t:=λa s b H Q I q=>wpAny_tests_one (h a s b H Q I q)
def fL (a b:St):Prop:=a.length=b.length/\∀(i:Nat) v,a[i]?=some (some v)->b[i]?=some (some v)
def vX (wi:TI)(g:TG)(tc:TT)(te:TE)(em:St->St):TE:=λσ H Q=>wi σ H λJ H1=>∀l,H1 l=none->∃P:Nat->Nat->List V->Hp->Prop,(∃m,P 0 m [] (upd H1 l (.lst [])))/\∀i m acc H2,P i m acc H2->(J.stop i H2/\Q (.ref l) H2)\/(J.go i H2/\acc.length<ay/\∃N:List V->Hp->Prop,(∀lU H',N lU H'->∃m',m'<m/\P (i+1) m' lU H')/\∀x H3,J.gE i H2 x H3->g x (em σ) H3 λj' H4=>fL (em σ) j'/\tc j' H4 λb H5=>if b=true then te j' H5 λy H6=>H6 l=some (.lst acc)/\N (acc++[y]) (upd H6 l (.lst (acc++[y])))else N acc H5)
theorem z5d {Q:VK}{RR:Value->Addr->Result->bc->Prop}(hc:X.calm=true)(B:BlkScope X scope O nt js)
  (hg:∀C t s H,PG (blk X scope O C t s H) tg g) (ht:∀C t s H,oN (blk X scope O C t s H) ifs tc) (he:∀C t s H,PE (blk X scope O C t s H) elt te)
  (h2:ur X Y σ tg (λJ H1=>∀l,H1 l=none->∃P:Nat->Nat->List V->Hp->Prop,(∃m,P 0 m [] (upd H1 l (.lst [])))/\∀i m a G,P i m a G->(J.stop i G/\Q (.ref l) G)\/(J.go i G/\a.length<ay/\∃N:List V->Hp->Prop,(∀D H',N D H'->∃m',m'<m/\P (i+1) m' D H')/\∀x H3,J.gE i G x H3->g x (eU nt js σ) H3 λj' H4=>fL (eU nt js σ) j'/\tc j' H4 λb H5=>
  if b=true then te j' H5 λy H6=>H6 l=some (.lst a)/\N (a++[y]) (upd H6 l (.lst (a++[y])))else N a H5)) vE h)
  (Na:∀(l C:Addr) (H':Hp) (s1:bc),(∃m,s1.heap.Ns C m)->H' C=none->C≠X.env.locals->C∉X.fs->(∀x c,X.env.cells.lookup x=some c->c≠C)->X.s₀.heap.objs.size<=C->(∀p∈X.pn++Y,p.1≠C)->(∀h',gb C s1.heap h'->Inv X Y σ H' {s1 with heap:=h'})->Q (.ref l) H'->RR (.ref l) C (.ok .next) s1):
  wpAny (model X.prog X.w) X.A (newList []) (λa F=>wpAny (model X.prog X.w) X.A (newFunctionEnv scope X.env.globals (eT X.env scope.names []) [] X.env.qual none .none (some X.env)) (λU Bg=>i9 (model X.prog X.w) X.A (.compStart (.ListComp elt [⟨tg,iter,ifs,0⟩] scope pos) 0 vE a {U with scope:=relabel scope X.env}) (RR a U.locals) Bg) E F) E h:=by
 obtain⟨it,t,tn,J,G,rfl,I2,T,Bh,f2,q⟩:=h2;refine gv (wpAny_newFunctionEnv B.lT (by intro y hy;simp at hy) (λh₁ I K=>?_) B.kind);have W:∀b∈t,∃o,h.heap.get? b=some o:=λb f=>let⟨o,e,_⟩:=T.obj 0 _ Bh b f;⟨o,e⟩;have hl:=I2.hok.fresh (ah _);have R:=I2.lnew (t':=h.toks) .nil (cz _);obtain⟨P,⟨m0,p0⟩,turn⟩:=q _ hl;generalize Nb:h.heap.push {cls:=.type "list",dict:=none,data:=.seq ([]:List Value).toArray}=j at I K R ⊢;generalize Nc:h.heap.objs.size=l at hl R p0 turn ⊢;have L:∀b o,h.heap.get? b=some o->j.get? b=some o:=λb o e=>Nb▸ak _ e;have k:=λb o e=>K.extBut b o (cc (bg e)) (ak _ e);have f3:∀b∈t,FpOk X Y (upd G l (.lst [])) b:=λb f=>by obtain⟨o,e⟩:=W b f;have nl:b≠l:=Nc▸cc (bg e);exact⟨by rw[aE nl];exact(f2 b f).1,(f2 b f).2⟩
 have Bi:∀b∈t,∃o,j.get? b=some o:=λb f=>let⟨o,e⟩:=W b f;⟨o,L b o e⟩;have J0:=zmp (t1:=h.toks+([]:List (Str×Value)).length) B R f3 Bi k I;have Bj:∀{H':Hp},(∀b∈t,H' b=none)->∀b∈t,FpOk (blk X scope O j.objs.size t {h with heap:=j,toks:=h.toks} (upd G l (.lst []))) Y H' b:=λhn b f=>⟨hn b f,(J0.ok.jF b f).1,J0.ok.hP b f,.inl f,(J0.ok.jF b f).2,(f2 b f).2.2.2.2.2⟩;have Nd:j.get? j.objs.size=none:=gu (ah _);have out:∀{H':Hp} {s1:bc},Inv (blk X scope O j.objs.size t {h with heap:=j,toks:=h.toks} (upd G l (.lst []))) Y (eU nt js σ) H' s1->∀h',gb j.objs.size s1.heap h'->Inv X Y σ H' {s1 with heap:=h'}:=λ{H' s1} Jn h' sb=>by refine R.call' Jn.os (Un.but Jn.base Nd sb) (Jn.hok.but Jn.free sb) Jn.bare λb f=>?_;exact⟨(f3 b f).2.2.2.1,(f3 b f).2.1,(f3 b f).2.2.2.2.1,(f3 b f).2.2.2.2.2⟩
 have nL:=Nat.ne_of_gt (R.lt);have nF:=R.vv (ah _);have nC:∀x c,X.env.cells.lookup x=some c->c≠j.objs.size:=λx c e z=>by obtain⟨v,q⟩:=R.cell x c e;exact absurd q.lt (z▸cq _)
 have nS:=R.sz;have nP:=λp hp=>cc (bg (R.pin p hp).1)
 have loop:∀F:bc,F={h with heap:=h₁,toks:=h.toks+([]:List (Str×Value)).length}->
   i9 (model X.prog X.w) X.A (.compLoop (.ListComp elt [⟨tg,iter,ifs,0⟩] scope pos) 0 (.ref it) (.ref l) (compEnvC scope (eT X.env scope.names []) j.objs.size X.env)) (RR (.ref l) j.objs.size) F:=by
  rintro F rfl
  refine zlx (λn s'=>∃i a H',Inv (blk X scope O j.objs.size t {h with heap:=j,toks:=h.toks} (upd G l (.lst []))) Y (eU nt js σ) H' s'/\tn i s'.heap/\(∀b∈t,H' b=none)/\P i n a H') ?_ m0 ⟨0,[],_,J0,T.keep _ _ _ Bh λb _ o e=>k b o (L b o e),λb f=>(f3 b f).1,p0⟩
  rintro n s3 ⟨i,a,H3,Jn,GF,GG,w3⟩
  rcases turn i n a H3 w3 with⟨stop,qn⟩|⟨go,Nf,N,hN,step⟩
  ·refine aI (T.done (blk X scope O j.objs.size t {h with heap:=j,toks:=h.toks} (upd G l (.lst []))) rfl rfl rfl hc i Y s3 _ H3 (λ_ _=>False) Jn (Bj GG) GF stop) λr s4 ⟨hr,I4⟩=>?_;subst hr;obtain⟨m,hn,_⟩:=id I4.loc;exact Na l j.objs.size H3 s4 ⟨m,hn⟩ I4.free nL nF nC nS nP (out I4) qn
  ·refine aI (T.item (blk X scope O j.objs.size t {h with heap:=j,toks:=h.toks} (upd G l (.lst []))) rfl rfl rfl hc i Y s3 _ H3 (λ_ _=>False) Jn (Bj GG) GF go) λr s4 ⟨u,hr,h4⟩=>?_;subst hr;refine aI h4 ?_
   rintro _ s5 ⟨x,H5,I5,r5,y5,Bk,Bl⟩
   have Ng:=I5.pinned (Bj Bl) (T.obj _ _ Bk);refine aI (hg _ _ _ _ _ s5 _ H5 x u _ Ng r5 (step x H5 y5)) ?_
   rintro _ s6 ⟨S,H6,I6,kp,q6⟩
   refine aI (ht _ _ _ _ _ s6 S H6 _ I6 q6) λb s7 ⟨H7,I7,q7⟩=>?_
   have M:∀{s7:bc} {H7:Hp} {D:List V},Inv (blk X scope O j.objs.size t {h with heap:=j,toks:=h.toks} (upd G l (.lst []))) (Y++z85 t s5.heap) S H7 s7->N D H7->
     ∃m,m<n/\∃i a H',Inv (blk X scope O j.objs.size t {h with heap:=j,toks:=h.toks} (upd G l (.lst []))) Y (eU nt js σ) H' s7/\tn i s7.heap/\(∀b∈t,H' b=none)/\P i m a H':=λ{s7 H7 D} I7 w7=>by
    obtain⟨n',hm,w7⟩:=hN _ _ w7;refine⟨n',hm,i+1,D,H7,(I7.bX).weak kp.1 kp.2,T.keep _ _ _ Bk λb f o e=>(I7.pin (b,o) (bo _ (bo _ (uw f e)))).1,λb f=>?_,w7⟩;obtain⟨o,e,d⟩:=T.obj _ _ Bk b f;exact(I7.pin (b,o) (bo _ (bo _ (uw f e)))).2.1
   cases b with
   |false=>exact M I7 q7
   |true=>
    refine aI (he _ _ _ _ _ s7 S H7 _ I7 q7) ?_
    rintro y' s8 ⟨y,H8,I8,r8,Nh,w8⟩
    refine aI (Ba _ s8 S H8 (.ref l) [y] (.ref l) [y'] (λ_ H9=>N (a++[y]) H9) I8 rfl (.cons r8 .nil) ⟨l,a,y,rfl,rfl,Nh,Nf,w8⟩) ?_
    rintro _ s9 ⟨v9,H9,I9,r9,w9⟩
    exact M I9 w9
 exact codeAny_compStart_list (loop _ rfl) (T.self _ 0 _ _ _ (T.keep _ _ _ Bh λb _ o e=>k b o (L b o e)) (loop _ rfl))
theorem za2 (j:X.calm=true)(B:BlkScope X scope c k n)(J:PI X i a o)
  (p:∀C b s H,PG (blk X scope c C b s H) i g) (r:∀C b s H,oN (blk X scope c C b s H) d tc) (t:∀C b s H,PE (blk X scope c C b s H) e te)
  (hs:∀x,fq a X.env x=pure x:=by intro _;rfl):PE X (.ListComp e [⟨i,a,d,0⟩] scope pos) (vX o g tc te (eU k n)):=by
 intro G s K H Q I h;refine l9 rfl hs (Gy λy u hf=>I.ok.has y.1 (B.frees y u hf)) B.kind B.names (aI (J G s K H _ I h) λv s1 w=>aI w λz F A=>?_);refine z5d j B p r t A ?_;intro l C L s1 ns _ _ _ _ _ _ f q;obtain⟨m,hn⟩:=ns;exact⟨m,hn,λD E=>⟨.ref l,L,f D E,rfl,q⟩⟩
def Ni (i:Nat)(t:TE):TS:=λD σ H=>t σ H λv H1=>D.nx (σ.set i (some v)) H1
theorem zig (U:X.calm=true)(hN:X.N.Nodup)(V:X.N[i]?=some y)(O:X.env.scope.names.lookup y=some .local)(B:BlkScope X scope t W Y)(hi:PI X u a wi)
  (hg:∀C c s H,PG (blk X scope t C c s H) u g) (ht:∀C c s H,oN (blk X scope t C c s H) d tc) (he:∀C c s H,PE (blk X scope t C c s H) f te)
  (E:i8 (.ListComp f [⟨u,a,d,0⟩] scope pos) (some (.Name y F)) j.line X.env=pure true)
  (hs:∀x,fq a X.env x=pure x:=by intro _;rfl):PS X (.Assign [.Name y F] (.ListComp f [⟨u,a,d,0⟩] scope pos) j) (Ni i (vX wi g tc te (eU W Y))):=by
 intro Z s σ H D I h;have ex:=exec_Assign_Name_used _ _ _ _ E;rw[ex];apply ac;apply iw;apply ac;refine ac (ek (l9 (use:=some (pi (.Name y F) X.env)) rfl hs (Gy λz hz hf=>I.ok.has z.1 (B.frees z hz hf)) B.kind B.names (aI (hi Z s σ H _ I h) λv s1 h1=>aI h1 λvE s2 h2=>?_)) (λ_ s' hq=>bb (bb hq)) λ_ _ e=>e);refine z5d (Q:=λv H1=>D.nx (σ.set i (some v)) H1) (RR:=λG C=>compPost (model X.prog X.w) X.A X.xe (some (pi (.Name y F) X.env)) (λ_ s'=>SP X Z D .next s') G C) U B hg ht he h2 ?_;intro l C H' s1 ns P R nF nC nS nP J q;obtain⟨m,hn⟩:=ns;have S:=J s1.heap (.refl ..);obtain⟨r,es,ep,K,k,L⟩:=id hn
 have I2:Inv X (Z++[(C,r)]) σ H' s1:=S.gD λp hp=>(b6.mp hp).elim (λz=>S.pin p (bo _ z)) λz=>by
  have e:p=(C,r):=by simpa using z
  subst e;exact⟨K,P,R,nF,λv z=>by have T:=z;rw[k]at T;cases T⟩
 refine pv (z6b I2 hN V (.inl O) (v:=.ref l) rfl (λsP n=>?_) (.inr O));have M:=(n.pin (C,r) (bo _ (bo _ (bf.mpr rfl)))).1;refine⟨m,⟨r,es,ep,M,k,L⟩,λh' sb=>⟨_,H',?_,q⟩⟩;exact(n.bX).turned (λb o hb e=>sb.extBut b o hb e) P R (.inr nS) nC nP
def Bm (z:Str):It:=⟨λi _=>i<z.cps.size,λi H x H'=>H'=H/\∃c,z.cps[i]?=some c/\x=.str ⟨#[c]⟩,λi _=>z.cps.size<=i⟩
theorem Nj {K:W.Frag}(j:ty="str_ascii_iterator"\/ty="str_iterator")(a:Addr)(z:Str)(t:Tok):Turn P w K N (Bm z) [a] a (λi h=>h.IsStrIter a ty z t i) where
 mem:=by simp
 obj:=λi h st b l=>by
  have e:b=a:=by simpa using l
  subst e;obtain⟨o,e,c,d⟩:=st;exact⟨o,e,λv z=>by rw[d]at z;cases z⟩
 keep:=λi h g st k=>let⟨o,e,r⟩:=st;⟨o,k a (by simp) o e,r⟩
 item:=by
  intro X G J L n i T s V H E I hf st B;subst G J L;obtain⟨f0,f1,f2,f3,q,y⟩:=hf a (by simp);have U:=B
  have p:∀(u:Value) (g:Heap) (m:Nat),SignAt z i u->g.IsStrIter a ty z t (i+1)->(∀b o,b∉ [a]->s.heap.get? b=some o->g.get? b=some o)->
    ∃C,some u=some C/\wpAny (model X.prog X.w) X.A (jh N (.ref a) C) (λ_ M=>∃x Y,Inv X T V Y M/\RelV x C/\(Bm z).gE i H x Y/\M.heap.IsStrIter a ty z t (i+1)/\∀b∈[a],Y b=none) E {s with heap:=g,toks:=m}:=by
   rintro u g m ⟨c,O,Q,rfl⟩ f kk
   have R:Inv X T V H {s with heap:=g,toks:=m}:=I.turned (λb o l e=>kk b o (by simpa using l) e) f0 f1 f3 q y;obtain⟨o,e,S,d⟩:=id f;exact⟨_,rfl,zgh e S d (by rcases j with rfl|rfl<;>decide) ⟨.str ⟨#[c]⟩,H,R,⟨O,rfl⟩,⟨rfl,c,Q,rfl⟩,f,λb l=>(hf b l).1⟩⟩
  rcases j with rfl|rfl
  ·exact(Walks.strAscii (I.ok.hd n) a z t).item i s _ _ U st λv g m D f kk=>p v g m D f kk
  ·exact(Walks.strWide (I.ok.hd n) a z t).item i s _ _ U st λv g m D f kk=>p v g m D f kk
 done:=by
  intro X G J L n i T s V H E I hf st B;obtain⟨f0,f1,f2,f3,q,y⟩:=hf a (by simp);have U:z.cps[i]?=none:=by have:z.cps.size<=i:=B;simpa using this
  rcases j with rfl|rfl
  ·exact wpAny_pyNext_ascii_end (I.ok.hd n) st U λg F=>⟨rfl,I.turned (λb o l e=>F b o l e) f0 f1 f3 q y⟩
  ·exact wpAny_pyNext_wide_end (I.ok.hd n) st U λg F=>⟨rfl,I.turned (λb o l e=>F b o l e) f0 f1 f3 q y⟩
 self:=λ_ _ _ _ _ st h=>by
  rcases j with rfl|rfl
  ·exact wpAny_pyIter_striter_ascii st h
  ·exact wpAny_pyIter_striter_wide st h
theorem zui {J:It}{g:TG}{tc:TT}{C:TE}{Q:VK}(P:Nat->List V->Hp->Prop)(hn:n<=ay)(h0:P 0 [] (upd D l (.lst [])))
  (q:∀i a H,P i a H->a.length<=i)
  (h:∀a H,P n a H->J.stop n H/\Q (.ref l) H) (u:∀i a H,i<n->P i a H->J.go i H)
  (r:∀i a H x j,i<n->P i a H->J.gE i H x j->g x k j λc v=>fL k c/\tc c v λb s=>if b=true then C c s λy t=>t l=some (.lst a)/\P (i+1) (a++[y]) (upd t l (.lst (a++[y])))else P (i+1) a s):
  ∃P:Nat->Nat->List V->Hp->Prop,(∃m,P 0 m [] (upd D l (.lst [])))/\∀i m a f,P i m a f->(J.stop i f/\Q (.ref l) f)\/(J.go i f/\a.length<ay/\∃N:List V->Hp->Prop,(∀d B,N d B->∃w,w<m/\P (i+1) w d B)/\∀x j,J.gE i f x j->g x k j λc v=>fL k c/\tc c v λb s=>if b=true then C c s λy t=>t l=some (.lst a)/\N (a++[y]) (upd t l (.lst (a++[y])))else N a s):=by
 refine⟨λi m a H=>i<=n/\m=n-i/\P i a H,⟨n,cz _,rfl,h0⟩,?_⟩
 rintro i m a f ⟨E,rfl,p⟩
 by_cases o:i<n
 ·have A:=q i a f p;exact .inr ⟨u i a f o p,by omega,P (i+1),λd B z=>⟨n-(i+1),by omega,o,rfl,z⟩,λx j y=>r i a f x j o p y⟩
 ·have e:i=n:=by omega
  subst e;exact .inl (h a f p)
theorem Nk:OpR X (cw .LtE) (λx y H Q=>∃i j,x=.str i/\y=.str j/\Q (.bl (!decide (j.cps.toList<i.cps.toList))) H):=by
 rintro d s e H x y v u Q I a b ⟨i,j,rfl,rfl,q⟩
 obtain⟨t,rfl⟩:=a;obtain⟨c,rfl⟩:=b;exact PySem.P.le_str ⟨.bl _,H,I,rfl,q⟩
theorem Nl:OpR X (cw .Gt) (λx y H Q=>∃i j,x=.str i/\y=.str j/\Q (.bl (decide (j.cps.toList<i.cps.toList))) H):=by
 rintro d s e H x y v u Q I a b ⟨i,j,rfl,rfl,q⟩
 obtain⟨t,rfl⟩:=a;obtain⟨c,rfl⟩:=b;exact PySem.P.gt_str ⟨.bl _,H,I,rfl,q⟩
def vY:V->Option Int->Option Int->Hp->VK->Prop:=λx lo hi H Q=>∃z,x=.str z/\z.length<=ay/\Q (.str (Txt.slice z lo hi)) H
theorem yL:nV X vY:=by
 rintro r s w H x v n p y A sl Q I m hs pl f ⟨z,rfl,b,q⟩
 obtain⟨t,rfl⟩:=m;refine⟨"str",_,PySem.F.slot_str_getitem.lookup,qx _ _ _,?_⟩;obtain⟨o,c,d,hd⟩:=hs;have a:∀g k,EP X r w Q (.str (Txt.slice z y A) g) {s with toks:=k}:=λg k=>⟨.str _,H,I.tok _,⟨_,rfl⟩,q⟩;cases pl with
 |none=>
  cases f with
  |none=>exact g8 (l:=none) (u:=none) (st:=none) ⟨o,c,d,hd⟩ rfl (kw ⟨bq (Txt.slice_le z _ _) b,a⟩)
  |int j e=>exact g8 (l:=none) (u:=some (j,e)) (st:=none) ⟨o,c,d,hd⟩ rfl (kw ⟨bq (Txt.slice_le z _ _) b,a⟩)
 |int i h=>
  cases f with
  |none=>exact g8 (l:=some (i,h)) (u:=none) (st:=none) ⟨o,c,d,hd⟩ rfl (kw ⟨bq (Txt.slice_le z _ _) b,a⟩)
  |int j e=>exact g8 (l:=some (i,h)) (u:=some (j,e)) (st:=none) ⟨o,c,d,hd⟩ rfl (kw ⟨bq (Txt.slice_le z _ _) b,a⟩)
def Own (K:W.Frag)(mg:Str->Option Value)(x:Str)(st:Stmt)(ps:List Str):Prop:=∃f fd,Fun K x x st f fd/\mg x=some (.ref f)/\W.keepIn K (.ref f)=true/\Binds K fd ps []
def Cal (P:cj)(w:World)(K:W.Frag)(mg:Str->Option Value)(base:Heap)(k:Nat)(x:Str)(ps:List Str)(sp:Sp):Prop:=∃f fd,FnOk P w K mg base lS k f fd ps sp/\mg x=some (.ref f)/\W.keepIn K (.ref f)=true/\Binds K fd ps []
section
variable {K:W.Frag}{mg:Str->Option Value}
theorem zsk {st:Stmt}{kV:Value}(X:K.In h)(G:h.Ns bp mg)
  (a:W.nsIn K bp x=some (some (.ref f))) (l:K.lookup f=some ⟨oc,od,.func (W.fnOf x x (z0p st) (z0f st) (z08 st) .none kV e g an d ct),i⟩) (c:W.codeIn K d x=true) (k:W.keepIn K (.ref f)=true)
  (b:∀(kV e g:Value) (an:Option Addr) (d ct:Value) (j:List Value),j.length=ps.length->n0 (W.fnOf x x (z0p st) (z0f st) (z08 st) .none kV e g an d ct) ⟨j,[]⟩=pure (ps.zip j)):Own K mg x st ps:=
 ⟨f,_,Bb l c k,W.mg_of X G a,k,(Bb l c k).binds b⟩
end
def isStar:Expr->Bool
 |.Starred ..=>true
 |_=>false
theorem fE (h:isStar e=false):c8 (e::a) env=(false,eval e env)::c8 a env:=by cases e<;>first|rfl|cases h
theorem lV:∀{b:List Expr},(b.all λe=> !isStar e)=true->(i5 pos (c8 b env)).any (·.1)=false
 | [],_=>rfl
 |e::b,h=>by have a:=au.mp (cx▸h);rw[fE (by simpa using a.1)];show(false||(i5 pos (c8 b env)).any (·.1))=false;rw[lV a.2];rfl
section
variable {X:Cx}{x:Str}{p pos:Pos}{e:Expr}{es:List Expr}{t:TA}{id:String}{r:List V->Hp->VK->Prop}
theorem eV (a:PE X e c)(b:PA X es t)(hs:isStar e=false:=by rfl):PA X (e::es) (qP c t):=yF a b (fE hs)
theorem yM (c:CallR X (.builtin id) r)(hm:X.mg x=none)(d:c9 x=some (.builtin id))(f:PA X (e::es) t)(a:((e::es).all λe=> !isStar e)=true:=by rfl)(g:Gl X x:=by rfl)(hn:x≠"__name__":=by decide)(b:Wl x:=by decide):PE X (.Call (.Name x p) (e::es) [] pos) (oI r t):=by rw[cx,bt]at a;exact zhz c g hm d f hn b (fE (by simpa using a.1)) (lV a.2)
theorem Bn (c:CallR X (.type T) r)(hm:X.mg x=none)(d:c9 x=some (.type T))(f:PA X (e::es) t)(a:((e::es).all λe=> !isStar e)=true:=by rfl)(g:Gl X x:=by rfl)(hn:x≠"__name__":=by decide)(b:Wl x:=by decide):PE X (.Call (.Name x p) (e::es) [] pos) (oI r t):=by rw[cx,bt]at a;exact zcf c g hm d f hn b (fE (by simpa using a.1)) (lV a.2)
theorem zh5 (C:Cal X.prog X.w X.K X.mg X.base k x ps j)(d:Room g X.A)(h:PA X (e::es) t)(a:((e::es).all fun e=> !isStar e)=true:=by rfl)(hk:k<=g:=by decide)(i:Gl X x:=by rfl)
  (c:Wl x:=by decide):PE X (.Call (.Name x p) (e::es) [] pos) (nU j [] E0 t):=by
 obtain⟨f,fd,F,m,kp,b⟩:=C;rw[cx,bt]at a;exact zcc F (d.mono hk) i m kp b .nil MY h c (fE (by simpa using a.1)) (lV a.2)
end
def kZ:Expr->Bool
 |.ListComp ..=>true
 |.SetComp ..=>true
 |.DictComp ..=>true
 |_=>false
theorem sV (h:kZ e=false)(a:Option Expr)(n:Nat)(env:Env):i8 e a n env=pure false:=by cases e<;>first|rfl|cases h
theorem Bp (hN:X.N.Nodup)(c:X.N[i]?=some x)(a:Loc X.env.scope x)(b:PE X e d)(hs:kZ e=false:=by rfl)(hf:X.fn x=true\/X.env.scope.names.lookup x=some .local:=by first|exact .inl rfl|exact .inr rfl|assumption): PS X (.Assign [.Name x pos'] e pos) (oH d (uq i)):=zje hN c a b (sV hs _ _ _) hf
theorem lW (a:PE X e b)(hs:kZ e=false:=by rfl):PS X (.Expr e pos) (sF b):=LN a (sV hs _ _ _)
def Bq (K:W.Frag):R2:=λx y H Q=>kW (λi j=>.int (i+j)) x y H Q\/(∃i j,x=.str i/\y=.str j/\i.length+j.length<=ay/\Q (.str (i++j)) H)\/vV x y H Q\/Gj K x y H Q
def sW:R2:=λx y H Q=>kW (λi j=>.bl (decide (i<j))) x y H Q\/∃i j,x=.str i/\y=.str j/\Q (.bl (decide (i.cps.toList<j.cps.toList))) H
def sX:R2:=λx y H Q=>kW (λi j=>.bl (decide (i<=j))) x y H Q\/∃i j,x=.str i/\y=.str j/\Q (.bl (!decide (j.cps.toList<i.cps.toList))) H
def sY:R2:=λx y H Q=>kW (λi j=>.bl (decide (j<i))) x y H Q\/∃i j,x=.str i/\y=.str j/\Q (.bl (decide (j.cps.toList<i.cps.toList))) H
def oO (K:W.Frag)(neg:Bool):R2:=λx y H Q=>A8 K neg x y H Q\/∃i j,x=.str i/\y=.str j/\Q (.bl (if neg then !(!(g6 j i 0 j.length 1).isEmpty)else !(g6 j i 0 j.length 1).isEmpty)) H
def Br (K:W.Frag):V->Option Int->Option Int->Hp->VK->Prop:=λx lo hi H Q=>vS K x lo hi H Q\/vY x lo hi H Q
def Nm (K:W.Frag):List V->Hp->VK->Prop:=λxs H Q=>(∃z,xs=[.str z]/\z.length<=ay/\Q (.int z.length) H)\/(∃p ys,xs=[.ref p]/\(SqL K H p ys\/cB K H p ys)/\Q (.int ys.length) H)
theorem Nn:OpR X (fy .Add) (Bq X.K):=L0.or (Me.or (MV.or MG))
theorem Bs:OpR X (cw .Lt) sW:=L7.or L'
theorem Bt:OpR X (cw .LtE) sX:=L8.or Nk
theorem Bu:OpR X (cw .Gt) sY:=L9.or Nl
theorem Bv:OpR X (cw .In) (oO X.K false):=MO.or Ma
theorem Np:OpR X (cw .NotIn) (oO X.K true):=MP.or MQ
theorem Nq:kY X (vR X.K):=Gp
theorem Nr:nV X (Br X.K):=MM.or yL
theorem Nt:CallR X (.builtin "len") (Nm X.K):=MS.or MR
def gL (t T:String):Bool:=t==T||(t=="bool"&&T=="int")
def oP:List String:=["NoneType","bool","int","str","list","tuple","dict"]
def tysB:List String:=["str","int","bool","tuple","list"]
theorem Nu (K:W.Frag):∀t∈oP,∀T∈tysB,W.kitOne K (.type t) (.type T)=some (gL t T):=by intro t a T b;simp only[oP,az,eh,or_false]at a;simp only[tysB,az,eh,or_false]at b;rcases a with rfl|rfl|rfl|rfl|rfl|rfl|rfl<;>rcases b with rfl|rfl|rfl|rfl|rfl<;>kernel_rfl
section
variable {H:Hp}{Q:VK}{K:W.Frag}
theorem Nv (h:Q (.int (i+j)) H):Bq K (.int i) (.int j) H Q:=.inl ⟨i,j,rfl,rfl,h⟩
theorem Nw (c:i.length+j.length<=ay)(h:Q (.str (i++j)) H):Bq K (.str i) (.str j) H Q:=.inr (.inl ⟨i,j,rfl,rfl,c,h⟩)
theorem Ny (h:Q (.bl (decide (i<j))) H):sW (.int i) (.int j) H Q:=.inl ⟨i,j,rfl,rfl,h⟩
theorem Nz (h:Q (.bl (decide (i<=j))) H):sX (.int i) (.int j) H Q:=.inl ⟨i,j,rfl,rfl,h⟩
theorem NA (h:Q (.bl (decide (j<i))) H):sY (.int i) (.int j) H Q:=.inl ⟨i,j,rfl,rfl,h⟩
theorem NB (h:Q (.bl (decide (i.cps.toList<j.cps.toList))) H):sW (.str i) (.str j) H Q:=.inr ⟨i,j,rfl,rfl,h⟩
theorem NC (h:Q (.bl (!decide (j.cps.toList<i.cps.toList))) H):sX (.str i) (.str j) H Q:=.inr ⟨i,j,rfl,rfl,h⟩
theorem ND (h:Q (.bl (decide (j.cps.toList<i.cps.toList))) H):sY (.str i) (.str j) H Q:=.inr ⟨i,j,rfl,rfl,h⟩
end
section
variable {K:W.Frag}{H:Hp}{Q:VK}
theorem NF (h:Q (.bl (decide (c∈z.cps.toList))) H):oO K false (.str ⟨#[c]⟩) (.str z) H Q:=.inr ⟨_,z,rfl,rfl,by have e:=PySem.StrLaws.found_one z c;rw[e];exact h⟩
theorem NG (h:Q (.bl (!decide (c∈z.cps.toList))) H):oO K true (.str ⟨#[c]⟩) (.str z) H Q:=.inr ⟨_,z,rfl,rfl,by have e:=congrArg Bool.not (PySem.StrLaws.found_one z c);rw[e];exact h⟩
end
theorem Same.upd (h:H p=none):Same H (L2.upd H p o):=λb u e=>by rw[aE (bK e h)];exact e
theorem GH (h:n<=1000):n<=ay:=bq h (by rw[ci];decide)
end L2
namespace Mi
open PySem
abbrev D:=ao
set_option genInjectivity true in
inductive Res (α:Type) where
 |ok (a:α)|exc (e:D)|no
namespace Res
def bind {α β:Type}(x:Res α)(f:α->Res β):Res β:=match x with
 |.ok a=>f a
 |.exc e=>.exc e
 |.no=>.no
instance:Monad Res where
 pure:=.ok
 bind:=Res.bind
theorem aB {b c:Type}(a:b)(f:b->Res c):(Res.ok a>>=f)=f a:=rfl
def dQ {α:Type}:Option α->Res α
 |some a=>.ok a
 |none=>.no
theorem aA {c d:Type}{x:Res c}{f:c->Res d}{b:d}(h:(x>>=f)=.ok b):∃a,x=.ok a/\f a=.ok b:=by
 cases x with
 |ok a=>exact⟨a,rfl,h⟩
 |exc e=>cases h
 |no=>cases h
end Res
mutual
def imm:ao->Bool
 |.tuple xs=>imms xs
 |.list _=>false
 |.dict _=>false
 |.none=>true
 |.bool _=>true
 |.int _=>true
 |.str _=>true
def imms:List ao->Bool
 | []=>true
 |x::xs=>imm x&&imms xs
end
theorem yN:∀{a:List D},imms a=true↔∀x∈a,imm x=true
 | []=>by simp[imms]
 |x::a=>by rw[imms,bt,yN];simp
abbrev dZ:D->D->Bool:=PyData.eqv
mutual
def bE:Nat->ao->Bool
 |0,.tuple _=>false
 |0,.list _=>false
 |n+1,.tuple xs=>fR n xs
 |n+1,.list xs=>fR n xs
 |_,.dict _=>false
 |_,.none=>true
 |_,.bool _=>true
 |_,.int _=>true
 |_,.str _=>true
def fR:Nat->List ao->Bool
 |_,[]=>true
 |n,x::xs=>bE n x&&fR n xs
end
theorem sZ:∀{a:List D},fR n a=true↔∀x∈a,bE n x=true
 | []=>by simp[fR]
 |x::a=>by rw[fR,bt,sZ];simp
def truth:ao->Bool
 |.none=>false
 |.bool b=>b
 |.int i=>!decide (i=0)
 |.str x=>!decide (x.length=0)
 |.tuple xs=>!xs.isEmpty
 |.list xs=>!xs.isEmpty
 |.dict es=>!es.isEmpty
def iG (n:Nat)(i:Int):Option Nat:=if 0<=i then(if i<n then some i.toNat else none)else if -(n:Int)<=i then some (i+n).toNat else none
def bW {α:Type}(xs:List α)(i:Int):Option α:=(iG xs.length i).bind λj=>xs[j]?
def aZ (n d:Nat):Option Int->Nat
 |none=>d
 |some v=>if v<0 then(v+(n:Int)).toNat else min v.toNat n
def cut {α:Type}(xs:List α)(lo hi:Option Int):List α:=(xs.drop (aZ xs.length 0 lo)).take (aZ xs.length xs.length hi-aZ xs.length 0 lo)
def eqK:ao->ao->Bool
 |.int a,y=>match y with|.int b=>a==b|_=>false
 |.str a,y=>match y with|.str b=>decide (a=b)|_=>false
 |_,_=>false
def iH:ao->Bool
 |.int _=>true
 |.str _=>true
 |_=>false
abbrev aY:=List (D×D)
def z0d (es:aY)(k:D):Option D:=(es.find? λe=>eqK e.1 k).map (·.2)
def dput (es:aY)(k v:D):aY:=if es.any (λe=>eqK e.1 k)then es.map (λe=>if eqK e.1 k then(e.1,v)else e)else es++[(k,v)]
def ent (e:D×D):D:=.tuple [e.1,e.2]
def iI:aY->List D->Option aY
 |es,[]=>some es
 |es,p::ps=>match p with
  |.tuple [k,v]=>if iH k then iI (dput es k v) ps else none
  |_=>none
mutual
def cO:ao->ao->Bool
 |.int a,y=>match y with|.int b=>decide (a<b)|_=>false
 |.str a,y=>match y with|.str b=>decide (a.cps.toList<b.cps.toList)|_=>false
 |.tuple xs,y=>match y with|.tuple ys=>bR xs ys|_=>false
 |.none,_=>false
 |.bool _,_=>false
 |.list _,_=>false
 |.dict _,_=>false
def bR:List ao->List ao->Bool
 | [],ys=>!ys.isEmpty
 |x::xs,ys=>match ys with|y::ys=>if dZ x y then bR xs ys else cO x y| []=>false
end
def hU (x:D):List D->List D
 | []=>[x]
 |y::ys=>if cO y x then y::hU x ys else x::y::ys
def lX:List D->List D
 | []=>[]
 |x::xs=>hU x (lX xs)
def uy:D->Bool
 |.int _=>true
 |_=>false
def yO:D->Bool
 |.str _=>true
 |_=>false
def ofK (b:Bool)(x:D):Bool:=if b then uy x else yO x
def cP:List Bool->List D->Bool
 | [],xs=>xs.isEmpty
 |b::bs,xs=>match xs with|x::xs=>ofK b x&&cP bs xs| []=>false
def zbu (bs:List Bool):D->Bool
 |.tuple xs=>cP bs xs
 |_=>false
def yP (xs:List D):Bool:=xs.all uy||xs.all yO||(match xs with|.tuple ys::_=>!ys.isEmpty&&xs.all (zbu (ys.map uy))|_=>false)
def yQ (xs:List D):Bool:=yP xs||false
section
inductive G where
 |fr|od|al|nu
 deriving Inhabited,DecidableEq
abbrev Rho:=List (Option (G×D))
abbrev GD:=G×D
inductive Tg where
 |nm (i:Nat)|tp (is:List Nat)
 deriving Inhabited,DecidableEq
inductive C where
 |var (i:Nat)|aK|bl (b:Bool)|int (i:Int)|str (x:Str)|glob (k:Nat) (x:Str)|bin (op:qb) (a b:C)|neg (a:C)|cmp (op:CmpOp) (a b:C)|oQ (neg:Bool) (a:C)|and (a b:C)|or (a b:C)|not (a:C)|tf (c a b:C)|tup (xs:C)|lst (xs:C)|gO|ix (a b:C)|sl (a lo hi:C)|call (k:Nat) (f:Str) (args:C)|bi (f:String) (args:C)|jJ (f:String) (a:C)|gL (a:C) (ts:List String)|mt (m:String) (o args:C)|comp (nt:Nat) (js:List Nat) (N':List Str) (tg:Tg) (it cond elt:C)|eN (args:C)|enum (a:C)|tv (a:C)|tj (b:Bool) (x:Str)|nil|cons (a r:C)
 deriving Inhabited
inductive S where
 |nil|seq (a b:S)|bad|asg (t:Tg) (e:C)|mut (m:String) (i:Nat) (args:C)|drop (e:C)|ret (e:C)|bU (c:C) (a b:S)|bJ (t:Tg) (it:C) (b:S)|wh (n:Nat) (c:C) (b:S)|kA (c:Str)
 deriving Inhabited
inductive Out where
 |nx (ρ:Rho)|rt (g:G) (d:D)
abbrev Fn:=List D->Res GD
def aS:Nat:=1000000
def GI:G->G
 |.fr=>.al
 |.od=>.od
 |.al=>.al
 |.nu=>.nu
def vZ:Option (Option GD)->Res GD
 |some (some (g,d))=>.ok (if imm d then .fr else GI g,d)
 |_=>.no
def jK:D->Res Bool
 |.str x=>if x.length<=aS then .ok (!decide (x.length=0))else .no
 |d=>.ok (truth d)
def jL:G->G
 |.fr=>.fr
 |.od=>.al
 |.al=>.al
 |.nu=>.fr
def agG:G->G
 |.fr=>.fr
 |.od=>.al
 |.al=>.al
 |.nu=>.nu
def gJ (d:D)(g:G):G:=if imm d then .fr else g
def gN (d:D)(g:G):G:=match d with
 |.list xs=>if imms xs then .fr else g
 |d=>gJ d g
def cH (xs:List GD):G:=if xs.all (λx=>x.1==.fr)then .fr else if xs.all (λx=>x.1==.fr||x.1==.nu)then .nu else .al
def qU (xs:List GD):G:=if xs.all (λx=>x.1==.fr)then .fr else .al
def okIn (x:GD):Bool:=imm x.2||(x.1==.fr||x.1==.nu)
def cI (es:aY):Bool:=es.all λe=>imm e.2
def z1n:GD->GD
 |(g,d)=>if imm d then(.al,d)else match g,d with
  |.fr,.list xs=>(if imms xs then .fr else .nu,.list xs)
  |.fr,.dict es=>(if cI es then .fr else .nu,.dict es)
  |.fr,d=>(.nu,d)
  |.nu,d=>(.nu,d)
  |.od,d=>(.od,d)
  |.al,d=>(.al,d)
def z1d:GD->GD
 |(g,d)=>match g with|.od=>(.od,d)|_=>(.al,d)
def iT:Option GD->Option GD
 |some (.fr,d)=>some (.al,d)
 |some (.nu,d)=>some (.al,d)
 |s=>s
def nX:Option GD->Option GD
 |some (.al,d)=>if imm d then some (.al,d)else none
 |s=>s
def qV:Rho->List Nat->List D->G->Option Rho
 |ρ,[],[],_=>some ρ
 |ρ,i::is,d::ds,g=>qV (ρ.set i (some (z1d (gJ d g,d)))) is ds g
 |_,_,_,_=>none
def fF:Tg->GD->Rho->Res Rho
 |.nm i,x,ρ=>.ok (ρ.set i (some (z1d x)))
 |.tp is,(g,.tuple ds),ρ=>Res.dQ (qV ρ is ds g)
 |.tp is,(g,.list ds),ρ=>Res.dQ (qV ρ is ds g)
 |_,_,_=>.no
def Bw:D->Res D
 |.str x=>if x.length<=aS then .ok (.int x.length)else .no
 |.tuple xs=>.ok (.int xs.length)
 |.list xs=>.ok (.int xs.length)
 |.dict es=>.ok (.int es.length)
 |_=>.no
def oR {α:Type}(n:Nat)(xs:List α):List α:=(ax n xs).flatten
def dH:qb->D->D->Res D
 |.Add,.int a,.int b=>.ok (.int (a+b))
 |.Add,.str a,.str b=>if a.length+b.length<=aS then .ok (.str (a++b))else .no
 |.Add,.list a,.list b=>if a.length+b.length<=aS then .ok (.list (a++b))else .no
 |.Add,.tuple a,.tuple b=>if a.length+b.length<=aS then .ok (.tuple (a++b))else .no
 |.Sub,.int a,.int b=>.ok (.int (a-b))
 |.Mult,.str a,.int n=>if 0<=n/\n<=aS/\a.length*n.toNat<=aS then .ok (.str ⟨(oR n.toNat a.cps.toList).toArray⟩)else .no
 |.Mult,.int a,.int b=>if(-(2 ^ 64)<a/\a<2 ^ 64)\/(-(2 ^ 64)<b/\b<2 ^ 64)then .ok (.int (a*b))else .no
 |.FloorDiv,.int a,.int b=>if 0<b/\b<2 ^ 200 then .ok (.int (a/b))else .no
 |.Mod,.int a,.int b=>if 0<b then .ok (.int (a%b))else .no
 |.Pow,.int a,.int b=>if 0<=b/\b<=1000/\a.natAbs<2 ^ 64 then .ok (.int (a ^ b.toNat))else .no
 |_,_,_=>.no
def inD (x:D):D->Res Bool
 |.list xs=>if bE 40 x&&fR 40 xs then .ok (xs.any λy=>dZ y x)else .no
 |.tuple xs=>if bE 40 x&&fR 40 xs then .ok (xs.any λy=>dZ y x)else .no
 |.dict es=>if iH x then .ok (z0d es x).isSome else .no
 |.str z=>match x with
  |.str w=>(match w.cps.toList with| [c]=>.ok (decide (c∈z.cps.toList))|_=>.no)
  |_=>.no
 |_=>.no
def cmpD:CmpOp->D->D->Res Bool
 |.Eq,x,y=>if bE 40 x&&bE 40 y then .ok (dZ x y)else .no
 |.NotEq,x,y=>if bE 40 x&&bE 40 y then .ok (!dZ x y)else .no
 |.Lt,.int a,.int b=>.ok (decide (a<b))
 |.LtE,.int a,.int b=>.ok (decide (a<=b))
 |.Gt,.int a,.int b=>.ok (decide (b<a))
 |.Lt,.str a,.str b=>.ok (decide (a.cps.toList<b.cps.toList))
 |.LtE,.str a,.str b=>.ok (!decide (b.cps.toList<a.cps.toList))
 |.Gt,.str a,.str b=>.ok (decide (b.cps.toList<a.cps.toList))
 |.In,x,y=>inD x y
 |.NotIn,x,y=>inD x y>>=λb=>.ok (!b)
 |_,_,_=>.no
def eO:D->D->Res D
 |.list xs,.int i=>Res.dQ (bW xs i)
 |.tuple xs,.int i=>Res.dQ (bW xs i)
 |.str z,.int i=>if z.length<=aS then Res.dQ ((bW z.cps.toList i).map λc=>.str ⟨#[c]⟩)else .no
 |.dict es,k=>if iH k then Res.dQ (z0d es k)else .no
 |_,_=>.no
def lB (z:Str)(lo hi:Option Int):Str:=⟨(cut z.cps.toList lo hi).toArray⟩
def qW:D->Option Int->Option Int->Res D
 |.list xs,lo,hi=>.ok (.list (cut xs lo hi))
 |.tuple xs,lo,hi=>if aZ xs.length 0 lo=0/\aZ xs.length xs.length hi=xs.length then .no else .ok (.tuple (cut xs lo hi))
 |.str z,lo,hi=>if z.length<=aS then .ok (.str (lB z lo hi))else .no
 |_,_,_=>.no
def tm:D->Res (Option Int)
 |.int i=>.ok (some i)
 |_=>.no
def z5s:D->Res (List D)
 |.list xs=>.ok xs
 |.tuple xs=>.ok xs
 |.str z=>if z.length<=aS then .ok (z.cps.toList.map λc=>.str ⟨#[c]⟩)else .no
 |_=>.no
def hV:List D->Option (List Str)
 | []=>some []
 |.str b::r=>(hV r).map (b:: ·)
 |_=>none
def z5c:D->Res (Bool×List D)
 |.list xs=>.ok (true,xs)
 |.tuple xs=>.ok (false,xs)
 |_=>.no
def aggD (f:String)(l:Bool)(xs:List D):Res D:=
 if f="list"then .ok (.list xs)
 else if f="tuple"then .ok (.tuple xs)
 else if f="sorted"then(if(l||false)&&yQ xs&&decide (xs.length<64)then .ok (.list (lX xs))else .no)
 else if f="dict"then Res.dQ ((iI [] xs).map .dict)
 else .no
def vI:D->Option Int
 |.int i=>some i
 |_=>none
def vT:D->Option (List D)
 |.tuple xs=>some xs
 |_=>none
def min2 (x y:D):Res D:=Res.dQ ((vI x).bind λa=>(vI y).map λb=>.int (min a b))
def minD (xs:List D):Res D:=if xs.length=2 then min2 (xs.getD 0 .none) (xs.getD 1 .none)else if xs.length=1 then(match vT (xs.getD 0 .none)with|some ys=>if ys.length=2 then min2 (ys.getD 0 .none) (ys.getD 1 .none)else .no|none=>.no)else .no
def tq (l:List Nat):Bool:=!l.isEmpty&&l.all λc=>decide (48<=c)&&decide (c<=57)
def wa (l:List Nat):Nat:=l.foldl (λn c=>n*10+(c-48)) 0
def wb (x:Str):Res D:=if tq x.cps.toList&&decide (x.length<=600)then .ok (.int (wa x.cps.toList:Int))else .no
def wc (y:Str):Option Nat:=match y.cps.toList with
 | [c]=>some c
 |_=>none
def toS (l:List Nat):Str:=⟨l.toArray⟩
def Bz (x y:Str):Res D:=match wc y with
 |some c=>if decide (x.length<=aS)then .ok (.tuple [.str (toS (x.cps.toList.takeWhile (· != c))),.str (if x.cps.toList.contains c then y else ""),.str (toS ((x.cps.toList.dropWhile (· != c)).drop 1))])else .no
 |none=>.no
def BA (x y:Str):Res D:=match wc y with
 |some c=>.ok (.int (match x.cps.toList.findIdx? (· ==c)with|some i=>(i:Int)|none=>-1))
 |none=>.no
def kB (f:String)(xs:List D):Res D:=
 if f="len"then(match xs with| [x]=>Bw x|_=>.no)
 else if f="int"then(match xs with| [.int a]=>.ok (.int a)| [.bool b]=>.ok (.int (if b then 1 else 0))| [.str x]=>wb x|_=>.no)
 else if f="min"then minD xs
 else .no
def gP:D->String
 |.none=>"NoneType"|.bool _=>"bool"|.int _=>"int"|.str _=>"str"|.tuple _=>"tuple"|.list _=>"list"|.dict _=>"dict"
def iU (t T:String):Bool:=t==T||(t=="bool"&&T=="int")
def yR (sep:List Nat):List Str->List Nat
 | []=>[]
 |x::r=>x.cps.toList++(r.map λp=>sep++p.cps.toList).flatten
def qX (sep:Str)(xs:List Str):Str:=⟨(yR sep.cps.toList xs).toArray⟩
def BB (sep:Str)(xs:List Str):Nat:=(xs.map (·.length)).sum+xs.length*sep.length
def mtD (m:String)(o:D)(xs:List D):Res D:=
 if m="get"then(match o,xs with|.dict es,[k,d]=>if iH k then .ok ((z0d es k).getD d)else .no|_,_=>.no)
 else if m="join"then(match o,xs with|.str z,[.list ys]=>(match hV ys with|some ss=>if BB z ss<=aS then .ok (.str (qX z ss))else .no|none=>.no)|_,_=>.no)
 else if m="partition"then(match o,xs with|.str x,[.str y]=>Bz x y|_,_=>.no)
 else if m="find"then(match o,xs with|.str x,[.str y]=>BA x y|_,_=>.no)
 else .no
def iV:List D->Res (List D)
 | [.int n]=>if n<=aS/\-aS<=n then .ok ((bu n.toNat).map λ(i:Nat)=>.int i)else .no
 | [.int a,.int b]=>if -aS<=a/\b<=aS/\a<=aS/\-aS<=b then .ok ((bu (b-a).toNat).map λ(i:Nat)=>.int (a+i))else .no
 | [.int a,.int b,.int c]=>if -aS<=a/\b<=aS/\a<=aS/\-aS<=b/\0<c/\c<=aS then .ok ((bu (if a<b then((b-a-1)/c+1).toNat else 0)).map λ(i:Nat)=>.int (a+i*c))else .no
 |_=>.no
def z2d:Nat->List D->List D
 |_,[]=>[]
 |i,x::xs=>.tuple [.int i,x]::z2d (i+1) xs
def seqR:D->Res (List D)
 |.list xs=>if decide (xs.length<=aS)then .ok xs else .no
 |.tuple xs=>if decide (xs.length<=aS)then .ok xs else .no
 |_=>.no
def oc:Option GD->List GD->List GD
 |some y,r=>y::r
 |none,r=>r
def kE (f:D->Res (Option GD)):List D->Res (List GD)
 | []=>.ok []
 |x::xs=>f x>>=λo=>kE f xs>>=λr=>.ok (oc o r)
variable (Κ:List D)(Φ:List Fn)
mutual
def aJ:C->Rho->Res GD
 |.var i,ρ=>vZ ρ[i]?
 |.aK,_=>.ok (.fr,.none)
 |.bl b,_=>.ok (.fr,.bool b)
 |.int i,_=>.ok (.fr,.int i)
 |.str x,_=>.ok (.fr,.str x)
 |.tj b _,_=>.ok (.fr,.bool b)
 |.glob k _,_=>match Κ[k]? with|some d=>if imm d then .ok (.fr,d)else .no|none=>.no
 |.bin op a b,ρ=>aJ a ρ>>=λx=>aJ b ρ>>=λy=>dH op x.2 y.2>>=λd=>.ok (gN d (cH [x,y]),d)
 |.neg a,ρ=>aJ a ρ>>=λx=>match x.2 with|.int i=>.ok (.fr,.int (-i))|_=>.no
 |.cmp op a b,ρ=>aJ a ρ>>=λx=>aJ b ρ>>=λy=>cmpD op x.2 y.2>>=λb=>.ok (.fr,.bool b)
 |.oQ ng a,ρ=>aJ a ρ>>=λx=>.ok (.fr,.bool (match x.2 with|.none=>!ng|_=>ng))
 |.and a b,ρ=>aJ a ρ>>=λx=>match x.2 with|.bool c=>if c then aJ b ρ else .ok (.fr,.bool false)|_=>.no
 |.or a b,ρ=>aJ a ρ>>=λx=>match x.2 with|.bool c=>if c then .ok (.fr,.bool true)else aJ b ρ|_=>.no
 |.not a,ρ=>aJ a ρ>>=λx=>jK x.2>>=λc=>.ok (.fr,.bool (!c))
 |.tf c a b,ρ=>dG c ρ>>=λk=>if k then aJ a ρ else aJ b ρ
 |.tup xs,ρ=>dU xs ρ>>=λys=>.ok (gJ (.tuple (ys.map (·.2))) (cH ys),.tuple (ys.map (·.2)))
 |.lst xs,ρ=>dU xs ρ>>=λys=>.ok (cH ys,.list (ys.map (·.2)))
 |.gO,_=>.ok (.fr,.dict [])
 |.ix a b,ρ=>aJ a ρ>>=λx=>aJ b ρ>>=λy=>eO x.2 y.2>>=λd=>.ok (gJ d x.1,d)
 |.sl a lo hi,ρ=>aJ a ρ>>=λx=>tu lo ρ>>=λl=>tu hi ρ>>=λh=>qW x.2 l h>>=λd=>.ok (gN d (cH [x]),d)
 |.call k _ args,ρ=>dU args ρ>>=λys=>match Φ[k]? with|some m=>m (ys.map (·.2))>>=λr=>.ok (gJ r.2 (jL r.1),r.2)|none=>.no
 |.bi f args,ρ=>dU args ρ>>=λys=>kB f (ys.map (·.2))>>=λd=>.ok (gJ d .al,d)
 |.jJ f a,ρ=>BD a ρ>>=λw=>aggD f w.2.1 w.2.2>>=λd=>.ok (gJ d (if imms w.2.2 then .fr else agG w.1),d)
 |.gL a ts,ρ=>aJ a ρ>>=λx=>.ok (.fr,.bool (ts.any λT=>iU (gP x.2) T))
 |.mt m o args,ρ=>aJ o ρ>>=λx=>dU args ρ>>=λys=>mtD m x.2 (ys.map (·.2))>>=λd=>.ok (gJ d .al,d)
 |.comp nt js _ tg it cond elt,ρ=>evW it ρ>>=λw=>kE (λx=>fF tg (gJ x w.1,x) (ax nt none++js.map λj=>iT (ρ.getD j none))>>=λtw=>dG cond tw>>=λk=>if k then aJ elt tw>>=λy=>.ok (some y)else .ok none) w.2>>=λys=>.ok (qU ys,.list (ys.map (·.2)))
 |_,_=>.no
def dG:C->Rho->Res Bool
 |.and a b,ρ=>dG a ρ>>=λc=>if c then dG b ρ else .ok false
 |.or a b,ρ=>dG a ρ>>=λc=>if c then .ok true else dG b ρ
 |.not a,ρ=>dG a ρ>>=λc=>.ok (!c)
 |.nil,_=>.ok true
 |.tv a,ρ=>aJ a ρ>>=λx=>jK x.2
 |_,_=>.no
def dU:C->Rho->Res (List GD)
 |.nil,_=>.ok []
 |.cons a r,ρ=>aJ a ρ>>=λx=>dU r ρ>>=λxs=>.ok (x::xs)
 |_,_=>.no
def tu:C->Rho->Res (Option Int)
 |.nil,_=>.ok none
 |.tv a,ρ=>aJ a ρ>>=λx=>tm x.2
 |_,_=>.no
def BD:C->Rho->Res (G×Bool×List D)
 |.tv a,ρ=>aJ a ρ>>=λx=>z5c x.2>>=λp=>.ok (x.1,p)
 |_,_=>.no
def evW:C->Rho->Res (G×List D)
 |.eN args,ρ=>dU args ρ>>=λys=>iV (ys.map (·.2))>>=λxs=>.ok (.fr,xs)
 |.tv a,ρ=>aJ a ρ>>=λx=>z5s x.2>>=λxs=>.ok (x.1,xs)
 |.enum a,ρ=>aJ a ρ>>=λx=>seqR x.2>>=λxs=>.ok (.al,z2d 0 xs)
 |_,_=>.no
end
def oS:Res Out->(Rho->Res Out)->Res Out
 |.ok (.nx ρ),k=>k ρ
 |r,_=>r
def dD (f:D->Rho->Res Out):List D->Rho->Res Out
 | [],ρ=>.ok (.nx ρ)
 |x::xs,ρ=>match f x ρ with
  |.ok (.nx iJ)=>dD f xs iJ
  |.ok (.rt g d)=>.ok (.rt g d)
  |.exc e=>.exc e
  |.no=>.no
def wd (c:Rho->Res Bool)(f:Rho->Res Out):Nat->Rho->Res Out
 |0,_=>.no
 |n+1,ρ=>c ρ>>=λk=>if k then(match f ρ with
  |.ok (.nx iJ)=>wd c f n iJ
  |.ok (.rt g d)=>.ok (.rt g d)
  |.exc e=>.exc e
  |.no=>.no)else .ok (.nx ρ)
def putAt (xs:List D)(ys:List GD):Res (List D):=match ys with
 | [x,y]=>(match x.2 with
  |.int i=>if okIn y&&decide (xs.length<aS)&&decide (0<=i)&&decide (i<=xs.length)then .ok (xs.take i.toNat++y.2::xs.drop i.toNat)else .no
  |_=>.no)
 |_=>.no
def lY (m:String)(xs:List D)(ys:List GD):Res (List D):=
 if m="append"then(match ys with| [y]=>if okIn y&&decide (xs.length<aS)then .ok (xs++[y.2])else .no|_=>.no)
 else .no
def oT (ρ:Rho)(i:Nat):Bool:=match ρ[i]? with
 |some (some (.fr,_))=>true
 |_=>false
def yS (i:Nat)(ρ:Rho):Res (G×List D×Rho):=match ρ[i]? with
 |some (some (.fr,d))=>z5s d>>=λxs=>.ok (.al,xs,ρ.set i (some (.al,d)))
 |_=>.no
def BE:Option GD->Option GD
 |some (.fr,.list xs)=>some (.al,.list xs)
 |s=>s
def lZ (x:GD)(ρ:Rho):Res (G×List D×Rho):=match x.2 with
 |.list xs=>if imms xs then .ok (.al,xs,ρ.map BE)else .no
 |_=>.no
def yT (x:GD):Bool:=match x.2 with
 |.list _=>!(x.1==.al)
 |d=>!(x.1==.al)||imm d
def oU (ys:List GD)(ρ:Rho):Res (G×List D×Rho):=match ys with
 | [x]=>if yT x then seqR x.2>>=λxs=>.ok (.al,z2d 0 xs,ρ)else .no
 |_=>.no
def l' (it:C)(ρ:Rho):Bool:=match evW Κ Φ it ρ with
 |.ok w=>w.1==.al
 |_=>false
def tx (it:C)(ρ:Rho):Res (G×List D×Rho):=evW Κ Φ it ρ>>=λw=>if w.1==.al then .no else .ok (w.1,w.2,ρ)
def evF (it:C)(ρ:Rho):Res (G×List D×Rho):=match it with
 |.tv (.var i)=>if oT ρ i then yS i ρ else if l' Κ Φ it ρ then aJ Κ Φ (.var i) ρ>>=λx=>lZ x ρ else tx Κ Φ it ρ
 |.tv a=>if l' Κ Φ it ρ then aJ Κ Φ a ρ>>=λx=>lZ x ρ else tx Κ Φ it ρ
 |.enum a=>dU Κ Φ (.cons a .nil) ρ>>=λys=>oU ys ρ
 |it=>tx Κ Φ it ρ
def excOf:Res GD->Option Str
 |.exc (.str c)=>some c
 |_=>none
def wg:Option GD->Option GD
 |some (.fr,d)=>some (.nu,d)
 |s=>s
def aP:S->Rho->Res Out
 |.nil,ρ=>.ok (.nx ρ)
 |.seq a b,ρ=>oS (aP a ρ) (aP b)
 |.bad,_=>.no
 |.asg (.nm i) e,ρ=>aJ Κ Φ e ρ>>=λx=>.ok (.nx (ρ.set i (some (z1n x))))
 |.asg t e,ρ=>aJ Κ Φ e ρ>>=λx=>fF t x ρ>>=λiJ=>.ok (.nx iJ)
 |.mut m i args,ρ=>dU Κ Φ args ρ>>=λys=>match ρ[i]? with
  |some (some (.fr,.list xs))=>lY m xs ys>>=λBF=>.ok (.nx ((ρ.set i (some (.fr,.list BF))).map nX))
  |_=>.no
 |.drop e,ρ=>aJ Κ Φ e ρ>>=λ_=>.ok (.nx ρ)
 |.ret e,ρ=>match e with
  |.var i=>match ρ[i]? with
   |some (some (g,d))=>.ok (.rt (if imm d then .fr else jL g) d)
   |_=>.no
  |e=>aJ Κ Φ e ρ>>=λx=>.ok (.rt (jL x.1) x.2)
 |.bU c a b,ρ=>dG Κ Φ c ρ>>=λk=>if k then aP a ρ else aP b ρ
 |.bJ t it b,ρ=>evF Κ Φ it ρ>>=λw=>dD (λx tw=>fF t (gJ x w.1,x) tw>>=λNH=>aP b NH) w.2.1 w.2.2
 |.wh n c b,ρ=>wd (dG Κ Φ c) (aP b) n ρ
 |.kA _,_=>.no
def NI (Κ:List D)(Φ:List Fn)(_:S)(_:Rho):Option Str:=none
def aT (n:Nat)(s:S)(ds:List D):Res GD:=match aP Κ Φ s (ds.map (λd=>some (.od,d))++ax (n-ds.length) none)with
 |.ok (.nx _)=>.ok (.fr,.none)
 |.ok (.rt g d)=>.ok (g,d)
 |_=>match NI Κ Φ s (ds.map (λd=>some (.od,d))++ax (n-ds.length) none)with
  |some c=>.exc (.str c)
  |none=>.no
end
open PySem.Spec PyProof.Rows L2
def kD:Key->D
 |.inl i=>.int i
 |.inr x=>.str x
def keyOk:Key->Prop
 |.inl _=>True
 |.inr x=>PyData.strOk x=true
def KL (K:W.Frag)(a:Addr)(xs:List V):Prop:=∃(o:Obj) (eM:Array Value) (n:Nat),K.lookup a=some o/\o.cls=.type "list"/\o.dict=none/\o.data=.seq eM n/\eM.size<=ay/\Vals xs eM.toList
abbrev Ad:=Option Addr
def FL (K:W.Frag)(H:Hp)(a:Addr)(xs:List V):Prop:=(∃o,H a=some (.fD o (.lst xs)))\/KL K a xs
def nw (H:Hp):Ad->Prop
 |some a=>H a=none
 |none=>False
section
variable (K:W.Frag)(H:Hp)(B:Ad->Prop)
mutual
def Rep:V->ao->Prop
 |v,.none=>v=.aK
 |v,.bool b=>v=.bl b
 |v,.int i=>v=.int i
 |v,.str x=>v=.str x/\PyData.strOk x=true
 |v,.tuple ds=>∃a vs,v=.ref a/\cB K H a vs/\Reps vs ds
 |v,.list ds=>∃a vs,v=.ref a/\((H a=some (.lst vs)/\B (some a))\/(FL K H a vs/\B none))/\Reps vs ds
 |v,.dict es=>∃a kvs,v=.ref a/\H a=some (.dK kvs)/\B (some a)/\aV kvs es
def Reps:List V->List ao->Prop
 |vs,[]=>vs=[]
 |vs,d::ds=>∃v r,vs=v::r/\Rep v d/\Reps r ds
def aV:List (Key×V)->List (ao×ao)->Prop
 |kvs,[]=>kvs=[]
 |kvs,(kd,d)::es=>∃k v r,kvs=(k,v)::r/\kd=kD k/\keyOk k/\Rep v d/\aV r es
end
end
def Fix:HO->Prop
 |.tup _=>True
 |.fD _ (.lst _)=>True
 |.fD _ (.tup _)=>True
 |_=>False
section
variable {K:W.Frag}{H H':Hp}{B B':Ad->Prop}
theorem FL.keep (b:∀a o,H a=some o->(B (some a)\/Fix o)->H' a=some o)(r:FL K H a c):FL K H' a c:=by
 rcases r with⟨o,r⟩|r
 ·exact .inl ⟨o,b a _ r (.inr True.intro)⟩
 ·exact .inr r
theorem _root_.L2.cB.keep (b:∀a o,H a=some o->(B (some a)\/Fix o)->H' a=some o)(r:cB K H a c):cB K H' a c:=by
 rcases r with(r|⟨o,r⟩)|r
 ·exact .inl (.inl (b a _ r (.inr True.intro)))
 ·exact .inl (.inr ⟨o,b a _ r (.inr True.intro)⟩)
 ·exact .inr r
mutual
theorem Rep.keep (hH:∀a o,H a=some o->(B (some a)\/Fix o)->H' a=some o)(hB:∀a,B a->B' a):∀{v:V} (d:ao),Rep K H B v d->Rep K H' B' v d
 |v,.none,r=>r
 |v,.bool b,r=>r
 |v,.int i,r=>r
 |v,.str x,r=>r
 |v,.tuple ds,r=>by obtain⟨a,vs,e,h,q⟩:=r;exact⟨a,vs,e,h.keep hH,Reps.keep hH hB ds q⟩
 |v,.list ds,r=>by
  obtain⟨a,vs,e,h,q⟩:=r;refine⟨a,vs,e,?_,Reps.keep hH hB ds q⟩;rcases h with⟨h,b⟩|h
  ·exact .inl ⟨hH a _ h (.inl b),hB _ b⟩
  ·exact .inr ⟨FL.keep hH h.1,hB _ h.2⟩
 |v,.dict es,r=>by obtain⟨a,kvs,e,h,b,q⟩:=r;exact⟨a,kvs,e,hH a _ h (.inl b),hB _ b,aV.keep hH hB es q⟩
theorem Reps.keep (hH:∀a o,H a=some o->(B (some a)\/Fix o)->H' a=some o)(hB:∀a,B a->B' a):∀{vs:List V} (ds:List ao),Reps K H B vs ds->Reps K H' B' vs ds
 |vs,[],r=>r
 |vs,d::ds,r=>by obtain⟨v,t,e,h,q⟩:=r;exact⟨v,t,e,Rep.keep hH hB d h,Reps.keep hH hB ds q⟩
theorem aV.keep (hH:∀a o,H a=some o->(B (some a)\/Fix o)->H' a=some o)(hB:∀a,B a->B' a):∀{kvs:List (Key×V)} (es:List (ao×ao)),aV K H B kvs es->aV K H' B' kvs es
 |kvs,[],r=>r
 |kvs,(kd,d)::es,r=>by obtain⟨k,v,t,e,e2,ok,h,q⟩:=r;exact⟨k,v,t,e,e2,ok,Rep.keep hH hB d h,aV.keep hH hB es q⟩
end
theorem Rep.same (s:Same H H')(b:∀a,B a->B' a)(r:Rep K H B v d):Rep K H' B' v d:=Rep.keep (λa o e _=>s a o e) b d r
theorem Reps.same (s:Same H H')(hB:∀a,B a->B' a)(r:Reps K H B vs ds):Reps K H' B' vs ds:=Reps.keep (λa o e _=>s a o e) hB ds r
theorem aV.same (s:Same H H')(hB:∀a,B a->B' a)(r:aV K H B vs ds):aV K H' B' vs ds:=aV.keep (λa o e _=>s a o e) hB ds r
theorem Rep.weak (b:∀a,B a->B' a)(r:Rep K H B v d):Rep K H B' v d:=r.same (λ_ _ e=>e) b
theorem Reps.weak (b:∀a,B a->B' a)(r:Reps K H B v d):Reps K H B' v d:=r.same (λ_ _ e=>e) b
mutual
theorem Rep.bC:∀{v:V} (d:ao),imm d=true->Rep K H B v d->Rep K H B' v d
 |v,.none,_,r=>r
 |v,.bool b,_,r=>r
 |v,.int i,_,r=>r
 |v,.str x,_,r=>r
 |v,.tuple ds,i,r=>by obtain⟨a,vs,e,h,q⟩:=r;exact⟨a,vs,e,h,Reps.bC ds (i) q⟩
 |v,.list ds,i,r=>by cases(show false=true from i)
 |v,.dict es,i,r=>by cases(show false=true from i)
theorem Reps.bC:∀{vs:List V} (ds:List ao),imms ds=true->Reps K H B vs ds->Reps K H B' vs ds
 |vs,[],_,r=>r
 |vs,d::ds,i,r=>by have i:=au.mp (show(imm d&&imms ds)=true from i);obtain⟨v,t,e,h,q⟩:=r;exact⟨v,t,e,Rep.bC d i.1 h,Reps.bC ds i.2 q⟩
end
mutual
theorem Rep.fM (hH:∀a o,H a=some o->Fix o->H' a=some o):∀{v:V} (d:ao),imm d=true->Rep K H B v d->Rep K H' B' v d
 |v,.none,_,r=>r
 |v,.bool b,_,r=>r
 |v,.int i,_,r=>r
 |v,.str x,_,r=>r
 |v,.tuple ds,i,r=>by obtain⟨a,vs,e,h,q⟩:=r;exact⟨a,vs,e,h.keep (B:=λ_=>False) (λa o e f=>hH a o e (f.resolve_left id)),Reps.fM hH ds (i) q⟩
 |v,.list ds,i,r=>by cases(show false=true from i)
 |v,.dict es,i,r=>by cases(show false=true from i)
theorem Reps.fM (hH:∀a o,H a=some o->Fix o->H' a=some o):∀{vs:List V} (ds:List ao),imms ds=true->Reps K H B vs ds->Reps K H' B' vs ds
 |vs,[],_,r=>r
 |vs,d::ds,i,r=>by have i:=au.mp (show(imm d&&imms ds)=true from i);obtain⟨v,t,e,h,q⟩:=r;exact⟨v,t,e,Rep.fM hH d i.1 h,Reps.fM hH ds i.2 q⟩
end
theorem Reps.length:∀{vs:List V} {ds:List D},Reps K H B vs ds->vs.length=ds.length
 |vs,[],r=>by have e:vs=[]:=r;subst e;rfl
 |vs,d::ds,r=>by obtain⟨v,t,rfl,h,q⟩:=r;rw[bd,bd,q.length]
theorem Reps.get:∀{vs:List V} {a:List D} {i:Nat} {d:D},Reps K H B vs a->a[i]?=some d->∃v,vs[i]?=some v/\Rep K H B v d
 |vs,[],i,d,r,e=>by simp at e
 |vs,c::a,0,d,r,e=>by
  obtain⟨v,t,b,h,q⟩:=r;subst b;have:c=d:=by simpa using e
  subst this;exact⟨v,rfl,h⟩
 |vs,c::a,i+1,d,r,e=>by obtain⟨v,t,b,h,q⟩:=r;subst b;obtain⟨u,f,g⟩:=q.get (by simpa using e);exact⟨u,by simpa using f,g⟩
theorem Reps.oV:∀{j:List V} {b:List D} {i:Nat} {v:V},Reps K H B j b->j[i]?=some v->∃d,b[i]?=some d/\Rep K H B v d
 |j,[],i,v,r,e=>by have a:j=[]:=r;subst a;simp at e
 |j,c::b,0,v,r,e=>by
  obtain⟨u,t,a,h,q⟩:=r;subst a;have:u=v:=by simpa using e
  subst this;exact⟨c,rfl,h⟩
 |j,c::b,i+1,v,r,e=>by obtain⟨u,t,a,h,q⟩:=r;subst a;obtain⟨d,f,g⟩:=q.oV (by simpa using e);exact⟨d,by simpa using f,g⟩
theorem Reps.cons {v:V}{d:D}{vs:List V}{ds:List D}(h:Rep K H B v d)(r:Reps K H B vs ds):Reps K H B (v::vs) (d::ds):=⟨v,vs,rfl,h,r⟩
theorem Reps.append:∀{b ws:List V} {a c:List D},Reps K H B b a->Reps K H B ws c->Reps K H B (b++ws) (a++c)
 |b,ws,[],c,r,q=>by have e:b=[]:=r;subst e;exact q
 |b,ws,d::a,c,r,q=>by obtain⟨v,t,rfl,h,p⟩:=r;exact⟨v,t++ws,rfl,h,p.append q⟩
theorem Reps.take:∀{b:List V} {a:List D} n,Reps K H B b a->Reps K H B (b.take n) (a.take n)
 |b,a,0,r=>by rw[List.take_zero];exact rfl
 |b,[],n+1,r=>by have e:b=[]:=r;subst e;exact rfl
 |b,d::a,n+1,r=>by obtain⟨v,t,e,h,p⟩:=r;subst e;exact⟨v,t.take n,rfl,h,p.take n⟩
theorem Reps.drop:∀{a:List V} {b:List D} n,Reps K H B a b->Reps K H B (a.drop n) (b.drop n)
 |a,b,0,r=>r
 |a,[],n+1,r=>by have e:a=[]:=r;subst e;exact rfl
 |a,d::b,n+1,r=>by obtain⟨v,t,rfl,h,p⟩:=r;exact p.drop n
theorem Reps.set (h:Rep K H B v d):∀{a:List V} {b:List D} (n:Nat),Reps K H B a b->Reps K H B (a.set n v) (b.set n d)
 |a,[],n,r=>by have e:a=[]:=r;subst e;exact rfl
 |a,d::b,0,r=>by obtain⟨u,t,e,_,p⟩:=r;subst e;exact⟨_,_,rfl,h,p⟩
 |a,d::b,n+1,r=>by obtain⟨u,t,e,h0,p⟩:=r;subst e;exact⟨_,_,rfl,h0,p.set h n⟩
mutual
theorem Rep.there:∀{v:V} (d:ao),Rep K H B v d->Rep K H (λa=>B a/\¬nw H a) v d
 |v,.none,r=>r
 |v,.bool b,r=>r
 |v,.int i,r=>r
 |v,.str x,r=>r
 |v,.tuple ds,r=>by obtain⟨a,vs,e,h,q⟩:=r;exact⟨a,vs,e,h,Reps.there ds q⟩
 |v,.list ds,r=>by
  obtain⟨a,vs,e,h,q⟩:=r;refine⟨a,vs,e,?_,Reps.there ds q⟩;rcases h with⟨h,b⟩|h
  ·refine .inl ⟨h,b,λz=>?_⟩;have z':H a=none:=z;rw[h]at z';cases z'
  ·exact .inr ⟨h.1,h.2,λz=>z⟩
 |v,.dict es,r=>by obtain⟨a,kvs,e,h,b,q⟩:=r;exact⟨a,kvs,e,h,⟨b,λz=>by have z':H a=none:=z;rw[h]at z';cases z'⟩,aV.there es q⟩
theorem Reps.there:∀{vs:List V} (ds:List ao),Reps K H B vs ds->Reps K H (λa=>B a/\¬nw H a) vs ds
 |vs,[],r=>r
 |vs,d::ds,r=>by obtain⟨v,t,e,h,q⟩:=r;exact⟨v,t,e,Rep.there d h,Reps.there ds q⟩
theorem aV.there:∀{kvs:List (Key×V)} (es:List (ao×ao)),aV K H B kvs es->aV K H (λa=>B a/\¬nw H a) kvs es
 |kvs,[],r=>r
 |kvs,(kd,d)::es,r=>by obtain⟨k,v,t,e,e2,ok,h,q⟩:=r;exact⟨k,v,t,e,e2,ok,Rep.there d h,aV.there es q⟩
end
end
structure Fm where
 H0:Hp
 V:Addr->Prop
 O:Addr->Option Nat
 z:Prop
def Bin (F:Fm):Ad->Prop
 |some a=>F.O a=none/\F.H0 a=none/\F.V a
 |none=>False
def bV (F:Fm):Ad->Prop
 |some a=>F.V a
 |none=>F.z
def eA (F:Fm):Ad->Prop
 |some a=>F.H0 a≠none/\F.V a
 |none=>F.z
def Slot (K:W.Frag)(F:Fm)(H:Hp)(i:Nat):G->V->D->Prop
 |.fr,v,d=>∃p,v=.ref p/\F.O p=some i/\((∃vs ds,d=.list ds/\H p=some (.lst vs)/\Reps K H (Bin F) vs ds)\/(∃kvs es,d=.dict es/\H p=some (.dK kvs)/\aV K H (Bin F) kvs es))
 |.od,v,d=>Rep K H (eA F) v d
 |.al,v,d=>Rep K H (bV F) v d
 |.nu,v,d=>Rep K H (Bin F) v d
structure StOk (K:W.Frag)(F:Fm)(H:Hp)(σ:L2.St)(ρ:Rho):Prop where
 ext:Same F.H0 H
 aM:∀a,H a=none->F.V a
 own:∀a i,F.O a=some i->F.H0 a=none/\F.V a/\((∃xs,H a=some (.lst xs))\/∃kvs,H a=some (.dK kvs))
 len:σ.length=ρ.length
 sl:∀i g d,ρ[i]?=some (some (g,d))->∃v,σ[i]?=some (some v)/\Slot K F H i g v d
def BG (F:Fm)(H:Hp):G->Ad->Prop
 |.fr=>nw H
 |.od=>eA F
 |.al=>bV F
 |.nu=>λa=>nw H a\/Bin F a
section
variable {K:W.Frag}{F:Fm}{H H':Hp}{σ:L2.St}{ρ:Rho}
theorem Slot.same (s:Same H H')(h:Slot K F H i g v d):Slot K F H' i g v d:=by
 cases g with
 |fr=>
  obtain⟨p,e,o,h⟩:=h;refine⟨p,e,o,?_⟩;rcases h with⟨j,a,c,f,r⟩|⟨j,a,c,f,r⟩
  ·exact .inl ⟨j,a,c,s _ _ f,r.same s λ_ b=>b⟩
  ·exact .inr ⟨j,a,c,s _ _ f,r.same s λ_ b=>b⟩
 |od=>exact Rep.same s (λ_ b=>b) h
 |al=>exact Rep.same s (λ_ b=>b) h
 |nu=>exact Rep.same s (λ_ b=>b) h
theorem _root_.L2.Same.none (s:Same H H')(h:H' a=none):H a=none:=by
 cases e:H a with
 |none=>rfl
 |some o=>rw[s a o e]at h;cases h
theorem StOk.same (s:Same H H')(h:StOk K F H σ ρ):StOk K F H' σ ρ where
 ext:=λa o e=>s a o (h.ext a o e)
 aM:=λa e=>h.aM a (s.none e)
 own:=λa i e=>by
  obtain⟨c,j,b⟩:=h.own a i e;refine⟨c,j,?_⟩;rcases b with⟨f,b⟩|⟨f,b⟩
  ·exact .inl ⟨f,s _ _ b⟩
  ·exact .inr ⟨f,s _ _ b⟩
 len:=h.len
 sl:=λi g d e=>by obtain⟨v,c,b⟩:=h.sl i g d e;exact⟨v,c,b.same s⟩
theorem nw.back (s:Same H H')(h:nw H' a):nw H a:=by
 cases a with
 |none=>exact h
 |some a=>exact s.none h
theorem nw.aM (b:∀a,H a=none->F.V a)(h:nw H a):bV F a:=by
 cases a with
 |none=>exact h.elim
 |some a=>exact b a h
theorem eA.aM (h:eA F a):bV F a:=by
 cases a with
 |none=>exact h
 |some a=>exact h.2
theorem Bin.aM (h:Bin F a):bV F a:=by
 cases a with
 |none=>exact h.elim
 |some a=>exact h.2.2
theorem BG.back (s:Same H H')(h:BG F H' g a):BG F H g a:=by
 cases g with
 |fr=>exact nw.back s h
 |od=>exact h
 |al=>exact h
 |nu=>exact h.elim (λh=>.inl (nw.back s h)) .inr
theorem BG.aM (b:∀a,H a=none->F.V a)(h:BG F H g a):bV F a:=by
 cases g with
 |fr=>exact nw.aM b h
 |od=>exact eA.aM h
 |al=>exact h
 |nu=>exact h.elim (nw.aM b) Bin.aM
theorem Slot.rep (f:∀a i,F.O a=some i->F.V a)(h:Slot K F H i g v d):Rep K H (bV F) v d:=by
 cases g with
 |fr=>
  obtain⟨p,e,o,h⟩:=h;rcases h with⟨k,j,rfl,c,r⟩|⟨k,j,rfl,c,r⟩
  ·exact⟨p,k,e,.inl ⟨c,f _ _ o⟩,r.weak λ_ b=>b.aM⟩
  ·exact⟨p,k,e,c,f _ _ o,aV.same (λ_ _ e=>e) (λ_ b=>b.aM) r⟩
 |od=>exact Rep.weak (λ_ b=>b.aM) h
 |al=>exact h
 |nu=>exact Rep.weak (λ_ b=>Bin.aM b) h
theorem StOk.iW (h:StOk K F H σ ρ):∀a i,F.O a=some i->F.V a:=λa i e=>(h.own a i e).2.1
theorem StOk.rd (h:StOk K F H σ ρ){i:Nat}(e:vZ ρ[i]?=.ok x):∃v,σ[i]?=some (some v)/\Rep K H (BG F H x.1) v x.2:=by
 cases c:ρ[i]? with
 |none=>rw[c]at e;cases e
 |some o=>
  cases o with
  |none=>rw[c]at e;cases e
  |some f=>
   obtain⟨g,d⟩:=f;rw[c]at e;obtain⟨v,j,a⟩:=h.sl i g d c;have k:=(Res.ok.inj e).symm;subst k;refine⟨v,j,?_⟩;by_cases l:imm d=true
   ·show Rep K H (BG F H (if imm d=true then _ else _)) v d;exact Rep.bC d l (a.rep h.iW)
   ·show Rep K H (BG F H (if imm d=true then _ else _)) v d;rw[rq l];cases g with
    |fr=>exact a.rep h.iW
    |od=>exact a
    |al=>exact a
    |nu=>exact Rep.weak (λ_ b=>.inr b) a
end
structure Gm where
 N:List Str
 sc:Scope
 blk:Bool:=false
 free:List Str
 fns:List (Str×Nat)
 cst:List Str
 cm:Bool:=true
 xc:Option (Str×Str):=none
 sub:List (Str×Str×Bool):=[]
 rs:List Str:=[]
 gQ:List (Str×Str):=[]
section
variable (Γ:Gm)
def mC (i:Nat)(x:Str):Bool:=(Γ.N[i]?==some x)&&(Γ.sc.names.lookup x==some .local||Γ.sc.names.lookup x==some .cell||Γ.sc.names.lookup x==some .free)&& !(x==("__debug__":Str))&& !(x==("__classdict__":Str))
def mD (x:Str):Bool:=(Γ.sc.names.lookup x==some .globalImplicit)&& !(x==("__debug__":Str))
def dI (x:Str):Bool:=mD Γ x&&Γ.free.contains x&& !(x==("__name__":Str))
def mE (i:Nat)(x:Str):Bool:=(Γ.N[i]?==some x)&&(Γ.sc.names.lookup x==some .local||(!Γ.blk&&Γ.sc.names.lookup x==some .cell))
end
def tgIx:Tg->List Nat
 |.nm i=>[i]
 |.tp is=>is
def yU (scope sc:Scope):Scope:={scope with names:=scope.names.map λ(n,k)=>if(k==.free&&sc.kind==.function&&sc.names.lookup n==some .cell)then(n,.cell)else(n,k)}
def plainT:Expr->Bool
 |.UnaryOp .Not _ _=>false
 |.BoolOp _ _ _=>false
 |.IfExp _ _ _ _=>false
 |.Compare _ _ _ _=>false
 |_=>true
def GJ:Expr->Bool
 |.Compare _ _ _ _=>true
 |_=>false
def z2u:Expr->Bool
 |.Slice _ _ _ _=>false
 |_=>true
def z0r:Expr->Bool
 |.Call (.Name _ _) [] [] _=>false
 |_=>true
def qY:Expr->Bool
 |.Set _ _ _=>false
 |_=>true
def isTup:Expr->Bool
 |.Tuple _ _ _=>true
 |_=>false
def yV:Expr->Option Str
 |.Name x _=>some x
 |_=>none
def fN:Expr->Option Const
 |.Constant v _ _=>some v
 |_=>none
def wj:Expr->Option (Expr×qb×Expr)
 |.BinOp l o r _=>some (l,o,r)
 |_=>none
def wm:Expr->Option (UnaryOp×Expr)
 |.UnaryOp o x _=>some (o,x)
 |_=>none
def nY:Expr->Option (Expr×List CmpOp×List Expr)
 |.Compare l o r _=>some (l,o,r)
 |_=>none
def qZ:Expr->Option (BoolOp×List Expr×Pos)
 |.BoolOp o xs p=>some (o,xs,p)
 |_=>none
def wo:Expr->Option (Expr×Expr×Expr)
 |.IfExp t x y _=>some (t,x,y)
 |_=>none
def oW:Expr->Option (List Expr)
 |.Tuple es _ _=>some es
 |_=>none
def tE:Expr->Option (List Expr)
 |.List es _=>some es
 |_=>none
def yW:Expr->Option (List (Option Expr)×List Expr)
 |.Dict k v _=>some (k,v)
 |_=>none
def iX:Expr->Option (Expr×Expr)
 |.Subscript x i _=>some (x,i)
 |_=>none
def wq:Expr->Option (Option Expr×Option Expr×Option Expr)
 |.Slice l h s _=>some (l,h,s)
 |_=>none
def BH:Expr->Option (Expr×List Expr×List lv×Pos)
 |.Call f es k p=>some (f,es,k,p)
 |_=>none
def uz:Expr->Option (Expr×Str×Pos)
 |.Attribute x n p=>some (x,n,p)
 |_=>none
def BJ:Expr->Option (Expr×List Comprehension×Scope)
 |.ListComp el gs s _=>some (el,gs,s)
 |_=>none
def bI {α:Type}:List α->Option α
 | [x]=>some x
 |_=>none
def oX {α:Type}:List α->Option (α×α)
 | [x,y]=>some (x,y)
 |_=>none
def jM (e:Expr):Option (Str×List Expr):=(BH e).bind λv=>if v.2.2.1.isEmpty then(yV v.1).map λx=>(x,v.2.1)else none
def rA (e:Expr):Option (Expr×Str×List Expr×Bool):=(BH e).bind λv=>if v.2.2.1.isEmpty then(uz v.1).map λu=>(u.1,u.2.1,v.2.1,u.2.2.endLine==v.2.2.2.line)else none
def rB (f g:Expr->Bool)(o:BoolOp)(p:Pos):List Expr->Bool
 |x::y::r=>f x&&(if r.isEmpty then g y else g (.BoolOp o (y::r) p))
 |_=>false
def wt (n:Bool)(f:Expr->Bool):List Expr->Bool
 | []=>n
 |t::r=>r.isEmpty&&f t
def wu:C->Bool
 |.nil=>true
 |_=>false
def kF (f:Str->Bool)(e:Expr):Bool:=(yV e).any f
def BK (Γ:Gm):List Nat->List Expr->Bool
 | [],es=>es.isEmpty
 |i::is,es=>match es with|e::es=>kF (mE Γ i) e&&BK Γ is es| []=>false
def oY (Γ:Gm):Tg->Expr->Bool
 |.nm i,e=>kF (mE Γ i) e
 |.tp is,e=>Γ.cm&&(oW e).any (BK Γ is)
def BL:qb->Bool
 |.Add|.Sub|.Mult|.FloorDiv|.Mod|.Pow=>true
 |_=>false
def z52:CmpOp->Bool
 |.Is|.IsNot|.GtE=>false
 |_=>true
def BM (T:String):Bool:=tysB.contains T
def tyB (Γ:Gm)(T:String)(t:Expr):Bool:=kF (λx=>(x==Str.ofString T)&&dI Γ x&&BM T) t
def wx:List String:=["tuple","sorted","dict"]
def NJ:Tg->Bool
 |.nm _=>true
 |.tp _=>false
def yX:C->Expr->Bool
 |.enum _,e=>isTup e
 |_,_=>true
mutual
def chkE (Γ:Gm):C->Expr->Bool
 |.var i,e=>kF (mC Γ i) e
 |.aK,e=>decide (fN e=some .none)
 |.bl b,e=>decide (fN e=some (.bool b))
 |.int i,e=>decide (fN e=some (.int i))
 |.str x,e=>decide (fN e=some (.str x))&&PyData.strOk x
 |.glob _ _,_=>false
 |.bin op a b,e=>(wj e).any λv=>decide (op=v.2.1)&&BL op&&chkE Γ a v.1&&chkE Γ b v.2.2
 |.neg a,e=>(wm e).any λv=>decide (v.1=.USub)&&chkE Γ a v.2
 |.cmp op a b,e=>(nY e).any λv=>decide (v.2.1=[op])&&(bI v.2.2).any λr=>z52 op&& !(dt op r)&&chkE Γ a v.1&&chkE Γ b r
 |.oQ ng a,e=>(nY e).any λv=>decide (v.2.1=[if ng then .IsNot else .Is])&&(bI v.2.2).any λr=>decide (fN r=some .none)&&chkE Γ a v.1
 |.and a b,e=>(qZ e).any λv=>decide (v.1=.And)&&rB (λx=>chkE Γ a x) (λx=>chkE Γ b x) .And v.2.2 v.2.1
 |.or a b,e=>(qZ e).any λv=>decide (v.1=.Or)&&rB (λx=>chkE Γ a x) (λx=>chkE Γ b x) .Or v.2.2 v.2.1
 |.not a,e=>(wm e).any λv=>decide (v.1=.Not)&&chkE Γ a v.2
 |.tf c a b,e=>(wo e).any λv=>eB Γ c v.1&&chkE Γ a v.2.1&&chkE Γ b v.2.2
 |.tup xs,e=>(oW e).any λes=>decide (es.length<=1000)&&eC Γ xs es
 |.lst xs,e=>(tE e).any λes=>decide (es.length<=1000)&&eC Γ xs es
 |.gO,e=>(yW e).any λv=>v.1.isEmpty&&v.2.isEmpty
 |.ix a b,e=>(iX e).any λv=>z2u v.2&&chkE Γ a v.1&&chkE Γ b v.2
 |.sl a lo hi,e=>(iX e).any λv=>(wq v.2).any λs=>s.2.2.isNone&&chkE Γ a v.1&&oZ Γ lo s.1&&oZ Γ hi s.2.1
 |.call k f args,e=>(jM e).any λv=>(Γ.cm&&(v.1==f))&&mD Γ v.1&&(Γ.fns[k]?==some (f,v.2.length))&&eC Γ args v.2&& !v.2.isEmpty
 |.bi f args,e=>(jM e).any λv=>(v.1==Str.ofString f)&&dI Γ v.1&&((["len","min","int"].contains f)&&(Γ.cm||f=="int"))&&eC Γ args v.2&& !v.2.isEmpty
 |.jJ f a,e=>(jM e).any λv=>(v.1==Str.ofString f)&&dI Γ v.1&&(wx.contains f&&Γ.cm)&&(bI v.2).any λy=>!isStar y&&tF Γ a y
 |.gL a ts,e=>(jM e).any λv=>(v.1==("isinstance":Str))&&dI Γ v.1&&(oX v.2).any λy=>!isStar y.1&&chkE Γ a y.1&&(bI ts).any λT=>tyB Γ T y.2
 |.mt m o args,e=>(rA e).any λv=>((v.2.1==Str.ofString m)&& ["get","join"].contains m&&z0r v.1&&v.2.2.2&&decide (v.2.2.1.length<20))&&chkE Γ o v.1&&eC Γ args v.2.2.1&& !v.2.2.1.isEmpty
 |.comp nt js N' tg it cond elt,e=>(BJ e).any λv=>(bI v.2.1).any λg=>let BN:Gm:={Γ with N:=N',sc:=yU v.2.2 Γ.sc,blk:=true,xc:=none}
  ((Γ.cm&&(g.is_async==0))&&(tgIx tg).all (λi=>decide (i<nt))&&oM Γ.N Γ.sc v.2.2 N' nt js&&qY g.iter&&decide N'.Nodup)&&(oY BN tg g.target&&yX it g.target)&&kG Γ it g.iter&&wt (wu cond) (λt=>eB BN cond t) g.ifs&&chkE BN elt v.1
 |.tj b x,e=>(jM e).any λv=>(v.1==("isinstance":Str))&&dI Γ v.1&&(oX v.2).any λy=>Γ.xc.any λz=>kF (λn=>(n==z.1)&&(Γ.sc.names.lookup n==some .local)&& !(n==("__debug__":Str))&& !(n==("__classdict__":Str))) y.1&&kF (λC=>(C==x)&&mD Γ C&&Γ.sub.contains (z.2,x,b)) y.2
 |.eN _,_=>false
 |.enum _,_=>false
 |.tv _,_=>false
 |.nil,_=>false
 |.cons _ _,_=>false
def eB (Γ:Gm):C->Expr->Bool
 |.and a b,e=>(qZ e).any λv=>decide (v.1=.And)&&rB (λx=>eB Γ a x) (λx=>eB Γ b x) .And v.2.2 v.2.1
 |.or a b,e=>(qZ e).any λv=>decide (v.1=.Or)&&rB (λx=>eB Γ a x) (λx=>eB Γ b x) .Or v.2.2 v.2.1
 |.not a,e=>(wm e).any λv=>decide (v.1=.Not)&&eB Γ a v.2
 |.tv a,e=>(plainT e||GJ e)&&chkE Γ a e
 |_,_=>false
def eC (Γ:Gm):C->List Expr->Bool
 |.nil,es=>es.isEmpty
 |.cons a r,es=>match es with|e::es=>!isStar e&&chkE Γ a e&&eC Γ r es|_=>false
 |_,_=>false
def oZ (Γ:Gm):C->Option Expr->Bool
 |.nil,e=>e.isNone
 |.tv a,e=>e.any λe=>chkE Γ a e
 |_,_=>false
def kG (Γ:Gm):C->Expr->Bool
 |.eN args,e=>(jM e).any λv=>(v.1==("range":Str))&&dI Γ v.1&&eC Γ args v.2&&(!v.2.isEmpty&&decide (v.2.length<=2))
 |.tv a,e=>qY e&&chkE Γ a e
 |.enum a,e=>(jM e).any λv=>(v.1==("enumerate":Str))&&dI Γ v.1&&(bI v.2).any λy=>!isStar y&&chkE Γ a y
 |_,_=>false
def tF (Γ:Gm):C->Expr->Bool
 |.tv a,e=>chkE Γ a e
 |_,_=>false
end
def tG:C->Bool
 |_=>false
def wy (Γ:Gm)(it:C)(tg ie:Expr):Bool:=yX it tg&&kG Γ it ie
def uA:Stmt->Option (List Expr×Expr)
 |.Assign t v _=>some (t,v)
 |_=>none
def uB:Stmt->Option Expr
 |.Expr v _=>some v
 |_=>none
def BO:Stmt->Option (Option Expr)
 |.Return v _=>some v
 |_=>none
def BP:Stmt->Option (Expr×List Stmt×List Stmt)
 |.If t A B _=>some (t,A,B)
 |_=>none
def wz:Stmt->Option (Expr×Expr×List Stmt×List Stmt)
 |.For t i B o _=>some (t,i,B,o)
 |_=>none
def BQ:Stmt->Option (Expr×List Stmt×List Stmt)
 |.While t B o _=>some (t,B,o)
 |_=>none
def wB:Stmt->Option (Str×List Expr)
 |.Raise (some c) none _=>jM c
 |_=>none
def BS (e:Expr):Bool:=(fN e).any λk=>match k with|.str x=>PyData.strOk x|_=>false
def BU:ExceptHandler->Option (Str×Str×List Stmt)
 |.ExceptHandler (some t) (some n) b _=>(yV t).map λx=>(x,n,b)
 |_=>none
mutual
def tH (Γ:Gm):S->Stmt->Bool
 |.bad,_=>true
 |.asg t e,s=>(uA s).any λu=>(bI u.1).any λx=>oY Γ t x&& !tG e&&(NJ t||(!kZ u.2&& !isTup u.2))&&chkE Γ e u.2
 |.mut m i args,s=>(uB s).any λc=>(rA c).any λv=>(kF (mC Γ i) v.1&&(v.2.1==Str.ofString m)&& ["append"].contains m&&v.2.2.2&&decide (v.2.2.1.length<20))&& !v.2.2.1.isEmpty&&eC Γ args v.2.2.1
 |.drop e,s=>(uB s).any λv=>!kZ v&&chkE Γ e v
 |.ret e,s=>(BO s).any λo=>o.any λv=>chkE Γ e v
 |.bU c a b,s=>(BP s).any λv=>eB Γ c v.1&&chkL Γ a v.2.1&&chkL Γ b v.2.2
 |.bJ t it b,s=>Γ.cm&&(wz s).any λv=>oY Γ t v.1&&wy Γ it v.1 v.2.1&&chkL Γ b v.2.2.1&&v.2.2.2.isEmpty
 |.wh _ c b,s=>(BQ s).any λv=>eB Γ c v.1&&chkL Γ b v.2.1&&v.2.2.isEmpty
 |.kA c,s=>(wB s).any λv=>(v.1==c)&&mD Γ c&&Γ.rs.contains c&&Γ.cm&&(bI v.2).any BS
 |.nil,_=>false
 |.seq _ _,_=>false
def chkL (Γ:Gm):S->List Stmt->Bool
 |.nil,l=>l.isEmpty
 |.seq a b,l=>match l with|s::r=>tH Γ a s&&chkL Γ b r|_=>false
 |_,_=>false
end
def tD (K:W.Frag)(f:Rho->Res GD):TE:=λσ H Q=>∃ρ F x,StOk K F H σ ρ/\f ρ=.ok x/\∀v H',Same H H'->Rep K H' (BG F H x.1) v x.2->Q v H'
def dJ (K:W.Frag)(f:Rho->Res Bool):TT:=λσ H Q=>∃ρ F b,StOk K F H σ ρ/\f ρ=.ok b/\∀H',Same H H'->Q b H'
def tDO (K:W.Frag)(f:Rho->Res (Option Int)):TO:=λσ H Q=>∃ρ F b,StOk K F H σ ρ/\f ρ=.ok b/\∀H',Same H H'->Q b H'
def eP (K:W.Frag)(F:Fm)(H H':Hp):List V->List GD->Prop
 |vs,[]=>vs=[]
 |vs,x::xs=>∃v r,vs=v::r/\Rep K H' (BG F H x.1) v x.2/\eP K F H H' r xs
def tDA (K:W.Frag)(f:Rho->Res (List GD)):TA:=λσ H Q=>∃ρ F xs,StOk K F H σ ρ/\f ρ=.ok xs/\∀vs H',Same H H'->eP K F H H' vs xs->Q vs H'
theorem _root_.L2.PE.imp (h:PE X e t)(i:∀b H Q,a b H Q->t b H Q):PE X e a:=λc s b H Q I q=>h c s b H Q I (i b H Q q)
theorem _root_.L2.PT.imp (h:PT X e t)(i:∀b H Q,a b H Q->t b H Q):PT X e a:=λc s b H Q I q=>h c s b H Q I (i b H Q q)
theorem _root_.L2.PW.imp (h:PW X e t)(i:∀b H Q,a b H Q->t b H Q):PW X e a:=λwh c s b H Q I q=>h wh c s b H Q I (i b H Q q)
theorem _root_.L2.PA.imp (h:PA X e t)(i:∀b H Q,a b H Q->t b H Q):PA X e a:=λd c s b H Q I q=>h d c s b H Q I (i b H Q q)
theorem _root_.L2.PO.imp (h:PO X e t)(i:∀b H Q,a b H Q->t b H Q):PO X e a:=λc s b H Q I q=>h c s b H Q I (i b H Q q)
theorem _root_.L2.PS.imp (h:PS X e t)(i:∀D b H,a D b H->t D b H):PS X e a:=λc s b H D I q=>h c s b H D I (i D b H q)
theorem _root_.L2.PSs.imp (h:PSs X e t)(i:∀D b H,a D b H->t D b H):PSs X e a:=λc s b H D I q=>h c s b H D I (i D b H q)
section
variable {K:W.Frag}{F:Fm}{H H1 H':Hp}
theorem eP.back:∀{c:List V} {a:List GD},Same H H1->eP K F H1 H' c a->eP K F H H' c a
 |c,[],_,r=>r
 |c,x::a,s,r=>by obtain⟨v,t,e,h,q⟩:=r;exact⟨v,t,e,h.weak λ_ b=>b.back s,q.back s⟩
theorem eP.mF:∀{f:List V} {b:List GD},(∀x∈b,∀a,BG F H x.1 a->B a)->eP K F H H' f b->Reps K H' B f (b.map (·.2))
 |f,[],_,r=>r
 |f,x::b,c,r=>by obtain⟨v,t,e,h,q⟩:=r;exact⟨v,t,e,h.weak (c x bh),q.mF λy d=>c y (ba _ d)⟩
theorem eP.jN (b:∀a,H a=none->F.V a)(r:eP K F H H' d c):Reps K H' (bV F) d (c.map (·.2)):=r.mF λ_ _ _ h=>h.aM b
theorem wC (f:∀a,H a=none->F.V a)(c:x∈d)(h:BG F H x.1 a):BG F H (cH d) a:=by
 unfold cH;by_cases e:(d.all λx=>x.1==.fr)=true
 ·rw[rj e];have:=(bx.mp e) x c;have b:x.1=.fr:=by simpa using this
  rw[b]at h;exact h
 ·rw[rq e];split
  ·rename_i g;have:=(bx.mp g) x c;rcases dz.mp this with b|b
   ·rw[eq_of_beq b]at h;exact .inl h
   ·rw[eq_of_beq b]at h;exact h
  ·exact h.aM f
theorem BV (b:∀a,H a=none->F.V a)(s:Same H H1)(h:nw H1 a):BG F H (cH c) a:=by
 unfold cH;by_cases e:(c.all λx=>x.1==.fr)=true
 ·rw[rj e];exact nw.back s h
 ·rw[rq e];split
  ·exact .inl (nw.back s h)
  ·exact(nw.back s h).aM b
theorem rC (r:Rep K H' B v d)(h:∀a,B a->BG F H g a):Rep K H' (BG F H (gJ d g)) v d:=by
 unfold gJ;by_cases e:imm d=true
 ·rw[rj e];exact Rep.bC d e r
 ·rw[rq e];exact r.weak h
end
def jO (K:W.Frag)(m:D->D->Res D):R2:=λx y H Q=>∃Bx By dx dy d,Rep K H Bx x dx/\Rep K H By y dy/\m dx dy=.ok d/\∀w H',Same H H'->Rep K H' (λa=>nw H a\/Bx a\/By a) w d->Q w H'
def pA (X:Cx)(f:Value->Value->Sem Value)(m:D->D->Res D):Prop:=OpR X f (jO X.K m)
def BW (K:W.Frag)(m:D->D->Res D):R2:=λx y H Q=>∃Bx By dx dy d,Rep K H Bx x dx/\Rep K H By y dy/\m dx dy=.ok d/\∀w H',Same H H'->Rep K H' (λa=>nw H a\/Bx a\/By a) w d->(∀ds,d=.list ds->imms ds=true->Rep K H' (nw H) w d)->Q w H'
def BX (X:Cx)(f:Value->Value->Sem Value)(m:D->D->Res D):Prop:=OpR X f (BW X.K m)
theorem _root_.L2.OpR.imp (h:OpR X f r)(i:∀x y H Q,a x y H Q->r x y H Q):OpR X f a:=λd s e H x y v u Q I b c q=>h d s e H x y v u Q I b c (i x y H Q q)
def z8u (K:W.Frag)(m:List D->Res D):List V->Hp->VK->Prop:=λxs H Q=>∃B ds d,Reps K H B xs ds/\m ds=.ok d/\∀w H',Same H H'->Rep K H' (λa=>nw H a\/B a) w d->Q w H'
theorem _root_.L2.CallR.imp (h:CallR X f r)(i:∀x H Q,a x H Q->r x H Q):CallR X f a:=λc s d H x v Q I b q=>h c s d H x v Q I b (i x H Q q)
theorem NK (a:PyData.strOk x=true)(b:PyData.strOk y=true):PyData.strOk (x++y)=true:=by
 unfold PyData.strOk at *
 show(x.cps++y.cps).all _=true;rw[Array.all_append,a,b];rfl
theorem rD:PyData.strOk x=true↔∀c∈x.cps.toList,c<0x110000:=by unfold PyData.strOk;rw[<-Array.all_toList];rw[bx];exact⟨λh c a=>by simpa using h c a,λh c a=>by simpa using h c a⟩
theorem GK (a:PyData.strOk x=true)(b:c∈x.cps.toList):PyData.strOk ⟨#[c]⟩=true:=
 rD.mpr λd hd=>by
  have e:d=c:=by simpa using hd
  rw[e];exact rD.mp a c b
theorem mG (h:n<=aS):n<=ay:=bq h (by rw[ci];unfold aS;decide)
theorem _root_.L2.cB.rel {K:W.Frag}(s:Same H b)(h:cB K H a c):cB K b a c:=h.keep (B:=λ_=>True) λa o e _=>s a o e
section
def NL (K:W.Frag):R2:=λx y H Q=>∃l b xs zs,x=.ref l/\y=.ref b/\SqL K H l xs/\SqL K H b zs/\xs.length+zs.length<=ay/\∀p,H p=none->Q (.ref p) (upd H p (.lst (xs++zs)))
theorem NM:OpR X (fy .Add) (NL X.K):=by
 intro M s O H x y v u Q I z A h;obtain⟨l,b,J,L,rfl,rfl,B,C,m,q⟩:=h;cases z;cases A;obtain⟨c,o,p1,_⟩:=I.list B;obtain⟨a,p,p2,_⟩:=I.list C;obtain⟨⟨cls,N,r,sl⟩,n,t,D,_,hd⟩:=p1;obtain⟨⟨w,e,f,g⟩,E,d,i,_,j⟩:=p2;subst D hd i j;have k:c.toArray.size+a.toArray.size<=ay:=by rw[bz,bz,<-o.length,<-p.length];exact m
 refine my ⟨_,t,rfl⟩ ⟨_,d,rfl⟩ noFill_list_add seq_list_add PySem.F.slot_list_add PySem.F.entry_list_add (PySem.F.args_list_add_2 _ _) (list_addW l b c.toArray a.toArray n E N e sl g k) ⟨t,d,?_⟩;have G:c.toArray++a.toArray=(c++a).toArray:=by simp
 rw[G];exact⟨.ref _,_,I.lnew (o.append p) (av▸m),rfl,q _ I.fresh⟩
def NN (K:W.Frag):R2:=λx y H Q=>∃a b ys,x=.ref a/\y=.ref b/\cB K H a []/\cB K H b ys/\Q (.ref b) H
theorem NO:OpR X (fy .Add) (NN X.K):=by intro E s J H x y v u Q I o p h;obtain⟨l,b,C,rfl,rfl,r,t,q⟩:=h;cases o;cases p;obtain⟨w,z,p1,_⟩:=I.tuple r;obtain⟨a,D,p2,_⟩:=I.tuple t;cases z;obtain⟨⟨cls,G,j,sl⟩,k,A,n,hd⟩:=p1;obtain⟨⟨m,d,e,f⟩,c,g,B,i⟩:=p2;subst A hd g i;refine my ⟨_,k,rfl⟩ ⟨_,c,rfl⟩ mj pc PySem.F.slot_tuple_add PySem.F.entry_tuple_add (PySem.F.args_tuple_add_2 _ _) (tuple_addW0 l b _ a.toArray n B G d sl f (by simp)) ⟨k,c,?_⟩;exact⟨.ref b,H,I,rfl,q⟩
variable {K:W.Frag}{H:Hp}{B:Ad->Prop}{v:V}
theorem lC (r:Rep K H B v (.list b)):∃a c,v=.ref a/\SqL K H a c/\Reps K H B c b:=by
 obtain⟨a,c,e,h,q⟩:=r;refine⟨a,c,e,?_,q⟩;rcases h with⟨h,_⟩|⟨h|h,_⟩
 ·exact .inl (.inl h)
 ·exact .inl (.inr h)
 ·exact .inr h
theorem tI (b:H p=none)(r:Reps K H B f c)(d:∀a,B a->B' a)(e:B' (some p)):Rep K (upd H p (.lst f)) B' (.ref p) (.list c):=⟨p,f,rfl,.inl ⟨bF,e⟩,r.same (Same.upd b) d⟩
theorem yY (b:H p=none)(r:Reps K H B e c)(d:∀a,B a->f a):Rep K (upd H p (.tup e)) f (.ref p) (.tuple c):=⟨p,e,rfl,.inl (.inl bF),r.same (Same.upd b) d⟩
theorem dW {b:Type}{a:b}(h:(Res.no:Res b)=.ok a):False:=by cases h
theorem NP:BX X (fy .Add) (dH .Add):=by
 refine OpR.imp ((Nn.or NM).or NO) λx y H Q h=>?_;obtain⟨u,v,D,w,d,k,l,e,q⟩:=h;cases D<;>try (exact(dW e).elim)
 all_goals cases w<;>try (exact(dW e).elim)
 case int.int i j=>cases e;have s:=k;have t:=l;subst s t;exact .inl (.inl (Nv (q _ H (Same.refl H) rfl λm z=>by cases z)))
 case str.str i j=>
  have s:=k.1;have t:=l.1;subst s t;have e:(if i.length+j.length<=aS then Res.ok (PyData.str (i++j))else Res.no)=Res.ok d:=e;split at e
  ·rename_i n;cases e;exact .inl (.inl (Nw (mG n) (q _ H (Same.refl H) ⟨rfl,NK k.2 l.2⟩ λm z=>by cases z)))
  ·cases e
 case list.list xs ys=>
  have e:(if xs.length+ys.length<=aS then Res.ok (PyData.list (xs++ys))else Res.no)=Res.ok d:=e;split at e
  ·rename_i n;cases e;obtain⟨a,C,rfl,o,c⟩:=lC k;obtain⟨b,ws,rfl,r,f⟩:=lC l;refine .inl (.inr ⟨a,b,C,ws,rfl,rfl,o,r,mG (by rw[c.length,f.length];exact n),λp g=>q _ _ (Same.upd g) ?_ ?_⟩)
   ·exact tI g (Reps.append (c.weak λ_ z=>.inr (.inl z)) (f.weak λ_ z=>.inr (.inr z))) (λ_ z=>z) (.inl g)
   ·intro m z E;cases z;exact tI g (Reps.bC _ E (Reps.append (c.weak (B':=λa=>nw H a\/u a\/v a) λ_ z=>.inr (.inl z)) (f.weak λ_ z=>.inr (.inr z)))) (λ_ z=>z) g
  ·cases e
 case tuple.tuple xs ys=>
  have e:(if xs.length+ys.length<=aS then Res.ok (PyData.tuple (xs++ys))else Res.no)=Res.ok d:=e;split at e
  ·rename_i n;cases e;obtain⟨a,C,rfl,o,c⟩:=k;obtain⟨b,ws,rfl,r,f⟩:=l;cases C with
   |nil=>
    have:xs=[]:=by have:=c.length;exact g9.mp this.symm
    subst this;exact .inr ⟨a,b,ws,rfl,rfl,o,r,q _ H (Same.refl H) ⟨b,ws,rfl,r,f.weak λ_ z=>.inr (.inr z)⟩ λm z=>by cases z⟩
   |cons A B=>
    refine .inl (.inl (.inr (.inr (.inr ⟨a,b,A::B,ws,rfl,rfl,o,r,by simp,mG (by rw[c.length,f.length];exact n),λz=>?_,λz p g=>q _ _ (Same.upd g) ?_ λm z=>by cases z⟩))))
    ·subst z;have:ys=[]:=by have:=f.length;exact g9.mp this.symm
     subst this;rw[dm]at q;exact q _ H (Same.refl H) ⟨a,_,rfl,o,c.weak λ_ z=>.inr (.inl z)⟩ λm z=>by cases z
    ·exact yY g (Reps.append (c.weak λ_ z=>.inr (.inl z)) (f.weak λ_ z=>.inr (.inr z))) (λ_ z=>z)
  ·cases e
theorem yZ {gd:Int->Int->D}(h:OpR X f (rI k g))(b:∀i j H B,Rep X.K H B (g i j) (gd i j))(hm:∀r a d,m r a=.ok d->∃i j,r=.int i/\a=.int j/\k i j/\d=gd i j):BX X f m:=by refine OpR.imp h λx y H Q h=>?_;obtain⟨o,p,r,a,d,l,n,e,q⟩:=h;obtain⟨i,j,rfl,rfl,c,rfl⟩:=hm r a d e;exact⟨i,j,l,n,c,q _ H (Same.refl H) (b i j _ _) λ_ _ _=>b i j _ _⟩
theorem NQ (h:OpR X f (kW g)):OpR X f (rI (λ_ _=>True) g):=OpR.imp h λx y H Q ⟨i,j,a,b,_,q⟩=>⟨i,j,a,b,q⟩
theorem NR:OpR X (fy .FloorDiv) (rI (λ_ j=>0<j/\j<2 ^ 200) λi j=>.int (i/j)):=opI λi j _ _ _ _ _ b q=>by
 refine floordiv_int (by omega) (by rw[Int.fdiv_eq_ediv_of_nonneg i (by omega)];exact q) (.inl (PyProof.noPylong_of_log2 ?_));have a:j.natAbs<2 ^ 200:=by omega
 have c:=(Nat.log2_lt (by omega)).mpr a;omega
def NS:R2:=λx y H Q=>∃a n,x=.str a/\y=.int n/\(0<=n/\n<=aS/\a.length*n.toNat<=aS)/\Q (.str ⟨(oR n.toNat a.cps.toList).toArray⟩) H
theorem NT {a:Type}(n:Nat):oR n ([]:List a)=[]:=by
 unfold oR
 induction n with
 |zero=>rfl
 |succ n b=>rw[ou,qc,b];rfl
theorem GL (a:Array Nat):∀(k:Nat) (b:List Nat),(ax k a).foldl (·++·) b.toArray=(b++oR k a.toList).toArray
 |0,b=>by simp[oR]
 |k+1,b=>by
  rw[ou,nn];have e:b.toArray++a=(b++a.toList).toArray:=by simp
  rw[e,GL a k];rw[i0];rfl
theorem NU (h:0<=n):Txt.mul a n=⟨(oR n.toNat a.cps.toList).toArray⟩:=by
 unfold Txt.mul;by_cases c:n<1
 ·obtain rfl:n=0:=by omega
  rw[rj c];rfl
 ·rw[rq c];split
  ·rename_i b;rcases dz.mp b with b|b
   ·obtain rfl:n=1:=sj b;show a=⟨(a.cps.toList++[]).toArray⟩;rw[dm]
   ·have e:a.cps.size=0:=sj b;have d:=g9.mp (jb▸e);rw[d,NT];have f:a.cps=#[]:=by rw[<-kl (xs:=a.cps),d]
    cases a;cases f;rfl
  ·have :=GL a.cps n.toNat [];exact congrArg Str.mk this
theorem NV (h:PyData.strOk a=true)(n:Nat):PyData.strOk ⟨(oR n a.cps.toList).toArray⟩=true:=by unfold PyData.strOk at h ⊢;rw[<-Array.all_toList,bx]at h ⊢;intro c d;obtain⟨l,e,b⟩:=mn.mp d;rw[(List.mem_replicate.mp e).2]at b;exact h c b
theorem NW:OpR X (fy .Mult) NS:=by
 rintro g s h H x y v u Q I b c ⟨a,n,rfl,rfl,⟨h0,hn,d⟩,q⟩
 obtain⟨t,rfl⟩:=b;obtain⟨e,rfl⟩:=c;unfold aS at hn d;refine SB.mul (PyProof.Rows.mulOk_of a.length n.toNat (ah _) (by omega) (by omega) (by omega) (by omega)) λf k=>?_;rw[NU h0];exact⟨.str _,H,I.tok _,⟨_,rfl⟩,q⟩
theorem NY (f:qb)(h:BL f=true):BX X (fy f) (dH f):=by
 cases f<;>try (cases h;done)
 case Add=>exact NP
 case Sub=>
  refine yZ (NQ L1) (gd:=λi j=>.int (i-j)) (λ_ _ _ _=>rfl) λs b d e=>?_;cases s<;>try (exact(dW e).elim)
  cases b<;>try (exact(dW e).elim)
  cases e;simp_all
 case Mult=>
  refine OpR.imp (L3.or NW) λx y H Q h=>?_;obtain⟨p,r,s,b,d,l,m,e,q⟩:=h;cases s<;>try (exact(dW e).elim)
  all_goals cases b<;>try (exact(dW e).elim)
  case int.int i j=>
   have e:(if(-(2 ^ 64)<i/\i<2 ^ 64)\/(-(2 ^ 64)<j/\j<2 ^ 64)then Res.ok (PyData.int (i*j))else Res.no)=Res.ok d:=e;split at e
   ·rename_i c;cases e;exact .inl ⟨i,j,l,m,c,q _ H (Same.refl H) rfl λo z=>by cases z⟩
   ·cases e
  case str.int a n=>
   have e:(if 0<=n/\n<=aS/\a.length*n.toNat<=aS then Res.ok (PyData.str ⟨(oR n.toNat a.cps.toList).toArray⟩)else Res.no)=Res.ok d:=e;split at e
   ·rename_i c;cases e;obtain⟨g,k⟩:=l;exact .inr ⟨a,n,g,m,c,q _ H (Same.refl H) ⟨rfl,NV k _⟩ λo z=>by cases z⟩
   ·cases e
 case FloorDiv=>
  refine yZ NR (gd:=λi j=>.int (i/j)) (λ_ _ _ _=>rfl) λs b d e=>?_;cases s<;>try (exact(dW e).elim)
  cases b<;>try (exact(dW e).elim)
  rename_i i j;have e:(if 0<j/\j<2 ^ 200 then Res.ok (PyData.int (i/j))else Res.no)=Res.ok d:=e;split at e
  ·rename_i c;cases e;simp_all
  ·cases e
 case Mod=>
  refine yZ L4 (gd:=λi j=>.int (i%j)) (λ_ _ _ _=>rfl) λs b d e=>?_;cases s<;>try (exact(dW e).elim)
  cases b<;>try (exact(dW e).elim)
  rename_i i j;have e:(if 0<j then Res.ok (PyData.int (i%j))else Res.no)=Res.ok d:=e;split at e
  ·rename_i c;cases e;simp_all
  ·cases e
 case Pow=>
  refine yZ L5 (gd:=λi j=>.int (i ^ j.toNat)) (λ_ _ _ _=>rfl) λs b d e=>?_;cases s<;>try (exact(dW e).elim)
  cases b<;>try (exact(dW e).elim)
  rename_i i j;have e:(if 0<=j/\j<=1000/\i.natAbs<2 ^ 64 then Res.ok (PyData.int (i ^ j.toNat))else Res.no)=Res.ok d:=e;split at e
  ·rename_i c;cases e;exact⟨_,_,rfl,rfl,⟨c.1,by omega,c.2.2⟩,rfl⟩
  ·cases e
end
section
variable {X:Cx}{pins:List (Addr×Obj)}{σ:L2.St}{H:Hp}{s:bc}{B:Ad->Prop}
mutual
theorem Rep.reads (I:Inv X pins σ H s):∀{v:V} {u:Value} (d:ao) (n:Nat),bE n d=true->Rep X.K H B v d->RelV v u->(∃as,Reads s.heap u d as)/\d.canLay0=true/\d.depth<=n
 |v,u,.none,n,_,r,q=>by have e:v=.aK:=r;subst e;cases q;exact⟨⟨[],.none⟩,by simp only[PyData.canLay0],cz _⟩
 |v,u,.bool b,n,_,r,q=>by have e:v=.bl b:=r;subst e;cases q;exact⟨⟨[],.bool b⟩,by simp only[PyData.canLay0],cz _⟩
 |v,u,.int b,n,_,r,q=>by have e:v=.int b:=r;subst e;obtain⟨t,rfl⟩:=q;exact⟨⟨[],.int b t⟩,by simp only[PyData.canLay0],cz _⟩
 |v,u,.str b,n,_,r,q=>by obtain⟨e,ok⟩:v=.str b/\_:=r;subst e;obtain⟨t,rfl⟩:=q;exact⟨⟨[],.str b t⟩,by simp only[PyData.canLay0];exact ok,cz _⟩
 |v,u,.tuple ds,0,h,r,q=>by cases h
 |v,u,.list ds,0,h,r,q=>by cases h
 |v,u,.tuple ds,n+1,h,r,q=>by obtain⟨a,vs,e,h1,r1⟩:=r;subst e;cases q;obtain⟨eM,rv,⟨o,ho,hc,k,hd⟩,_⟩:=I.tuple h1;obtain⟨⟨as,ra⟩,c,dp⟩:=Reps.reads I ds n (h) r1 rv;refine⟨⟨as,.tuple ho hc hd (by simpa using ra)⟩,by simp only[PyData.canLay0];exact c,?_⟩;simp only[PyData.depth];omega
 |v,u,.list ds,n+1,h,r,q=>by obtain⟨a,vs,e,h1,r1⟩:=lC r;subst e;cases q;obtain⟨eM,rv,⟨o,k,ho,hc,_,hd⟩,_⟩:=I.list h1;obtain⟨⟨as,ra⟩,c,dp⟩:=Reps.reads I ds n (h) r1 rv;refine⟨⟨a::as,.list ho hc hd (by simpa using ra)⟩,by simp only[PyData.canLay0];exact c,?_⟩;simp only[PyData.depth];omega
 |v,u,.dict es,n,h,r,q=>by cases n<;>cases h
theorem Reps.reads (I:Inv X pins σ H s):∀{vs:List V} {us:List Value} (ds:List ao) (n:Nat),fR n ds=true->Reps X.K H B vs ds->Vals vs us->(∃as,ReadsAll s.heap us ds as)/\PyData.canLayAll0 ds=true/\PyData.depthAll ds<=n
 |vs,us,[],n,_,r,q=>by have e:vs=[]:=r;subst e;cases q;exact⟨⟨[],.nil⟩,by simp only[PyData.canLayAll0],cz _⟩
 |vs,us,d::ds,n,h,r,q=>by
  obtain⟨v,t,e,h1,r1⟩:=r;subst e;rw[fR,bt]at h;cases q with
  |cons q1 q2=>obtain⟨⟨as,ra⟩,c,dp⟩:=Rep.reads I d n h.1 h1 q1;obtain⟨⟨bs,rb⟩,c2,NZ⟩:=Reps.reads I ds n h.2 r1 q2;refine⟨⟨as++bs,.cons ra rb⟩,by simp only[PyData.canLayAll0,c,c2,Bool.and_self],?_⟩;simp only[PyData.depthAll];exact Nat.max_le.mpr ⟨dp,NZ⟩
end
end
def mB (m:D->D->Res Bool):D->D->Res D:=λx y=>m x y>>=λb=>.ok (.bool b)
theorem wD (h:mB m x y=.ok d):∃b,m x y=.ok b/\d=.bool b:=by obtain⟨b,a,c⟩:=Res.aA h;exact⟨b,a,(Res.ok.inj c).symm⟩
theorem BY (hu:X.A.units+64<cLine):pA X (cw .Eq) (mB (cmpD .Eq)):=by
 intro w s z H x y v u Q I c f h;obtain⟨o,p,t,a,d,g,i,e,q⟩:=h;obtain⟨b,j,ed⟩:=wD e;subst ed;have e:=j;have e:(if(bE 40 t&&bE 40 a)=true then Res.ok (dZ t a)else Res.no)=Res.ok b:=e;split at e
 ·rename_i hs;cases e;rw[bt]at hs;obtain⟨⟨r,k⟩,l,p1⟩:=Rep.reads I t 40 hs.1 g c;obtain⟨⟨bs,m⟩,n,p2⟩:=Rep.reads I a 40 hs.2 i f;exact SeqAt.compareEq_reads k m l n (by omega) ⟨.bl _,H,I,rfl,q _ H (Same.refl H) rfl⟩
 ·cases e
theorem BZ (hu:X.A.units+64<cLine):pA X (cw .NotEq) (mB (cmpD .NotEq)):=by
 intro w s z H x y v u Q I c f h;obtain⟨o,p,t,a,d,g,i,e,q⟩:=h;obtain⟨b,j,ed⟩:=wD e;subst ed;have e:=j;have e:(if(bE 40 t&&bE 40 a)=true then Res.ok (!dZ t a)else Res.no)=Res.ok b:=e;split at e
 ·rename_i hs;cases e;rw[bt]at hs;obtain⟨⟨r,k⟩,l,p1⟩:=Rep.reads I t 40 hs.1 g c;obtain⟨⟨bs,m⟩,n,p2⟩:=Rep.reads I a 40 hs.2 i f;exact SeqAt.compareNe_reads k m l n (by omega) ⟨.bl _,H,I,rfl,q _ H (Same.refl H) rfl⟩
 ·cases e
theorem zkv (h:OpR X (cw a) r)(m:∀i j b H Q,cmpD a (.int i) (.int j)=.ok b->Q (.bl b) H->r (.int i) (.int j) H Q)(n:∀i j b H Q,cmpD a (.str i) (.str j)=.ok b->Q (.bl b) H->r (.str i) (.str j) H Q)
  (hm:∀t c b,cmpD a t c=.ok b->(∃i j,t=.int i/\c=.int j)\/∃i j,t=.str i/\c=.str j):pA X (cw a) (mB (cmpD a)):=by
 refine OpR.imp h λx y H Q h=>?_;obtain⟨p,s,t,c,d,k,l,e,q⟩:=h;obtain⟨b,o,ed⟩:=wD e;subst ed;have e:=o;rcases hm t c b e with⟨i,j,rfl,rfl⟩|⟨i,j,rfl,rfl⟩
 ·have f:x=.int i:=k;have g:=l;subst f g;exact m i j b H Q e (q _ H (Same.refl H) rfl)
 ·have f:x=.str i:=k.1;have g:=l.1;subst f g;exact n i j b H Q e (q _ H (Same.refl H) rfl)
theorem B1:pA X (cw .Lt) (mB (cmpD .Lt)):=zkv Bs (λi j b H Q e q=>by cases e;exact Ny q) (λi j b H Q e q=>by cases e;exact NB q) λc a b e=>by cases c<;>first|exact(dW e).elim|(cases a<;>first|exact .inl ⟨_,_,rfl,rfl⟩|exact .inr ⟨_,_,rfl,rfl⟩|exact(dW e).elim)
theorem B2:pA X (cw .LtE) (mB (cmpD .LtE)):=zkv Bt (λi j b H Q e q=>by cases e;exact Nz q) (λi j b H Q e q=>by cases e;exact NC q) λc a b e=>by cases c<;>first|exact(dW e).elim|(cases a<;>first|exact .inl ⟨_,_,rfl,rfl⟩|exact .inr ⟨_,_,rfl,rfl⟩|exact(dW e).elim)
theorem B3:pA X (cw .Gt) (mB (cmpD .Gt)):=zkv Bu (λi j b H Q e q=>by cases e;exact NA q) (λi j b H Q e q=>by cases e;exact ND q) λc a b e=>by cases c<;>first|exact(dW e).elim|(cases a<;>first|exact .inl ⟨_,_,rfl,rfl⟩|exact .inr ⟨_,_,rfl,rfl⟩|exact(dW e).elim)
theorem aV.val {K:W.Frag}(k:Key):∀{a:List (Key×V)} {j:aY},aV K H B a j->match z0d j (kD k)with|some d=>∃v,cG a k=some v/\Rep K H B v d|none=>cG a k=none
 |a,[],r=>by have e:=r;subst e;exact rfl
 |a,(kd,d)::j,r=>by
  obtain⟨b,v,t,e,f,ok,h,q⟩:=r;subst e f;have g:=aV.val k q;by_cases z:b=k
  ·subst z
   have c:z0d ((kD b,d)::j) (kD b)=some d:=by
    have:eqK (kD b) (kD b)=true:=by cases b<;>simp[kD,eqK]
    unfold z0d;rw[j0 (by exact this)];rfl
   rw[c];exact⟨v,vM rfl,h⟩
  ·have i:eqK (kD b) (kD k)=false:=by
    rw[p8];intro w;apply z;cases b<;>cases k<;>simp[kD,eqK]at w<;>rw[w]
   have c:z0d ((kD b,d)::j) (kD k)=z0d j (kD k):=by unfold z0d;rw[m5 (i▸dq)]
   rw[c,sQ z];exact g
theorem wF {K:W.Frag}(h:iH d=true)(r:Rep K H B v d):∃k,d=kD k/\v=kV k/\keyOk k:=by
 cases d<;>try (cases h;done)
 case int i=>exact⟨.inl i,rfl,r,True.intro⟩
 case str x=>exact⟨.inr x,rfl,r.1,r.2⟩
theorem zj8 (hu:X.A.units+64<cLine)(j:Bool)(I:Inv X pins σ H s)(l:RelV x v)(n:RelV y u)
  (t:Rep X.K H R x dx) (B:Rep X.K H T y E) (e:inD dx E=.ok b) (q:Q (.bl (if j then !b else b)) H):
  wpAny (model X.prog X.w) X.A (cw (if j then .NotIn else .In) v u) (EP X pins σ Q) X.xe s:=by
 cases E<;>try (cases e;done)
 case list xs=>
  change(if(bE 40 dx&&fR 40 xs)=true then Res.ok (xs.any λy=>dZ y dx)else .no)=_ at e;split at e
  ·rename_i hs;cases e;rw[bt]at hs;obtain⟨⟨G,o⟩,p,p1⟩:=Rep.reads I dx 40 hs.1 t l;obtain⟨⟨bs,r⟩,C,p2⟩:=Rep.reads I (.list xs) 41 hs.2 B n;have f:PyData.canLayAll0 xs=true:=by simpa only[PyData.canLay0]using C
   cases j
   ·exact SeqAt.in_list_reads r o f p (by omega) ⟨.bl _,H,I,rfl,q⟩
   ·exact SeqAt.notIn_list_reads r o f p (by omega) ⟨.bl _,H,I,rfl,q⟩
  ·cases e
 case tuple xs=>
  change(if(bE 40 dx&&fR 40 xs)=true then Res.ok (xs.any λy=>dZ y dx)else .no)=_ at e;split at e
  ·rename_i hs;cases e;rw[bt]at hs;obtain⟨⟨G,o⟩,p,p1⟩:=Rep.reads I dx 40 hs.1 t l;obtain⟨⟨bs,r⟩,C,p2⟩:=Rep.reads I (.tuple xs) 41 hs.2 B n;have f:PyData.canLayAll0 xs=true:=by simpa only[PyData.canLay0]using C
   cases j
   ·exact SeqAt.in_tuple_reads r o f p (by omega) ⟨.bl _,H,I,rfl,q⟩
   ·exact SeqAt.notIn_tuple_reads r o f p (by omega) ⟨.bl _,H,I,rfl,q⟩
  ·cases e
 case dict es=>
  change(if iH dx=true then Res.ok (z0d es dx).isSome else .no)=_ at e;split at e
  ·rename_i hk;cases e;obtain⟨k,rfl,rfl,_⟩:=wF hk t;obtain⟨a,h,rfl,J,_,L⟩:=B;cases n;have m:=L.val k;have g:DGet H a (kV k) (cG h k):=DGet.k J
   have F:(cG h k).isSome=(z0d es (kD k)).isSome:=by
    cases e:z0d es (kD k)with
    |none=>rw[e]at m;rw[show cG h k=none from m];rfl
    |some d=>rw[e]at m;obtain⟨v,m,_⟩:=m;rw[m];rfl
   cases j
   ·exact d_in (by omega) I g l λS D=>⟨.bl _,H,D,rfl,by rw[F];exact q⟩
   ·exact zmb (by omega) I g l λS D=>⟨.bl _,H,D,rfl,by rw[F];exact q⟩
  ·cases e
 case str z=>
  cases dx<;>try (cases e;done)
  rename_i w;have M:=t.1;have N:=B.1;subst M N;change(match w.cps.toList with| [c]=>Res.ok (decide (c∈z.cps.toList))|_=>.no)=_ at e;split at e
  ·rename_i c O;cases e
   have P:w=⟨#[c]⟩:=by
    obtain⟨i⟩:=w;have:i=#[c]:=by rw[<-kl (xs:=i)];rw[show i.toList=[c]from O]
    rw[this]
   subst P;cases j
   ·exact Bv pins s σ H _ _ v u Q I l n (NF q)
   ·exact Np pins s σ H _ _ v u Q I l n (NG q)
  ·cases e
theorem B4 (hu:X.A.units+64<cLine):pA X (cw .In) (mB (cmpD .In)):=by intro m s n H x y v u Q I a c h;obtain⟨j,k,o,l,d,f,g,e,q⟩:=h;obtain⟨b,i,ed⟩:=wD e;subst ed;have e:=i;exact zj8 hu false I a c f g e (q _ H (Same.refl H) rfl)
theorem N0 (hu:X.A.units+64<cLine):pA X (cw .NotIn) (mB (cmpD .NotIn)):=by intro p s r H x y v u Q I a c h;obtain⟨l,m,t,n,d,f,g,e,q⟩:=h;obtain⟨b,i,ed⟩:=wD e;subst ed;have e:=i;obtain⟨o,j,k⟩:=Res.aA e;cases k;exact zj8 hu true I a c f g j (q _ H (Same.refl H) rfl)
theorem uC (hu:X.A.units+64<cLine)(a:CmpOp)(h:z52 a=true):pA X (cw a) (mB (cmpD a)):=by
 cases a<;>try (cases h;done)
 ·exact BY hu
 ·exact BZ hu
 ·exact B1
 ·exact B2
 ·exact B3
 ·exact B4 hu
 ·exact N0 hu
section
variable {X:Cx}{a b c e:Expr}{fa fb:Rho->Res GD}{pos:Pos}
theorem y6 (h:PE X e (tC v))(r:∀H B,Rep X.K H B v d):PE X e (tD X.K λ_=>.ok (.fr,d)):=PE.imp h λb H Q ⟨c,F,x,a,e,q⟩=>by cases e;exact q v H (Same.refl H) (r H _)
theorem N1 {i:Nat}(hN:X.N[i]?=some x)(b:Vis X.env.scope x)(hd:Wl x)(a:(x==("__classdict__":Str))=false):PE X (.Name x pos) (tD X.K λg=>vZ g[i]?):=PE.imp (vx hN b hd a) λh H Q ⟨g,F,x,c,e,q⟩=>by obtain⟨v,d,f⟩:=c.rd e;exact⟨v,d,q v H (Same.refl H) f⟩
theorem GN {K:W.Frag}(r:Rep K H' B v d)(h:∀a,B a->BG F H g a)(n:∀b,d=.list b->imms b=true->Rep K H' (nw H) v d):Rep K H' (BG F H (gN d g)) v d:=by
 cases d with
 |list b=>
  show Rep K H' (BG F H (if imms b=true then .fr else g)) v _;split
  ·rename_i c;exact n b rfl c
  ·exact r.weak h
 |_=>exact rC r h
theorem N2 (j:BL g=true)(k:PE X a (tD X.K fa))(l:PE X b (tD X.K fb)):PE X (.BinOp a g b pos) (tD X.K λE=>fa E>>=λx=>fb E>>=λy=>dH g x.2 y.2>>=λd=>.ok (gN d (cH [x,y]),d)):=
 PE.imp (LY (NY g j) k l) λI H Q m=>by
  obtain⟨E,F,z,c,e,q⟩:=m;obtain⟨x,n,e⟩:=Res.aA e;obtain⟨y,o,e⟩:=Res.aA e;obtain⟨d,p,e⟩:=Res.aA e;cases e;refine⟨E,F,x,c,n,λv J s1 r=>⟨E,F,y,c.same s1,o,λu D f s=>⟨_,_,x.2,y.2,d,r.same f λ_ z=>z,s,p,λw t A i B=>q w t ((s1.trans f).trans A) (GN i (λa h=>?_) λC z G=>(B C z G).weak λ_ z=>nw.back (s1.trans f) z)⟩⟩⟩;rcases h with h|h|h
  ·exact BV c.aM (s1.trans f) h
  ·exact wC c.aM (by simp) h
  ·exact wC c.aM (by simp) (h.back s1)
theorem N3 (b:PE X a (tD X.K fa)):PE X (.UnaryOp .USub a pos) (tD X.K λj=>fa j>>=λx=>match x.2 with|.int i=>.ok (.fr,.int (-i))|_=>.no):=
 PE.imp (LZ L6 b) λl H Q ⟨j,F,z,c,e,q⟩=>by
  obtain⟨x,f,e⟩:=Res.aA e;refine⟨j,F,x,c,f,λv k s1 h=>?_⟩;obtain⟨g,d⟩:=x;cases d<;>try (cases e;done)
  rename_i i;cases e;exact⟨i,h,q _ k s1 rfl⟩
theorem GO (h:tD X.K (λp=>fa p>>=λx=>fb p>>=λy=>cmpD r x.2 y.2>>=λb=>.ok (.fr,.bool b)) s H Q):jH (jO X.K (mB (cmpD r))) (tD X.K fa) (tD X.K fb) s H Q:=by obtain⟨p,F,z,c,e,q⟩:=h;obtain⟨x,g,e⟩:=Res.aA e;obtain⟨y,i,e⟩:=Res.aA e;obtain⟨d,j,e⟩:=Res.aA e;cases e;exact⟨p,F,x,c,g,λv t s1 k=>⟨p,F,y,c.same s1,i,λu o f l=>⟨_,_,x.2,y.2,.bool d,k.same f λ_ z=>z,l,by show(cmpD r x.2 y.2>>=λb=>Res.ok (PyData.bool b))=_;rw[j];rfl,λw m n a=>q w m ((s1.trans f).trans n) a⟩⟩⟩
theorem zuv (hu:X.A.units+64<cLine)(c:z52 f=true)(hm:dt f b=false)(d:PE X a (tD X.K fa))(e:PE X b (tD X.K fb)):
  PE X (.Compare a [f] [b] pos) (tD X.K λg=>fa g>>=λx=>fb g>>=λy=>cmpD f x.2 y.2>>=λb=>.ok (.fr,.bool b)):=
 PE.imp (FD (uC hu f c) d e hm) λi H Q h=>GO h
theorem B5 (d:∀j H Q,tD X.K f j H Q->t j H Q)(g:∀l x,f l=.ok x->∃c,x.2=.bool c)(j:L2.St)(H:Hp)(Q:Bool->Hp->Prop)(h:dJ X.K (λl=>f l>>=λx=>jK x.2) j H Q):qO t j H Q:=by obtain⟨l,F,c,i,e,q⟩:=h;obtain⟨x,a,e⟩:=Res.aA e;obtain⟨k,b⟩:=g l x a;rw[b]at e;cases e;refine d j H _ ⟨l,F,x,i,a,λv m s r=>?_⟩;rw[b]at r;exact⟨k,r,q m s⟩
theorem N4 (e:(fa h>>=λx=>fb h>>=λy=>cmpD i x.2 y.2>>=λb=>Res.ok ((.fr,.bool b):GD))=.ok x):∃c,x.2=.bool c:=by obtain⟨x,a,e⟩:=Res.aA e;obtain⟨y,f,e⟩:=Res.aA e;obtain⟨d,g,e⟩:=Res.aA e;cases e;exact⟨d,rfl⟩
theorem zwa (hu:X.A.units+64<cLine)(c:z52 g=true)(hm:dt g b=false)(d:PE X a (tD X.K fa))(f:PE X b (tD X.K fb)):
  PT X (.Compare a [g] [b] pos) (dJ X.K λi=>(fa i>>=λx=>fb i>>=λy=>cmpD g x.2 y.2>>=λb=>Res.ok ((.fr,.bool b):GD))>>=λx=>jK x.2):=
 PT.imp (FE (uC hu g c) d f hm) (B5 (λj H Q h=>GO h) λi x e=>N4 e)
theorem GP {K:W.Frag}(r:Rep K H B v d):decide (v=.aK)=(match d with|.none=>true|_=>false):=by
 cases d with
 |none=>have e:v=.aK:=r;subst e;rfl
 |bool b=>have e:v=.bl b:=r;subst e;rfl
 |int b=>have e:v=.int b:=r;subst e;rfl
 |str b=>have e:v=.str b:=r.1;subst e;rfl
 |tuple c=>obtain⟨a,f,e,_⟩:=r;subst e;rfl
 |list c=>obtain⟨a,f,e,_⟩:=r;subst e;rfl
 |dict c=>obtain⟨a,f,e,_⟩:=r;subst e;rfl
def pB (ng:Bool)(fa:Rho->Res GD):Rho->Res GD:=λρ=>fa ρ>>=λx=>.ok (.fr,.bool (match x.2 with|.none=>!ng|_=>ng))
theorem y7 (h:tD X.K (pB i fa) k H Q):(if i then Ax (tD X.K fa)else sD (tD X.K fa)) k H Q:=by
 obtain⟨j,F,z,b,e,q⟩:=h;obtain⟨x,c,e⟩:=Res.aA e;cases e;cases i with
 |false=>
  refine⟨j,F,x,b,c,λv f s1 a=>?_⟩
  dsimp only
  rw[GP a];refine q _ f s1 ?_;obtain⟨g,d⟩:=x;cases d<;>rfl
 |true=>
  refine⟨j,F,x,b,c,λv f s1 a=>?_⟩
  dsimp only
  rw[GP a];refine q _ f s1 ?_;obtain⟨g,d⟩:=x;cases d<;>rfl
theorem GQ (e:pB ng fa ρ=.ok x):∃c,x.2=.bool c:=by obtain⟨x,a,e⟩:=Res.aA e;cases e;exact⟨_,rfl⟩
theorem N5 {j p2}(c:o=if d then .IsNot else .Is)(b:PE X a (tD X.K fa)):PE X (.Compare a [o] [.Constant .none j p2] pos) (tD X.K (pB d fa)):=by
 subst c;cases d with
 |false=>exact PE.imp (Ff (Ay b)) λe H Q h=>y7 h
 |true=>exact PE.imp (Ff (Az b)) λe H Q h=>y7 h
theorem N6 {j p2}(c:o=if f then .IsNot else .Is)(b:PE X a (tD X.K fa)):PT X (.Compare a [o] [.Constant .none j p2] pos) (dJ X.K λd=>pB f fa d>>=λx=>jK x.2):=by
 subst c;cases f with
 |false=>exact PT.imp (yC (Ay b)) (B5 (λg H Q h=>y7 h) λd x e=>GQ e)
 |true=>exact PT.imp (yC (Az b)) (B5 (λg H Q h=>y7 h) λd x e=>GQ e)
def B6 (fa fb:Rho->Res GD):Rho->Res GD:=λρ=>fa ρ>>=λx=>match x.2 with|.bool c=>if c then fb ρ else .ok (.fr,.bool false)|_=>.no
def N7 (fa fb:Rho->Res GD):Rho->Res GD:=λρ=>fa ρ>>=λx=>match x.2 with|.bool c=>if c then .ok (.fr,.bool true)else fb ρ|_=>.no
theorem y8 (s1:Same H g)(a:StOk X.K F H h d)(e:f d=.ok x)(q:∀v c,Same H c->Rep X.K c (BG F H x.1) v x.2->Q v c):tD X.K f h g Q:=⟨d,F,x,a.same s1,e,λv c s r=>q v c (s1.trans s) (r.weak λ_ b=>b.back s1)⟩
theorem GS {rest:List Expr}(h:PE X a (tD X.K fa))(i:PE X (.BoolOp .And (b::rest) pos) (tD X.K fb)):PE X (.BoolOp .And (a::b::rest) pos) (tD X.K (B6 fa fb)):=
 PE.imp (AG h i) λn H Q ⟨l,F,z,f,e,q⟩=>by
  obtain⟨x,j,e⟩:=Res.aA e;refine⟨l,F,x,f,j,λv m s1 k=>?_⟩;obtain⟨g,d⟩:=x;cases d<;>try (cases e;done)
  rename_i c;refine⟨c,k,?_⟩;cases c with
  |true=>exact iS (y8 s1 f e q)
  |false=>cases e;exact iR (q _ m s1 rfl)
theorem wG {rest:List Expr}(h:PE X a (tD X.K fa))(i:PE X (.BoolOp .Or (b::rest) pos) (tD X.K fb)):PE X (.BoolOp .Or (a::b::rest) pos) (tD X.K (N7 fa fb)):=
 PE.imp (LK h i) λn H Q ⟨l,F,z,f,e,q⟩=>by
  obtain⟨x,j,e⟩:=Res.aA e;refine⟨l,F,x,f,j,λv m s1 k=>?_⟩;obtain⟨g,d⟩:=x;cases d<;>try (cases e;done)
  rename_i c;refine⟨c,k,?_⟩;cases c with
  |false=>exact iR (y8 s1 f e q)
  |true=>cases e;exact iS (q _ m s1 rfl)
theorem GU {K:W.Frag}(r:Rep K H B v d)(e:jK d=.ok k):lP K v H k:=by
 cases d with
 |none=>cases e;have c:v=.aK:=r;subst c;exact rfl
 |bool b=>cases e;have c:v=.bl b:=r;subst c;exact rfl
 |int b=>cases e;have c:v=.int b:=r;subst c;show(!decide (b=0))=(b != 0);rw[bne,j7]
 |str b=>
  have c:=r.1;subst c;simp only[jK]at e;split at e
  ·rename_i j;cases e;refine⟨mG j,?_⟩;rw[bne,j7]
   congr 1
   rw[decide_eq_decide];omega
  ·cases e
 |tuple f=>cases e;obtain⟨a,n,c,h,q⟩:=r;subst c;refine .inr (.inl ⟨n,h,?_⟩);show(!f.isEmpty)=!n.isEmpty;have:=q.length;cases n<;>cases f<;>simp at this ⊢
 |list f=>cases e;obtain⟨a,n,c,h,q⟩:=lC r;subst c;refine .inl ⟨n,h,?_⟩;show(!f.isEmpty)=!n.isEmpty;have:=q.length;cases n<;>cases f<;>simp at this ⊢
 |dict o=>
  cases e;obtain⟨a,g,c,h,_,q⟩:=r;subst c;refine .inr (.inr ⟨g,h,?_⟩);cases o with
  |nil=>have i:g=[]:=q;subst i;rfl
  |cons l m=>obtain⟨k,v,t,i,_⟩:=q;subst i;rfl
theorem N8 (g:PE X a (tD X.K fa)):PE X (.UnaryOp .Not a pos) (tD X.K λB=>fa B>>=λx=>jK x.2>>=λc=>.ok (.fr,.bool (!c))):=by
 rintro w s C H Q I ⟨B,F,z,h,e,q⟩
 obtain⟨x,i,e⟩:=Res.aA e;obtain⟨k,j,e⟩:=Res.aA e;cases e;refine UnaryOp_ (aI (g w s C H (λv A=>Same H A/\Rep X.K A (BG F H x.1) v x.2) I ⟨B,F,x,h,i,λv A s1 f=>⟨s1,f⟩⟩) λv s1 l=>?_);obtain⟨y,A,m,n,o,f⟩:=l;exact not_of (aI (FG w s1 C A y v (λb d=>b=k/\d=A) m n ⟨k,GU f j,rfl,rfl⟩) λb p ⟨d,r,t,u⟩=>by subst t u;exact⟨.bl _,d,r,rfl,q _ d o rfl⟩)
theorem N9 (b:PE X e (tD X.K fa))(c:∀a,ql e X.env a=(do let v <-a;standAt e.pos;holding [v] (truthy v))):PT X e (dJ X.K λh=>fa h>>=λx=>jK x.2):=PT.imp (z9q b c) λj H Q ⟨h,F,k,d,e,q⟩=>by obtain⟨x,f,e⟩:=Res.aA e;exact⟨h,F,x,d,f,λv i s1 g=>⟨k,GU g e,q i s1⟩⟩
section
variable {ta tb:Rho->Res Bool}{rest:List Expr}
theorem GV (s1:Same H H1)(a:StOk X.K F H σ ρ)(e:f ρ=.ok x)(q:∀b,Same H b->Q x b):dJ X.K f σ H1 Q:=⟨ρ,F,x,a.same s1,e,λb s=>q b (s1.trans s)⟩
theorem w_and (f:PT X a (dJ X.K ta))(g:PW X (.BoolOp .And (b::rest) pos) (dJ X.K tb)):PW X (.BoolOp .And (a::b::rest) pos) (dJ X.K λi=>ta i>>=λc=>if c then tb i else .ok false):=
 PW.imp (AA f g) λj H Q ⟨i,F,k,d,e,q⟩=>by
  obtain⟨x,h,e⟩:=Res.aA e;refine⟨i,F,x,d,h,λl s1=>?_⟩;cases x with
  |true=>exact iS (GV s1 d e q)
  |false=>cases e;simp_all
theorem w_or (f:PT X a (dJ X.K ta))(g:PW X (.BoolOp .Or (b::rest) pos) (dJ X.K tb)):PW X (.BoolOp .Or (a::b::rest) pos) (dJ X.K λi=>ta i>>=λc=>if c then .ok true else tb i):=
 PW.imp (AD f g) λj H Q ⟨i,F,k,d,e,q⟩=>by
  obtain⟨x,h,e⟩:=Res.aA e;refine⟨i,F,x,d,h,λl s1=>?_⟩;cases x with
  |false=>exact iR (GV s1 d e q)
  |true=>cases e;simp_all
theorem mH (b:PT X a (dJ X.K ta)):PT X (.UnaryOp .Not a pos) (dJ X.K λρ=>ta ρ>>=λc=>.ok (!c)):=PT.imp (Fj b) λh H Q ⟨ρ,F,k,d,e,q⟩=>by obtain⟨x,f,e⟩:=Res.aA e;cases e;exact⟨ρ,F,x,d,f,λg s1=>q g s1⟩
theorem Oa (g:PT X c (dJ X.K ta))(h:PE X a (tD X.K fa))(i:PE X b (tD X.K fb)):PE X (.IfExp c a b pos) (tD X.K λd=>ta d>>=λk=>if k then fa d else fb d):=
 PE.imp (LM g h i) λl H Q ⟨d,F,z,so,e,q⟩=>by
  obtain⟨x,j,e⟩:=Res.aA e;refine⟨d,F,x,so,j,λH1 f=>?_⟩;cases x with
  |true=>exact iS (y8 f so e q)
  |false=>exact iR (y8 f so e q)
end
theorem GW:PA X [] (tDA X.K λ_=>.ok []):=PA.imp kX λb H Q ⟨c,F,z,a,e,q⟩=>by cases e;exact q [] H (Same.refl H) rfl
theorem GX (hs:isStar e=false)(d:PE X e (tD X.K fa))(f:PA X m (tDA X.K fs)):PA X (e::m) (tDA X.K λl=>fa l>>=λx=>fs l>>=λa=>.ok (x::a)):=PA.imp (eV d f hs) λo H Q g=>by obtain⟨l,F,z,b,e,q⟩:=g;obtain⟨x,h,e⟩:=Res.aA e;obtain⟨a,i,e⟩:=Res.aA e;cases e;refine⟨l,F,x,b,h,λv p s1 j=>⟨l,F,a,b.same s1,i,λn k c rs=>q _ k (s1.trans c) ?_⟩⟩;exact⟨v,n,rfl,j.same c λ_ z=>z,rs.back s1⟩
theorem Ob {i}(h:PA X n (tDA X.K fs))(j:∀m c,fs m=.ok c->c.length<=ay):PE X (.Tuple n i pos) (tD X.K λm=>fs m>>=λb=>.ok (gJ (.tuple (b.map (·.2))) (cH b),.tuple (b.map (·.2)))):=PE.imp (FK h) λo H Q k=>by obtain⟨m,F,z,d,e,q⟩:=k;obtain⟨b,f,e⟩:=Res.aA e;cases e;refine⟨m,F,b,d,f,λs t s1 rs=>?_⟩;have r:=rs.mF λx l a h=>wC d.aM l h;refine⟨by rw[r.length,am];exact j m b f,λp g=>q _ _ (s1.trans (Same.upd g)) (rC (yY g r λ_ z=>z) λ_ z=>z)⟩
theorem Oc (h:PA X m (tDA X.K fs))(i:∀l f,fs l=.ok f->f.length<=ay):PE X (.List m pos) (tD X.K λl=>fs l>>=λb=>.ok (cH b,.list (b.map (·.2)))):=PE.imp (FN h) λn H Q j=>by obtain⟨l,F,z,c,e,q⟩:=j;obtain⟨b,g,e⟩:=Res.aA e;cases e;refine⟨l,F,b,c,g,λo s s1 rs=>?_⟩;have r:=rs.mF λx k a h=>wC c.aM k h;refine⟨by rw[r.length,am];exact i l b g,λp d=>q _ _ (s1.trans (Same.upd d)) (tI d r (λ_ z=>z) (BV c.aM s1 d))⟩
theorem Od:PE X (.Dict [] [] pos) (tD X.K λ_=>.ok (.fr,.dict [])):=PE.imp F6 λc H Q ⟨d,F,z,b,e,q⟩=>by cases e;intro p a;exact q _ _ (Same.upd a) ⟨p,[],rfl,bF,a,rfl⟩
end
theorem Oe {b:Type}(a:List b)(i:Int):L2.bW a i=Mi.bW a i:=rfl
theorem B7 (n d:Nat)(o:Option Int):HT.aZ n d o=Mi.aZ n d o:=by cases o<;>rfl
theorem Reps.cut {K:W.Frag}(b c:Option Int)(r:Reps K H B d a):Reps K H B (Mi.cut d b c) (Mi.cut a b c):=by unfold Mi.cut;rw[r.length];exact(r.drop _).take _
theorem Reps.bW {K:W.Frag}(r:Reps K H B g b)(e:Mi.bW b i=some d):∃v,L2.bW g i=some v/\Rep K H B v d:=by
 unfold Mi.bW at e;cases a:Mi.iG b.length i with
 |none=>rw[a]at e;cases e
 |some j=>rw[a]at e;obtain⟨v,c,f⟩:=r.get e;refine⟨v,?_,f⟩;rw[Oe];unfold Mi.bW;rw[r.length,a];exact c
theorem Of (hu:X.A.units+64<cLine):kY X (λx y H Q=>∃a v,x=.ref a/\DGet H a y (some v)/\Q v H):=by intro b c k s l H x y v u Q I e f h hs;obtain⟨a,z,rfl,g,q⟩:=h;cases e;exact tail_any (FW I g) PySem.F.slot_dict_getitem.lookup (z8q (by omega) I g f λj m i d=>⟨z,H,i,d,q⟩) hs
def iY (K:W.Frag):R2:=λx y H Q=>∃B B' dx dy d,Rep K H B x dx/\Rep K H B' y dy/\eO dx dy=.ok d/\∀w,Rep K H B w d->Q w H
theorem GY (hu:X.A.units+64<cLine):kY X (iY X.K):=by
 intro f g R s T H x y v u Q I G J h hs;refine(Nq.or (Of hu)) f g R s T H x y v u Q I G J ?_ hs;obtain⟨B,V,U,t,d,l,r,e,q⟩:=h;cases U<;>try (cases e;done)
 case list xs=>
  cases t<;>try (cases e;done)
  rename_i i;have m:=r;subst m;obtain⟨a,S,rfl,n,C⟩:=lC l;change Res.dQ (Mi.bW xs i)=_ at e;cases b:Mi.bW xs i with
  |none=>rw[b]at e;cases e
  |some D=>rw[b]at e;cases e;obtain⟨w,o,p⟩:=C.bW b;exact .inl (.inl ⟨a,S,i,w,rfl,rfl,n,o,q w p⟩)
 case tuple xs=>
  cases t<;>try (cases e;done)
  rename_i i;have m:=r;subst m;obtain⟨a,S,rfl,n,C⟩:=l;change Res.dQ (Mi.bW xs i)=_ at e;cases b:Mi.bW xs i with
  |none=>rw[b]at e;cases e
  |some D=>rw[b]at e;cases e;obtain⟨w,o,p⟩:=C.bW b;exact .inl (.inr (.inl ⟨a,S,i,w,rfl,rfl,n,o,q w p⟩))
 case str z=>
  cases t<;>try (cases e;done)
  rename_i i;have m:=r;have L:=l.1;subst L m;change(if z.length<=aS then Res.dQ ((Mi.bW z.cps.toList i).map λc=>PyData.str ⟨#[c]⟩)else .no)=_ at e;split at e
  ·rename_i M;cases b:Mi.bW z.cps.toList i with
   |none=>rw[b]at e;cases e
   |some c=>
    rw[b]at e;cases e
    have N:c∈z.cps.toList:=by
     unfold Mi.bW at b;cases E:Mi.iG z.cps.toList.length i with
     |none=>rw[E]at b;cases b
     |some j=>rw[E]at b;exact aq b
    exact .inl (.inr (.inr ⟨z,i,c,rfl,rfl,mG M,b,q _ ⟨rfl,GK l.2 N⟩⟩))
  ·cases e
 case dict es=>
  change(if iH _=true then Res.dQ (z0d es _)else Res.no)=_ at e;split at e
  ·rename_i hk;obtain⟨k,rfl,rfl,_⟩:=wF hk r;obtain⟨a,O,rfl,n,_,P⟩:=l;have F:=P.val k;cases b:z0d es (kD k)with
   |none=>rw[b]at e;cases e
   |some D=>rw[b]at e F;cases e;obtain⟨w,o,p⟩:=F;exact .inr ⟨a,w,rfl,by rw[<-o];exact DGet.k n,q w p⟩
  ·cases e
theorem B8 (h:z2u i=true):Gn i:=λo v=>by cases i<;>first|rfl|cases h
theorem d_ix (hu:X.A.units+64<cLine)(hs:z2u i=true)(g:PE X a (tD X.K r))(h:PE X i (tD X.K s)):
  PE X (.Subscript a i t) (tD X.K λp=>r p>>=λx=>s p>>=λy=>eO x.2 y.2>>=λd=>.ok (gJ d x.1,d)):=
 PE.imp (A5 (GY hu) g h (B8 hs)) λB H Q ⟨p,F,z,c,e,q⟩=>by obtain⟨x,j,e⟩:=Res.aA e;obtain⟨y,k,e⟩:=Res.aA e;obtain⟨d,l,e⟩:=Res.aA e;cases e;exact⟨p,F,x,c,j,λv C s1 m=>⟨p,F,y,c.same s1,k,λu n f o=>⟨_,_,x.2,y.2,d,m.same f λ_ z=>z,o,l,λw b=>q w n (s1.trans f) (rC b λ_ z=>z)⟩⟩⟩
theorem Og (h:PyData.strOk z=true)(b d:Option Int):PyData.strOk (lB z b d)=true:=
 rD.mpr λc a=>rD.mp h c (by
  have:c∈Mi.cut z.cps.toList b d:=by simpa[lB]using a
  exact List.mem_of_mem_drop (ol this))
theorem GZ (b c:Option Int)(n:Nat):gc b c 1 n=sliceRange ((Mi.aZ n 0 b:Nat):Int) ((Mi.aZ n n c:Nat):Int) 1:=by
 delta gc
 have a:=Int.one_pos;simp
 congr 1
 ·cases b with
  |none=>rfl
  |some v=>
   simp only[Mi.aZ];by_cases h:v<0
   ·simp only[rj h];omega
   ·simp only[rq h];omega
 ·cases c with
  |none=>rfl
  |some v=>
   simp only[Mi.aZ];by_cases h:v<0
   ·simp only[rj h];omega
   ·simp only[rq h];omega
theorem Oh (n d:Nat)(hd:d<=n)(o:Option Int):Mi.aZ n d o<=n:=by rw[<-B7];exact HT.sU n d hd o
theorem Oi (z:Str)(g h:Option Int):Txt.slice z g h=lB z g h:=by
 have hn:z.cps.toList.length=z.length:=by simp[Str.length]
 have e:(gc g h 1 z.length).filterMap (z.cps[·]?)=Mi.cut z.cps.toList g h:=by rw[GZ,oh,pick_run];unfold Mi.cut;rw[hn]
 have d:(gc g h 1 z.length).length=Mi.aZ z.length z.length h-Mi.aZ z.length 0 g:=by rw[GZ,oh,am,db]
 unfold Txt.slice;split
 ·rename_i a;simp at a;have f:=Oh z.length z.length (ah _) h
  have b:Mi.cut z.cps.toList g h=z.cps.toList:=by
   unfold Mi.cut;rw[hn];by_cases h0:Mi.aZ z.length 0 g=0
   ·rw[h0,List.drop_zero,m6 (by grind)]
   ·have c:z.length=0:=by omega
    have:z.cps.toList=[]:=g9.mp (hn▸c);rw[this];simp
  unfold lB;rw[b]
 ·unfold lB;rw[<-e]
def B9 (K:W.Frag):V->Option Int->Option Int->Hp->VK->Prop:=λx lo hi H Q=>∃B dx d,Rep K H B x dx/\qW dx lo hi=.ok d/\∀w H',Same H H'->Rep K H' (λa=>nw H a\/B a) w d->(∀ds,d=.list ds->imms ds=true->Rep K H' (nw H) w d)->Q w H'
theorem Oj:nV X (B9 X.K):=by
 intro y s C H x v j k u w sl Q I l hs pl m h;refine(Nr.or MF) y s C H x v j k u w sl Q I l hs pl m ?_;obtain⟨B,D,d,r,e,q⟩:=h;cases D<;>try (cases e;done)
 case list xs=>cases e;obtain⟨a,A,rfl,f,c⟩:=lC r;refine .inl (.inl ⟨a,A,rfl,f,λp b=>?_⟩);exact q _ _ (Same.upd b) (tI b (c.cut u w) (λ_ z=>.inr z) (.inl b)) λi z g=>by cases z;exact tI b (Reps.bC _ g (c.cut u w)) (λ_ z=>z) b
 case tuple xs=>
  change(if aZ xs.length 0 u=0/\aZ xs.length xs.length w=xs.length then Res.no else Res.ok (PyData.tuple (cut xs u w)))=_ at e;split at e
  ·cases e
  ·rename_i n;cases e;obtain⟨a,A,rfl,f,c⟩:=r;refine .inr ⟨a,A,rfl,f,by rw[B7,B7,c.length];exact n,λp b=>?_⟩;exact q _ _ (Same.upd b) (yY b (c.cut u w) λ_ z=>.inr z) λi z=>by cases z
 case str z=>
  change(if z.length<=aS then Res.ok (PyData.str (lB z u w))else .no)=_ at e;split at e
  ·rename_i o;cases e;have t:=r.1;subst t;refine .inl (.inr ⟨z,rfl,mG o,?_⟩);rw[Oi];exact q _ H (Same.refl H) ⟨rfl,Og r.2 u w⟩ λi z=>by cases z
  ·cases e
theorem tJ:PO X none (tDO X.K λ_=>.ok none):=PO.imp MB λb H Q ⟨c,F,z,a,e,q⟩=>by cases e;exact q H (Same.refl H)
theorem Ol (b:PE X a (tD X.K j)):PO X (some a) (tDO X.K λi=>j i>>=λx=>tm x.2):=
 PO.imp (MC b) λl H Q ⟨i,F,z,c,e,q⟩=>by
  obtain⟨x,f,e⟩:=Res.aA e;refine⟨i,F,x,c,f,λv k s1 h=>?_⟩;obtain⟨g,d⟩:=x;cases d<;>try (cases e;done)
  cases e;exact⟨_,h,q k s1⟩
theorem d_sl {G:Option Expr}(i:PE X a (tD X.K I))(j:PO X G (tDO X.K fl))(hh:PO X E (tDO X.K k)):
  PE X (.Subscript a (.Slice G E none p2) J) (tD X.K λD=>I D>>=λx=>fl D>>=λl=>k D>>=λh=>qW x.2 l h>>=λd=>.ok (gN d (cH [x]),d)):=
 PE.imp (ME Oj i j hh) λL H Q m=>by
  obtain⟨D,F,z,b,e,q⟩:=m;obtain⟨x,n,e⟩:=Res.aA e;obtain⟨l,o,e⟩:=Res.aA e;obtain⟨h,p,e⟩:=Res.aA e;obtain⟨d,r,e⟩:=Res.aA e;cases e;refine⟨D,F,x,b,n,λv M s1 s=>⟨D,F,l,b.same s1,o,λB c=>⟨D,F,h,b.same (s1.trans c),p,λC f=>⟨_,x.2,d,s.same (c.trans f) λ_ z=>z,r,λw t u g y=>q w t ((s1.trans (c.trans f)).trans u) (GN g (λa h=>?_) λA z E=>(y A z E).weak λ_ z=>nw.back (s1.trans (c.trans f)) z)⟩⟩⟩⟩;rcases h with h|h
  ·exact BV b.aM (s1.trans (c.trans f)) h
  ·exact wC b.aM (by simp) h
theorem d_cB {id:String}(j:CallR X (.builtin id) (z8u X.K m))(hm:X.mg x=none)(k:c9 x=some (.builtin id))(l:PA X (e::y) (tDA X.K fs))(b:((e::y).all fun e=>!isStar e)=true)(n:Gl X x)(hn:x≠"__name__")(c:Wl x):
  PE X (.Call (.Name x p) (e::y) [] A) (tD X.K λv=>fs v>>=λf=>m (f.map (·.2))>>=λd=>.ok (gJ d .al,d)):=
 PE.imp (yM j hm k l b n hn c) λB H Q o=>by obtain⟨v,F,z,g,e,q⟩:=o;obtain⟨f,r,e⟩:=Res.aA e;obtain⟨d,s,e⟩:=Res.aA e;cases e;exact⟨v,F,f,g,r,λC D s1 rs=>⟨_,_,d,rs.jN g.aM,s,λw t u i=>q w t (s1.trans u) (rC i λa h=>h.elim (λz=>(nw.back s1 z).aM g.aM) λz=>z)⟩⟩
theorem aV.length {K:W.Frag}:∀{a:List (Key×V)} {b:aY},aV K H B a b->a.length=b.length
 |a,[],r=>by have e:a=[]:=r;subst e;rfl
 |a,(kd,d)::b,r=>by obtain⟨k,v,t,e,_,_,_,q⟩:=r;subst e;rw[bd,bd,q.length]
theorem tK {K:W.Frag}(r:Reps K H B a [d]):∃v,a=[v]/\Rep K H B v d:=by obtain⟨v,t,e,h,q⟩:=r;have b:=q;subst e b;exact⟨v,rfl,h⟩
theorem y9 {K:W.Frag}(r:Reps K H B xs [d,d']):∃v a,xs=[v,a]/\Rep K H B v d/\Rep K H B a d':=by obtain⟨v,t,e,h,q⟩:=r;obtain⟨a,b,c⟩:=tK q;subst e b;exact⟨v,a,rfl,h,c⟩
theorem G0:CallR X (.builtin "len") (z8u X.K (kB "len")):=by
 refine CallR.imp (Nt.or MZ) λk H Q h=>?_;obtain⟨B,f,d,r,e,q⟩:=h;simp only[kB,if_true]at e;split at e
 ·rename_i x;obtain⟨v,rfl,g⟩:=tK r;clear r;have r:=g;cases x<;>try (cases e;done)
  case str z=>
   change(if z.length<=aS then Res.ok (PyData.int z.length)else .no)=_ at e;split at e
   ·rename_i i;cases e;have j:=r.1;subst j;exact .inl (.inl ⟨z,rfl,mG i,q _ H (Same.refl H) rfl⟩)
   ·cases e
  case tuple f=>cases e;obtain⟨a,l,rfl,b,c⟩:=r;exact .inl (.inr ⟨a,l,rfl,.inr b,q _ H (Same.refl H) (c.length▸rfl)⟩)
  case list f=>cases e;obtain⟨a,l,rfl,b,c⟩:=lC r;exact .inl (.inr ⟨a,l,rfl,.inl b,q _ H (Same.refl H) (c.length▸rfl)⟩)
  case dict f=>cases e;obtain⟨a,l,rfl,b,_,c⟩:=r;exact .inr ⟨a,l,rfl,b,q _ H (Same.refl H) (c.length▸rfl)⟩
 ·cases e
theorem zgl {a b:Int}(hh:A.handled=none)(n:s.heap.IsTuple p #[.int a t,.int b u])
  (q:∀z f l,(∀c o,s.heap.get? c=some o->f.get? c=some o)->Q (.int (if b<a then b else a) z) {s with heap:=f,toks:=l}):wpAny (model prog w) A (call (.builtin "min") [.ref p]) Q E s:=by
 have g:q9 #[(a,t),(b,u)]=#[.int a t,.int b u]:=by simp[q9]
 have h:s.heap.IsTuple p (q9 #[(a,t),(b,u)]):=by rw[g];exact n
 have lt:p<s.heap.objs.size:=by obtain⟨o,x,_⟩:=n;exact bg x
 refine call_min_walk ?_;refine lh h ?_;refine⟨_,[s.heap.objs.size,p],[s.heap.objs.size],_,_,_,_,rfl,Walks.tuple (A:=A.in1) hh _ p (cc lt) _,⟨⟨_,br _ rfl,rfl,rfl⟩,h.push _⟩,λc r=>?_,(by rw[g];exact Nat.succ_pos 1),CmpOf.ints_lt (numAt #[(a,t),(b,u)]) (λ_ _=>intItems_at),λv f l k y=>?_⟩
 ·rw[lb];simp only[az,eh,or_false]at r;rcases r with rfl|rfl
  ·exact g7 _
  ·exact Nat.lt_succ_of_lt lt
 ·have keep:∀c o,s.heap.get? c=some o->f.get? c=some o:=λc o e=>y c o (λz=>cq _ (bf.mp z▸bg e)) (ak _ e);have es:(q9 #[(a,t),(b,u)]).size-1=1:=by rw[g];rfl
  rw[es]at k;by_cases d:b<a
  ·have m:argBest (fun i j=>decide (numAt #[(a,t),(b,u)] i<numAt #[(a,t),(b,u)] j)) 1=1:=by
    show(if decide (b<a)=true then 1 else 0)=1;rw[si d];rfl
   rw[m,g]at k;cases(se k);have:=q u f l keep
   rwa [rj d]at this
  ·have m:argBest (fun i j=>decide (numAt #[(a,t),(b,u)] i<numAt #[(a,t),(b,u)] j)) 1=0:=by
    show(if decide (b<a)=true then 1 else 0)=0;rw[decide_eq_false d];rfl
   rw[m,g]at k;cases(se k);have:=q t f l keep
   rwa [rq d]at this
theorem Om (e:X.calm=true):CallR X (.builtin "min") (λc H Q=>∃p i j,c=[.ref p]/\cB X.K H p [.int i,.int j]/\Q (.int (if j<i then j else i)) H):=by
 rintro d s m H c n Q I r ⟨p,i,j,rfl,f,q⟩
 obtain⟨u,rfl,rfl⟩:=vals1 r;obtain⟨g,h,l,_⟩:=I.tuple f;obtain⟨a,b,rfl,⟨t,rfl⟩,o,rfl⟩:=vals2 h;exact zgl (I.ok.hd e) l λz v w k=>⟨.int (if j<i then j else i),H,I.kept k,⟨z,rfl⟩,q⟩
theorem Oq (n:X.calm=true):CallR X (.builtin "min") (z8u X.K (kB "min")):=by
 refine CallR.imp ((Mf n).or (Om n)) λw H Q h=>?_;obtain⟨B,f,d,r,e,q⟩:=h;replace e:minD f=Res.ok d:=e;have o:∀i j:Int,(if j<i then j else i)=min i j:=λi j=>by split<;>omega
 have s:∀{x y:D},min2 x y=.ok d->∃i j,x=.int i/\y=.int j/\d=.int (min i j):=λ{x y} h=>by
  cases x<;>try (exact(dW h).elim)
  cases y<;>try (exact(dW h).elim)
  cases h;exact⟨_,_,rfl,rfl,rfl⟩
 rcases f with _|⟨a,_|⟨b,_|⟨c,f⟩⟩⟩
 ·exact(dW e).elim
 ·cases a<;>try (exact(dW e).elim)
  rename_i t;rcases t with _|⟨a,_|⟨b,_|⟨c,t⟩⟩⟩
  ·exact(dW e).elim
  ·exact(dW e).elim
  ·obtain⟨i,j,rfl,rfl,rfl⟩:=s e;obtain⟨v,rfl,p,z,rfl,u,rs⟩:=tK r;obtain⟨A,C,rfl,g,k⟩:=y9 rs;have l:=g;have m:=k;subst l m;exact .inr ⟨p,i,j,rfl,u,q _ H (Same.refl H) (show V.int _=V.int _ by rw[o])⟩
  ·unfold minD vT at e;exact(dW e).elim
 ·obtain⟨i,j,rfl,rfl,rfl⟩:=s e;obtain⟨v,E,rfl,g,k⟩:=y9 r;have l:=g;have m:=k;subst l m;exact .inl ⟨i,j,rfl,q _ H (Same.refl H) (show V.int _=V.int _ by rw[o])⟩
 ·exact(dW e).elim
theorem zgq (I:Inv X p t H s)(f:RelV x u)(r:Rep X.K H B x d)(k:T∈tysB)
  (h:∀l,Q (.bool (iU (gP d) T)) {s with toks:=l}):wpAny (model X.prog X.w) A (call (.builtin "isinstance") [u,.type T]) Q E s:=by
 have m:gP d∈oP:=by cases d<;>simp[gP,oP]
 have e:=Nu X.K _ m T k;cases d with
 |none=>have c:x=.aK:=r;subst c;exact z2g I f .aK e h
 |bool b=>have c:x=.bl b:=r;subst c;exact z2g I f (.bl b) e h
 |int b=>have c:x=.int b:=r;subst c;exact z2g I f (.int b) e h
 |str b=>have c:x=.str b:=r.1;subst c;exact z2g I f (.str b) e h
 |tuple n=>obtain⟨a,q,c,g,_⟩:=r;subst c;cases f;obtain⟨_,_,⟨o,i,j,_⟩,_⟩:=I.tuple g;exact W.kia_one W.kitx_tuple I.cM ⟨o,i,j⟩ e (λz=>nomatch z) h
 |list n=>obtain⟨a,q,c,g,_⟩:=lC r;subst c;cases f;obtain⟨_,_,⟨o,_,i,j,_⟩,_⟩:=I.list g;exact W.kia_one W.kitx_list I.cM ⟨o,i,j⟩ e (λz=>nomatch z) h
 |dict v=>obtain⟨a,q,c,g,_⟩:=r;subst c;exact z2g I f (.dK g) e h
def Ca (K:W.Frag):List V->Hp->VK->Prop:=λxs H Q=>∃B x d T,xs=[x,.ty T]/\Rep K H B x d/\T∈tysB/\Q (.bl (iU (gP d) T)) H
theorem Ot:CallR X (.builtin "isinstance") (Ca X.K):=by
 rintro i s j H g k Q I r ⟨B,x,d,T,rfl,a,b,q⟩
 obtain⟨u,c,rfl,e,f⟩:=vals2 r;obtain rfl:c=Value.type T:=f;exact zgq I e a b λh=>⟨.bl _,H,I.tok _,rfl,q⟩
theorem zu2 (hm:X.mg "isinstance"=none)(h:Gl X "isinstance")(b:X.mg a=none)(c:c9 a=some (.type T))(d:Gl X a)(f:a≠"__name__")(g:Wl a)(i:T∈tysB)(hs:isStar y=false)(j:PE X y (tD X.K r)):
  PE X (.Call (.Name "isinstance" p) [y,.Name a p2] [] s) (tD X.K λo=>r o>>=λx=>.ok (.fr,.bool ([T].any λT=>iU (gP x.2) T))):=
 PE.imp (yM Ot hm (by decide+kernel) (eV j (eV (LJ (v:=.ty T) d b c rfl f g) kX) hs) (by simp[hs];rfl) h dc dc) λu H Q k=>by obtain⟨o,F,z,l,e,q⟩:=k;obtain⟨x,m,e⟩:=Res.aA e;cases e;refine⟨o,F,x,l,m,λv t s1 n=>?_⟩;refine⟨_,v,x.2,T,rfl,n,i,q _ t s1 ?_⟩;show V.bl _=V.bl _;simp
def Cb (K:W.Frag)(n:Nat)(t:sG):TG:=λv σ H Q=>∃a xs,v=.ref a/\SqL K H a xs/\xs.length=n/\t xs σ H Q
theorem Ou (i:X.calm=true)(h:PGs X A t)(hn:(d7 A X.env).length=n)(c:(d7 A X.env).findIdx? (·.1)=none):PG X (.Tuple A k pos) (Cb X.K n t):=by
 intro z s B H v u Q I r d;obtain⟨a,j,l,m,p,d⟩:=d;subst l;cases r;obtain⟨f,g,pl,y⟩:=I.list m;apply ac;refine iw ?_
 delta unpack
 rw[c,show(d7 A X.env).length=f.toArray.size by rw[hn,<-p,g.length,bz]];apply ac;refine fj (W.kun_itemsOf (I.ok.hd i) pl.isList λq w=>?_);have x:Inv X z B H {s with heap:=q}:=I.kept λb o e=>w b o (cc (bg e)) e;exact h z _ B H j _ Q x (by simpa using g) d
def Kp (B:Ad->Prop)(H1 H2:Hp):Prop:=∀a o,H1 a=some o->(B (some a)\/Fix o)->H2 a=some o
theorem Kp.of (s:Same c b):Kp B c b:=λa o e _=>s a o e
structure Walk (K:W.Frag)(J:It)(B:Ad->Prop)(H1:Hp)(xs:List D):Prop where
 len:xs.length<=ay
 go:∀H2,Kp B H1 H2->∀i,i<xs.length->J.go i H2
 stop:∀H2,Kp B H1 H2->J.stop xs.length H2
 gE:∀H2,Kp B H1 H2->∀i x H3,i<xs.length->J.gE i H2 x H3->Same H2 H3/\∃d,xs[i]?=some d/\Rep K H3 B x d
def tDW (K:W.Frag)(f:Rho->Res (G×List D)):TI:=λσ H R=>∃ρ F w,StOk K F H σ ρ/\f ρ=.ok w/\∀J B H',Same H H'->(∀a,B a->BG F H w.1 a/\¬nw H' a)->Walk K J B H' w.2->R J H'
theorem _root_.L2.PI.imp (h:PI X a e t)(i:∀c H Q,b c H Q->t c H Q):PI X a e b:=λd s c H Q I q=>h d s c H Q I (i c H Q q)
section
variable {K:W.Frag}{H:Hp}{B:Ad->Prop}
theorem Ov (h:(H a=some (.lst q)/\B (some a))\/(FL K H a q/\B none))(r:Reps K H B q f)(g:f.length<=ay):Walk K (AO K a) B H f:=by
 have sq:∀c,Kp B H c->SqL K c a q:=λc k=>by
  rcases h with⟨h,b⟩|⟨⟨o,h⟩|h,_⟩
  ·exact .inl (.inl (k a _ h (.inl b)))
  ·exact .inl (.inr ⟨o,k a _ h (.inr True.intro)⟩)
  ·exact .inr h
 refine⟨g,λc k i s=>?_,λc k=>⟨q,sq c k,by rw[r.length];exact ah _⟩,λc k i x p s y=>?_⟩
 ·have j:i<q.length:=r.length▸s;exact⟨q,q[i],sq c k,by simp[j]⟩
 ·obtain⟨e,y⟩:=y;subst e;have l:=y q (sq _ k);obtain⟨d,m,n⟩:=r.oV l;exact⟨Same.refl _,d,m,Rep.keep k (λ_ z=>z) d n⟩
theorem Ox (h:cB K H a o)(r:Reps K H B o c)(f:c.length<=ay):Walk K (Fx K a) B H c:=by
 have sq:∀b,Kp B H b->cB K b a o:=λb k=>h.keep k;refine⟨f,λb k i p=>?_,λb k=>⟨o,sq b k,by rw[r.length];exact ah _⟩,λb k i x n p y=>?_⟩
 ·have g:i<o.length:=r.length▸p;exact⟨o,o[i],sq b k,by simp[g]⟩
 ·obtain⟨e,y⟩:=y;subst e;have j:=y o (sq _ k);obtain⟨d,l,m⟩:=r.oV j;exact⟨Same.refl _,d,l,Rep.keep k (λ_ z=>z) d m⟩
theorem Oy (ok:PyData.strOk z=true)(e:z.length<=ay):Walk K (Bm z) B H (z.cps.toList.map λc=>.str ⟨#[c]⟩):=by
 have b:(z.cps.toList.map λc=>(PyData.str ⟨#[c]⟩:D)).length=z.cps.size:=by simp
 refine⟨by rw[b];exact e,λd k i h=>?_,λd k=>?_,λd k i x g h y=>?_⟩
 ·rw[b]at h;exact h
 ·show z.cps.size<=_;rw[b];simp_all
 ·obtain⟨rfl,c,f,rfl⟩:=y;have a:z.cps.toList[i]?=some c:=by simpa using f
  refine⟨Same.refl _,.str ⟨#[c]⟩,by rw[ar,a];rfl,rfl,GK ok (aq a)⟩
theorem G1 {f:Int}(c:n<=ay):Walk K (vF f n) B H ((bu n).map λ(i:Nat)=>.int (f+i)):=by
 have a:((bu n).map λ(i:Nat)=>(PyData.int (f+i):D)).length=n:=by simp
 refine⟨by rw[a];exact c,λb k i e=>?_,λb k=>?_,λb k i x d e y=>?_⟩
 ·rw[a]at e;exact e
 ·show n<=_;rw[a];simp_all
 ·obtain⟨rfl,rfl⟩:=y;rw[a]at e;exact⟨Same.refl _,.int (f+i),by rw[ar,et e];rfl,rfl⟩
end
section
variable {X:Cx}{a b e:Expr}{fc:Rho->Res GD}
theorem z37 (f:Inv X pins σ H1 s1)(m:RelV y v)(k:Rep X.K H1 B y d)(e:z5s d=.ok x)
  (q:∀J,Walk X.K J B H1 x->R J H1):wpAny (model X.prog X.w) X.A (qm v) (ur X pins σ tg R) X.xe s1:=by
 cases d<;>try (cases e;done)
 case list ds=>
  cases e;obtain⟨a,vs,rfl,h,rs⟩:=k
  have l:SqL X.K H1 a vs:=by
   rcases h with⟨h,_⟩|⟨h|h,_⟩
   ·exact .inl (.inl h)
   ·exact .inl (.inr h)
   ·exact .inr h
  cases m;obtain⟨n,r,p,s⟩:=f.list l;refine lu p.isList ?_;refine⟨s1.heap.objs.size,[s1.heap.objs.size],_,_,H1,rfl,f.kept λb o e=>ak _ e,Fy a _,⟨_,br _ rfl,rfl,rfl⟩,λb g=>?_,q _ (Ov h rs (rs.length▸s))⟩;have e:b=s1.heap.objs.size:=by simpa using g
  subst e;exact f.gG (ah _) (f.hok.fresh (ah _))
 case tuple ds=>
  cases e;obtain⟨a,vs,rfl,l,rs⟩:=k;cases m;obtain⟨n,r,p,s⟩:=f.tuple l;refine lh p ?_;refine⟨s1.heap.objs.size,[s1.heap.objs.size],_,_,H1,rfl,f.kept λb o e=>ak _ e,LQ a _,⟨_,br _ rfl,rfl,rfl⟩,λb g=>?_,q _ (Ox l rs (rs.length▸s))⟩;have e:b=s1.heap.objs.size:=by simpa using g
  subst e;exact f.gG (ah _) (f.hok.fresh (ah _))
 case str z=>
  change(if z.length<=aS then Res.ok (z.cps.toList.map λc=>PyData.str ⟨#[c]⟩)else .no)=_ at e;split at e
  case isFalse=>cases e
  rename_i hs;cases e;have C:=k.1;subst C;obtain⟨t,rfl⟩:=m;have D:=q _ (Oy k.2 (mG hs))
  have i:∀(ty:String) (j:ty="str_ascii_iterator"\/ty="str_iterator"),ur X pins σ tg R (.ref s1.heap.objs.size) {s1 with heap:=s1.heap.push {cls:=.type ty,data:=.fields #[.str z t,.int 0 0]}}:=λty j=>by
   refine⟨s1.heap.objs.size,[s1.heap.objs.size],_,_,H1,rfl,f.kept λb o e=>ak _ e,Nj j _ z t,⟨_,br _ rfl,rfl,rfl⟩,λb g=>?_,D⟩;have e:b=s1.heap.objs.size:=by simpa using g
   subst e;exact f.gG (ah _) (f.hok.fresh (ah _))
  cases u:z.cps.all (· <128)
  ·exact wpAny_pyIter_wide u (i _ (.inr rfl))
  ·exact wpAny_pyIter_ascii u (i _ (.inl rfl))
theorem gR (ha:PE X a (tD X.K fa)):PI X tg a (tDW X.K λρ=>fa ρ>>=λx=>z5s x.2>>=λxs=>.ok (x.1,xs)):=by
 rintro pins s σ H R I ⟨ρ,F,w,so,e,q⟩
 obtain⟨x,e1,e⟩:=Res.aA e;obtain⟨xs,e2,e⟩:=Res.aA e;cases e;refine aI (ha pins s σ H (λv H1=>Same H H1/\Rep X.K H1 (BG F H x.1) v x.2) I ⟨ρ,F,x,so,e1,λv H1 s1 rv=>⟨s1,rv⟩⟩) λv s1 zz=>?_;obtain⟨y,H1,I1,r1,Oz,rv⟩:=zz;exact z37 I1 r1 (Rep.there _ rv) e2 λJ wk=>q J _ H1 Oz (λ_ z=>z) wk
theorem Cc {n:Int}(a:n<=aS)(b:-aS<=n):-(2 ^ 62)<=n/\n<2 ^ 62:=by unfold aS at *;omega
theorem eP.one {K:W.Frag}(r:eP K F H H' vs [x]):∃v,vs=[v]/\Rep K H' (BG F H x.1) v x.2:=by obtain⟨v,t,e,h,q⟩:=r;have a:=q;subst e a;exact⟨v,rfl,h⟩
theorem eP.two {K:W.Frag}(r:eP K F H c d [x,y]):∃v w,d=[v,w]/\Rep K c (BG F H x.1) v x.2/\Rep K c (BG F H y.1) w y.2:=by obtain⟨v,t,e,h,q⟩:=r;obtain⟨w,a,b⟩:=q.one;subst e a;exact⟨v,w,rfl,h,b⟩
theorem OA (hm:X.mg "range"=none)(k:Gl X "range")(hs:isStar a=false)(l:PA X [a] (tDA X.K fs))(m:∀A b,fs A=.ok b->b.length=1):PI X y (.Call (.Name "range" p) [a] [] B) (tDW X.K λA=>fs A>>=λb=>iV (b.map (·.2))>>=λh=>.ok (.fr,h)):=
 PI.imp (LV k hm l (fE hs)) λE H R o=>by
  obtain⟨A,F,w,r,e,q⟩:=o;obtain⟨b,j,e⟩:=Res.aA e;obtain⟨h,c,e⟩:=Res.aA e;cases e;refine⟨A,F,b,r,j,λG C s1 rs=>?_⟩;have s:=m A b j
  match b,s with
  | [(g,d)],t=>
   obtain⟨v,rfl,u⟩:=rs.one;cases d<;>try (cases c;done)
   rename_i n;have ev:=u;subst ev;change(if n<=aS/\-aS<=n then Res.ok ((bu n.toNat).map λ(i:Nat)=>PyData.int i)else .no)=_ at c;split at c
   case isFalse=>cases c
   rename_i hn;cases c;have f:=Cc hn.1 hn.2;refine⟨n,rfl,f.1,f.2,q _ (λ_=>False) C s1 (λ_ z=>z.elim) ?_⟩;have x:((bu n.toNat).map λ(i:Nat)=>(PyData.int i:D))=(bu n.toNat).map λ(i:Nat)=>.int (0+i):=by apply ox;intro i _;rw[Int.zero_add]
   rw[x];exact G1 (mG (by unfold aS at *;omega))
theorem OB (hm:X.mg "range"=none)(s:Gl X "range")(hs:isStar a=false)(i:isStar b=false)(t:PA X [a,b] (tDA X.K fs))(u:∀f c,fs f=.ok c->c.length=2):PI X tg (.Call (.Name "range" p) [a,b] [] pos) (tDW X.K λf=>fs f>>=λc=>iV (c.map (·.2))>>=λk=>.ok (.fr,k)):=
 PI.imp (zey s hm t (by rw[fE hs,fE i];rfl) (fE i)) λC H R ⟨f,F,w,so,e,q⟩=>by
  obtain⟨c,l,e⟩:=Res.aA e;obtain⟨k,h,e⟩:=Res.aA e;cases e;refine⟨f,F,c,so,l,λD H1 x rs=>?_⟩;have A:=u f c l;rcases c with _|⟨⟨g,d⟩,_|⟨⟨E,y⟩,_|⟨_,_⟩⟩⟩<;>try (simp at A;done)
  obtain⟨v,G,rfl,B,j⟩:=rs.two;cases d<;>try (cases h;done)
  cases y<;>try (cases h;done)
  rename_i n m;subst B j;change(if -aS<=n/\m<=aS/\n<=aS/\-aS<=m then Res.ok ((bu (m-n).toNat).map λ(i:Nat)=>PyData.int (n+i))else .no)=_ at h;split at h
  case isFalse=>cases h
  rename_i hn;cases h;have o:=Cc hn.2.2.1 hn.1;have r:=Cc hn.2.1 hn.2.2.2;refine⟨n,m,rfl,⟨o.1,o.2,r.1,r.2⟩,q _ (λ_=>False) H1 x (λ_ z=>z.elim) ?_⟩;refine G1 ?_;rw[ci];unfold aS at *;omega
def Fm.drop (F:Fm)(i:Nat):Fm:={F with O:=λa=>if F.O a=some i then none else F.O a}
theorem Fm.bL {F:Fm}{a:Addr}(h:F.O a=none):(F.drop i).O a=none:=by show(if F.O a=some i then none else F.O a)=none;rw[h];rfl
theorem Bin.drop {a:Ad}(h:Bin F a):Bin (F.drop i) a:=by
 cases a with
 |none=>exact h
 |some a=>exact⟨Fm.bL h.1,h.2⟩
theorem Slot.drop {K:W.Frag}(a:j≠i)(h:Slot K F H j g v d):Slot K (F.drop i) H j g v d:=by
 cases g with
 |fr=>
  obtain⟨p,e,o,h⟩:=h;refine⟨p,e,?_,?_⟩
  ·show(if F.O p=some i then none else F.O p)=some j;rw[o,rq (λz=>a (se z))]
  ·rcases h with⟨l,c,f,k,r⟩|⟨l,c,f,k,r⟩
   ·exact .inl ⟨l,c,f,k,r.weak λ_ b=>b.drop⟩
   ·exact .inr ⟨l,c,f,k,aV.same (λ_ _ e=>e) (λ_ b=>b.drop) r⟩
 |od=>exact h
 |al=>exact h
 |nu=>exact Rep.weak (λ_ b=>b.drop) h
def BI (F:Fm):G->Ad->Prop
 |.od=>eA F
 |.fr=>bV F
 |.al=>bV F
 |.nu=>bV F
theorem BI.of {a:Ad}(b:∀a,H a=none->F.V a)(h:BG F H g a):BI F g a:=by
 cases g with
 |fr=>exact nw.aM b h
 |od=>exact h
 |al=>exact h
 |nu=>exact h.elim (nw.aM b) Bin.aM
theorem StOk.mJ {K:W.Frag}(b:StOk K F H o p)(r:Rep K H (BI F x.1) v x.2):StOk K (F.drop i) H (o.set i (some v)) (p.set i (some (z1d x))) where
 ext:=b.ext
 aM:=b.aM
 own:=λa j e=>by
  have h:F.O a=some j:=by
   have:(if F.O a=some i then none else F.O a)=some j:=e;split at this
   ·cases this
   ·exact this
  exact b.own a j h
 len:=by rw[cn,cn];exact b.len
 sl:=λj g d e=>by
  by_cases f:i=j
  ·subst f;rw[dg]at e;simp only[if_true]at e;split at e
   ·rename_i k;have c:z1d x=(g,d):=by simpa using e
    refine⟨v,?_,?_⟩
    ·rw[dg];simp[b.len,k]
    ·obtain⟨l,q⟩:=x;cases l with
     |fr=>cases c;exact r
     |od=>cases c;exact r
     |al=>cases c;exact r
     |nu=>cases c;exact r
   ·cases e
  ·rw[bv f]at e ⊢;obtain⟨u,m,n⟩:=b.sl j g d e;exact⟨u,m,n.drop λz=>f z.symm⟩
structure Keeps (F F':Fm)(is:List Nat)(σ bP:L2.St):Prop where
 h0:F'.H0=F.H0
 v:F'.V=F.V
 z:F'.z=F.z
 o:∀a,F.O a=none->F'.O a=none
 len:bP.length=σ.length
 rest:∀j,j∉is->bP[j]?=σ[j]?
theorem Keeps.refl:Keeps F F is σ σ:=⟨rfl,rfl,rfl,λ_ h=>h,rfl,λ_ _=>rfl⟩
theorem Keeps.set {v:Option V}(h:i∈is):Keeps F (F.drop i) is σ (σ.set i v):=⟨rfl,rfl,rfl,λ_ h=>Fm.bL h,cn,λj a=>bv λz=>a (by rw[<-z];exact h)⟩
theorem Keeps.trans (a:Keeps F f is σ d)(b:Keeps f g is d c):Keeps F g is σ c:=⟨b.h0.trans a.h0,b.v.trans a.v,b.z.trans a.z,λx h=>b.o x (a.o x h),b.len.trans a.len,λj e=>(b.rest j e).trans (a.rest j e)⟩
def tDG (K:W.Frag)(t:Tg):TG:=λv σ H Q=>∃ρ F x iJ,StOk K F H σ ρ/\Rep K H (BI F x.1) v x.2/\fF t x ρ=.ok iJ/\∀bP F',StOk K F' H bP iJ->Keeps F F' (tgIx t) σ bP->Q bP H
theorem _root_.L2.PG.imp (h:PG X e t)(i:∀v a H Q,c v a H Q->t v a H Q):PG X e c:=λb s a H v u Q I r q=>h b s a H v u Q I r (i v a H Q q)
theorem _root_.L2.PGs.imp {e:List Expr}(h:PGs X e t)(i:∀v a H Q,c v a H Q->t v a H Q):PGs X e c:=λb s a H v u Q I r q=>h b s a H v u Q I r (i v a H Q q)
theorem OC (hN:X.N.Nodup)(f:X.N[i]?=some x)(a:Loc X.env.scope x)(hf:X.fn x=true\/X.env.scope.names.lookup x=some .local):PG X (.Name x g) (tDG X.K (.nm i)):=PG.imp (AL hN f a hf) λv h H Q b=>by obtain⟨j,F,x,c,d,r,e,q⟩:=b;cases e;exact q _ _ (d.mJ r) (Keeps.set (by simp[tgIx]))
def mK (K:W.Frag)(all is:List Nat):sG:=λvs σ H Q=>∃ρ F g ds iJ,(∀i∈is,i∈all)/\StOk K F H σ ρ/\Reps K H (BI F g) vs ds/\qV ρ is ds g=some iJ/\∀bP F',StOk K F' H bP iJ->Keeps F F' all σ bP->Q bP H
theorem OD:PGs X [] (mK X.K all []):=
 PGs.imp LP λj i H Q b=>by
  obtain⟨k,F,g,a,c,_,f,r,e,q⟩:=b;cases a with
  |nil=>cases e;have h:=r;exact⟨h,q i F f Keeps.refl⟩
  |cons d a=>cases e
theorem OE (hN:X.N.Nodup)(B:X.N[i]?=some x)(s:Loc X.env.scope x)(hf:X.fn x=true\/X.env.scope.names.lookup x=some .local)(h:PGs X es (mK X.K all is)):PGs X (.Name x p::es) (mK X.K all (i::is)):=
 PGs.imp (zgp (AL hN B s hf) h (by rfl)) λD E H Q u=>by
  obtain⟨C,F,g,f,l,c,w,r,e,q⟩:=u;cases f with
  |nil=>cases e
  |cons d f=>
   obtain⟨v,t,rfl,o,y⟩:=r;refine⟨v,t,rfl,C.set i (some (z1d (gJ d g,d))),F.drop i,g,f,l,λj z=>c j (ba _ z),?_,?_,e,λm A n k=>q m A n ((Keeps.set (c i bh)).trans k)⟩
   ·refine w.mJ ?_;unfold gJ;by_cases B:imm d=true
    ·rw[rj B];exact Rep.bC d B o
    ·rw[rq B];exact o
   ·exact y.weak λa b=>by cases g<;>exact b
theorem OF (w:X.calm=true)(h:PGs X M (mK X.K is is))(hn:(d7 M X.env).length=n)(o:(d7 M X.env).findIdx? (·.1)=none)(y:is.length=n):PG X (.Tuple M k O) (tDG X.K (.tp is)):=
 λJ s N H v u Q I z B=>by
  obtain⟨G,F,x,c,A,r,e,q⟩:=B;obtain⟨g,d⟩:=x
  have l:∀(is:List Nat) (b:List D) (G f:Rho),qV G is b g=some f->is.length=b.length:=by
   intro is
   induction is with
   |nil=>intro b G f h;cases b with
    |nil=>rfl
    |cons _ _=>cases h
   |cons i is C=>intro b G f h;cases b with
    |nil=>cases h
    |cons d b=>rw[bd,bd,C b _ _ h]
  have p:∀b:List D,Res.dQ (qV G is b g)=.ok c->qV G is b g=some c:=λb e=>by
   cases m:qV G is b g with
   |none=>rw[m]at e;cases e
   |some f=>rw[m]at e;rw[Res.ok.inj e]
  cases d<;>try (cases e;done)
  case tuple b=>have m:=p b e;obtain⟨a,L,rfl,j,t⟩:=r;exact zs1 w h hn o J s N H _ u Q I z ⟨a,L,rfl,j,by rw[t.length,<-l _ _ _ _ m];exact y,G,F,g,b,c,λ_ h=>h,A,t,m,q⟩
  case list b=>
   have m:=p b e;obtain⟨a,L,rfl,j,t⟩:=r
   have E:SqL X.K H a L:=by
    rcases j with⟨j,_⟩|⟨j|j,_⟩
    ·exact .inl (.inl j)
    ·exact .inl (.inr j)
    ·exact .inr j
   exact Ou w h hn o J s N H _ u Q I z ⟨a,L,rfl,E,by rw[t.length,<-l _ _ _ _ m];exact y,G,F,g,b,c,λ_ h=>h,A,t,m,q⟩
theorem StOk.blk {K:W.Frag}(f:StOk K F H A y)(m:Nat)(js:List Nat)(l:Addr)(t:List V)(c:H l=none):
  StOk K {F with V:=λa=>F.V a/\a≠l,O:=λ_=>none} (upd H l (.lst t)) (eU m js A) (ax m none++js.map λj=>iT (y.getD j none)) where
 ext:=λa o e=>by have:=f.ext a o e;rw[aE (bK this c)];exact this
 aM:=λa e=>by
  by_cases h:a=l
  ·subst h;rw[bF]at e;cases e
  ·rw[aE h]at e;exact⟨f.aM a e,h⟩
 own:=λa i e=>by cases e
 len:=by unfold eU;simp
 sl:=λi g d e=>by
  have n:∀(a:Ad),bV F a/\¬nw H a->bV {F with V:=λa=>F.V a/\a≠l,O:=λ_=>none} a:=λa h=>by
   cases a with
   |none=>exact h.1
   |some a=>exact⟨h.1,λz=>h.2 (z▸c)⟩
  have p:∀(a:Ad),eA F a/\¬nw H a->eA {F with V:=λa=>F.V a/\a≠l,O:=λ_=>none} a:=λa h=>by
   cases a with
   |none=>exact h.1
   |some a=>exact⟨h.1.1,h.1.2,λz=>h.2 (z▸c)⟩
  rw[km]at e;split at e
  ·rw[cr]at e;split at e<;>cases e
  ·rename_i B;rw[bw]at B e;rw[ar]at e;cases q:js[i-m]? with
   |none=>rw[q]at e;cases e
   |some j=>
    rw[q]at e;have b:iT (y.getD j none)=some (g,d):=se e;cases r:y[j]? with
    |none=>rw[aa,r]at b;cases b
    |some o=>
     rw[aa,r]at b;cases o with
     |none=>cases b
     |some u=>
      obtain⟨s,w⟩:=u;obtain⟨v,x,k⟩:=f.sl j s w r;refine⟨v,?_,?_⟩
      ·unfold eU;rw[b9 (by grind),bw,ar,q];show some (A.getD j none)=_;rw[aa,x];rfl
      ·cases s with
       |fr=>cases b;exact Rep.same (Same.upd c) n (Rep.there _ (k.rep f.iW))
       |od=>cases b;exact Rep.same (Same.upd c) p (Rep.there _ k)
       |al=>cases b;exact Rep.same (Same.upd c) n (Rep.there _ k)
       |nu=>cases b;exact Rep.same (Same.upd c) n (Rep.there _ (k.rep f.iW))
theorem Cd:∀(l m:List D) (r:List GD),kE f (l++m)=.ok r->∃a b,kE f l=.ok a/\kE f m=.ok b/\r=a++b
 | [],m,r,h=>⟨[],r,rfl,h,rfl⟩
 |x::l,m,r,h=>by
  obtain⟨o,c,h⟩:=Res.aA h;obtain⟨d,e,h⟩:=Res.aA h;obtain⟨a,b,g,i,j⟩:=Cd l m d e;subst j;cases h;refine⟨oc o a,b,?_,i,?_⟩
  ·show(f x>>=λo=>kE f l>>=λr=>Res.ok (oc o r))=_;rw[c,Res.aB,g,Res.aB]
  ·cases o<;>rfl
theorem eP.snoc {K:W.Frag}:∀{d:List V} {a:List GD} {v:V} {x:GD},eP K F H f d a->Rep K f (BG F H x.1) v x.2->eP K F H f (d++[v]) (a++[x])
 |d,[],v,x,r,h=>by have e:d=[]:=r;subst e;exact⟨v,[],rfl,h,rfl⟩
 |d,y::c,v,x,r,h=>by obtain⟨u,t,e,b,q⟩:=r;subst e;exact⟨u,t++[v],rfl,b,q.snoc h⟩
theorem eP.keep {K:W.Frag}(hk:∀a o (g:G),i a=some o->(BG F H g (some a)\/Fix o)->c a=some o):∀{h:List V} {xs:List GD},eP K F H i h xs->eP K F H c h xs
 |h,[],r=>r
 |h,y::f,r=>by obtain⟨u,t,e,d,q⟩:=r;exact⟨u,t,e,Rep.keep (λa o e b=>hk a o y.1 e b) (λ_ z=>z) _ d,q.keep hk⟩
theorem eP.len {K:W.Frag}:∀{vs:List V} {xs:List GD},eP K F H H' vs xs->vs.length=xs.length
 |vs,[],r=>by have e:vs=[]:=r;subst e;rfl
 |vs,y::ys,r=>by obtain⟨u,t,e,h1,q⟩:=r;subst e;rw[bd,bd,q.len]
theorem G2:∀(l:List D) (r:List GD),kE f l=.ok r->r.length<=l.length
 | [],r,h=>by cases h;simp_all
 |x::l,r,h=>by
  obtain⟨o,c,h⟩:=Res.aA h;obtain⟨a,b,h⟩:=Res.aA h;have:=G2 l a b;cases h;cases o with
  |none=>exact bq this (by simp)
  |some y=>simp only[oc,bd];omega
def zgd (nt:Nat)(js:List Nat)(t:Tg)(fw:Rho->Res (G×List D))(fc:Rho->Res Bool)(fe:Rho->Res GD):Rho->Res GD:=λρ=>fw ρ>>=λw=>kE (λx=>fF t (gJ x w.1,x) (ax nt none++js.map λj=>iT (ρ.getD j none))>>=λtw=>fc tw>>=λk=>if k then fe tw>>=λy=>.ok (some y)else .ok none) w.2>>=λys=>.ok (qU ys,.list (ys.map (·.2)))
def OG (g:TG)(tc:TT)(te:TE)(em:L2.St->L2.St)(σ:L2.St)(Q:VK):It->Hp->Prop:=λJ H1=>∀l,H1 l=none->∃P:Nat->Nat->List V->Hp->Prop,(∃m,P 0 m [] (upd H1 l (.lst [])))/\∀i m acc H2,P i m acc H2->(J.stop i H2/\Q (.ref l) H2)\/(J.go i H2/\acc.length<ay/\∃N:List V->Hp->Prop,(∀lU H',N lU H'->∃m',m'<m/\P (i+1) m' lU H')/\∀x H3,J.gE i H2 x H3->g x (em σ) H3 λj' H4=>fL (em σ) j'/\tc j' H4 λb H5=>if b=true then te j' H5 λy H6=>H6 l=some (.lst acc)/\N (acc++[y]) (upd H6 l (.lst (acc++[y])))else N acc H5)
abbrev CI (K:W.Frag)(F:Fm)(f:D->Res (Option GD))(ds:List D)(H1:Hp)(l:Nat)(i:Nat)(acc:List V)(H2:Hp):Prop:=H2 l=some (.lst acc)/\(∀a o,H1 a=some o->H2 a=some o)/\∃ys,kE f (ds.take i)=.ok ys/\eP K F (upd H1 l (.lst [])) H2 acc ys
theorem zbi {fc:Rho->Res Bool}(ht0:∀i∈tgIx t,i<R)(so:StOk X.K F H σ ρ)(e:zgd R js t fw fc fe ρ=.ok z)(q:∀v H',Same H H'->Rep X.K H' (BG F H z.1) v z.2->Q v H'):
  ∃w,fw ρ=.ok w/\∀J B H',Same H H'->(∀a,B a->BG F H w.1 a/\¬nw H' a)->Walk X.K J B H' w.2->OG (tDG X.K t) (dJ X.K fc) (tD X.K fe) (eU R js) σ Q J H':=by
 obtain⟨w,U,e⟩:=Res.aA e;obtain⟨W,Y,e⟩:=Res.aA e;cases e;refine⟨w,U,λJ B H1 s1 hB wk l E=>?_⟩;generalize hr:(ax R none++js.map λj=>iT (ρ.getD j none))=Z at Y;generalize hf:(λx=>fF t (gJ x w.1,x) Z>>=λn=>fc n>>=λk=>if k then fe n>>=λy=>Res.ok (some y)else .ok none)=f at Y;have za:=so.same s1;have Ce:∀i,∃S,kE f (w.2.take i)=.ok S:=λi=>by rw[<-nv i w.2]at Y;obtain⟨r1,r2,T,_,_⟩:=Cd _ _ _ Y;exact⟨r1,T⟩
 let I:Fm:={F with V:=λa=>F.V a/\a≠l,O:=λ_=>none}
 refine zui (CI X.K I f w.2 H1 l) wk.len ?_ ?_ ?_ ?_ ?_
 ·exact⟨bF,λa o e=>by rw[aE (bK e E)];exact e,[],rfl,rfl⟩
 ·rintro i p L ⟨_,_,S,M,rs⟩
  rw[rs.len];have:=G2 _ _ M;rw[dw]at this;omega
 ·rintro p L ⟨T,C,S,M,rs⟩
  rw[gg]at M;rw[Y]at M;cases M;have kp:Kp B H1 L:=λa o e _=>C a o e;refine⟨wk.stop L kp,q _ _ (λa o e=>C a o (s1 a o e)) ?_⟩;have G3:=s1.none E;refine⟨l,p,rfl,.inl ⟨T,?_⟩,rs.mF λx hx a hb=>?_⟩
  ·show BG F H (qU W) (some l);unfold qU;split
   ·exact G3
   ·exact so.aM l G3
  ·unfold qU;by_cases ea:(W.all λx=>x.1==.fr)=true
   ·rw[rj ea];have OH:x.1=.fr:=by simpa using bx.mp ea x hx
    rw[OH]at hb;cases a with
    |none=>exact hb
    |some a=>
     have G4:upd H1 l (.lst []) a=none:=hb
     have:H1 a=none:=by
      by_cases c:a=l
      ·subst c;exact E
      ·rw[aE c]at G4;exact G4
     exact s1.none this
   ·rw[rq ea];have:bV I a:=BG.aM (λa e=>((za.blk R js l [] E).aM a e)) hb;cases a with
    |none=>exact this
    |some a=>exact this.1
 ·rintro i p L hi ⟨_,C,_⟩
  exact wk.go L (λa o e _=>C a o e) i hi
 ·rintro i p L x H3 hi ⟨T,C,S,M,rs⟩ y
  obtain⟨s3,d,hd,rx⟩:=wk.gE L (λa o e _=>C a o e) i x H3 hi y;obtain⟨VQ,u⟩:=Ce (i+1);have N:w.2.take (i+1)=w.2.take i++[d]:=by rw[List.take_add_one,hd];rfl
  rw[N]at u;obtain⟨r1,r2,g1,g2,g3⟩:=Cd _ _ _ u;rw[M]at g1;cases g1;obtain⟨o,A,g2⟩:=Res.aA g2;obtain⟨r3,g5,g2⟩:=Res.aA g2;cases g5;rw[<-hf]at A;obtain⟨n,k1,A⟩:=Res.aA A;obtain⟨k,k2,A⟩:=Res.aA A
  have sb:StOk X.K I H3 (eU R js σ) Z:=by
   rw[<-hr];refine(za.blk R js l p E).same λa o e=>s3 a o ?_;by_cases c:a=l
   ·subst c;rw[bF]at e;rw[T];exact e
   ·rw[aE c]at e;exact C a o e
  have Cf:Rep X.K H3 (BI I (gJ d w.1)) x d:=by
   unfold gJ;by_cases hi:imm d=true
   ·rw[rj hi];exact Rep.bC d hi rx
   ·rw[rq hi];refine rx.weak λa b=>?_;obtain⟨r,b2⟩:=hB a b;have D:=BI.of so.aM r;cases a with
    |none=>cases hw:w.1<;>rw[hw]at D<;>exact D
    |some a=>
     have c:a≠l:=λz=>b2 (by rw[z];exact E);cases hw:w.1<;>rw[hw]at D
     ·exact⟨D,c⟩
     ·exact⟨D.1,D.2,c⟩
     ·exact⟨D,c⟩
     ·exact⟨D,c⟩
  refine⟨_,I,(gJ d w.1,d),n,sb,Cf,k1,λj' P zb h=>⟨⟨h.len.symm,λj v hj=>?_⟩,n,P,k,zb,k2,λH5 s5=>?_⟩⟩
  ·by_cases G5:j∈tgIx t
   ·have :=ht0 j G5;unfold eU at hj;rw[cy (bw▸this),cr,rj this]at hj;cases hj
   ·rw[h.rest j G5];exact hj
  ·have h5:∀a o,H1 a=some o->H5 a=some o:=λa o e=>s5 a o (s3 a o (C a o e));have s:=s5 _ _ (s3 _ _ T);have G6:=rs.keep λa o g e _=>s5 a o (s3 a o e);cases k with
   |false=>cases A;cases g2;refine iR ⟨s,h5,S,?_,G6⟩;rw[N,u,g3];simp[oc]
   |true=>
    obtain⟨yv,k3,A⟩:=Res.aA A;cases A;cases g2;refine iS ⟨n,P,yv,zb.same s5,k3,λv H6 s6 rv=>⟨s6 _ _ s,bF,λa o e=>?_,S++[yv],?_,?_⟩⟩
    ·rw[aE (bK e E)];exact s6 a o (h5 a o e)
    ·rw[N,u,g3];rfl
    ·have OI:=s6 _ _ s
     have hk:∀a o (g:G),H6 a=some o->(BG I (upd H1 l (.lst [])) g (some a)\/Fix o)->upd H6 l (.lst (p++[v])) a=some o:=λa o g e b=>by
      have c:a≠l:=by
       intro z;subst z;rcases b with b|b
       ·cases g with
        |fr=>have m:upd H1 a (.lst []) a=none:=b;rw[bF]at m;cases m
        |od=>exact b.2.2 rfl
        |al=>exact b.2 rfl
        |nu=>
         rcases b with b|b
         ·have m:upd H1 a (.lst []) a=none:=b;rw[bF]at m;cases m
         ·exact b.2.2.2 rfl
       ·rw[OI]at e;cases e;exact b
      rw[aE c];exact e
     have OJ:=G6.keep λa o g e _=>s6 a o e
     have OK:Rep X.K H6 (BG I (upd H1 l (.lst [])) yv.1) v yv.2:=by
      refine rv.weak λa b=>?_;cases hg:yv.1 with
      |fr=>
       rw[hg]at b;cases a with
       |none=>exact b
       |some a=>
        have m:H5 a=none:=b;show upd H1 l (.lst []) a=none;have c:a≠l:=λz=>by rw[z,s]at m;cases m
        rw[aE c];cases U:H1 a with
        |none=>rfl
        |some o=>rw[h5 a o U]at m;cases m
      |nu=>
       rw[hg]at b;cases a with
       |none=>exact b
       |some a=>
        rcases b with b|b
        ·have m:H5 a=none:=b;refine .inl ?_;show upd H1 l (.lst []) a=none;have c:a≠l:=λz=>by rw[z,s]at m;cases m
         rw[aE c];cases U:H1 a with
         |none=>rfl
         |some o=>rw[h5 a o U]at m;cases m
        ·refine .inr ⟨rfl,?_,?_⟩
         ·have:=b.2.1;rw[h.h0]at this;exact this
         ·have:=b.2.2;rw[h.v]at this;exact this
      |od=>
       rw[hg]at b;cases a with
       |none=>have r:P.z:=b;rw[h.z]at r;exact r
       |some a=>have r:P.H0 a≠none/\P.V a:=b;rw[h.h0,h.v]at r;exact r
      |al=>
       rw[hg]at b;cases a with
       |none=>have r:P.z:=b;rw[h.z]at r;exact r
       |some a=>have r:P.V a:=b;rw[h.v]at r;exact r
     exact(OJ.snoc OK).keep hk
theorem OL {fc:Rho->Res Bool}(a:∀i∈tgIx t,i<f):∀d H Q,tD X.K (zgd f js t fw fc fe) d H Q->vX (tDW X.K fw) (tDG X.K t) (dJ X.K fc) (tD X.K fe) (eU f js) d H Q:=by intro d H Q h;obtain⟨g,F,z,b,e,q⟩:=h;obtain⟨w,c,h⟩:=zbi a b e q;exact⟨g,F,w,b,c,h⟩
theorem zjr {fc:Rho->Res Bool}(j:X.calm=true)(k:BlkScope X scope d c js)(e:∀i∈tgIx t,i<c)(q:PI X h o (tDW X.K fw))
  (l:∀C b s H,PG (blk X scope d C b s H) h (tDG X.K t)) (m:∀C b s H,oN (blk X scope d C b s H) f (dJ X.K fc)) (n:∀C b s H,PE (blk X scope d C b s H) g (tD X.K fe)) (hs:∀x,fq o X.env x=pure x):
  PE X (.ListComp g [⟨h,o,f,0⟩] scope pos) (tD X.K (zgd c js t fw fc fe))/\∀p H Q,tD X.K (zgd c js t fw fc fe) p H Q->vX (tDW X.K fw) (tDG X.K t) (dJ X.K fc) (tD X.K fe) (eU c js) p H Q:=by
 have a:=OL (X:=X) (js:=js) (fw:=fw) (fc:=fc) (fe:=fe) e;exact⟨PE.imp (za2 j k q l m n hs) a,a⟩
end
def BC (H:Hp)(A:Ad->Prop):G->Ad->Prop
 |.fr=>nw H
 |.od=>λa=>nw H a\/A a
 |.al=>λa=>nw H a\/A a
 |.nu=>nw H
def spD (K:W.Frag)(n:Nat)(m:Fn):Sp:=λvs H Q _=>∃A ds x,vs.length=n/\Reps K H A vs ds/\m ds=.ok x/\∀v H',Same H H'->Rep K H' (BC H A x.1) v x.2->Q v H'
section
variable {X:Cx}{a e:Expr}
theorem zqj (j:Cal X.prog X.w X.K X.mg X.base k x ps (spD X.K n m))(l:Room o X.A)(hk:k<=o)(s:PA X (e::es) (tDA X.K fs))(d:((e::es).all fun e=> !isStar e)=true)(c:Gl X x)(f:Wl x)
  (t:∀E b,fs E=.ok b->b.length=n):PE X (.Call (.Name x p) (e::es) [] I) (tD X.K λE=>fs E>>=λb=>m (b.map (·.2))>>=λr=>.ok (gJ r.2 (jL r.1),r.2)):=
 PE.imp (zh5 j l s d hk c f) λL H Q u=>by
  obtain⟨E,F,z,g,e,q⟩:=u;obtain⟨b,i,e⟩:=Res.aA e;obtain⟨r,y,e⟩:=Res.aA e;cases e;refine⟨E,F,b,g,i,λJ G s1 rs=>?_⟩;show spD X.K n m (J++[]) G Q E0;rw[dm];refine⟨_,_,r,by rw[rs.len];exact t E b i,rs.jN g.aM,y,λv B C D=>q v B (s1.trans C) (rC D λa h=>?_)⟩;have al:(nw G a\/bV F a)->bV F a:=λh=>h.elim (λh=>(nw.back s1 h).aM g.aM) λh=>h;cases c:r.1 with
  |fr=>rw[c]at h;exact nw.back s1 h
  |od=>rw[c]at h;exact al h
  |al=>rw[c]at h;exact al h
  |nu=>rw[c]at h;exact nw.back s1 h
def rMt (K:W.Frag)(m:String):V->List V->Hp->VK->Prop:=λx xs H Q=>∃B B' dx ds d,Rep K H B x dx/\Reps K H B' xs ds/\mtD m dx ds=.ok d/\∀w H',Same H H'->Rep K H' (λa=>nw H a\/B a\/B' a) w d->Q w H'
theorem nW (h:z0r o=true):jf o n env w=w:=by
 cases o with
 |Call f a k p=>
  cases f with
  |Name x q=>
   cases a with
   |nil=>
    cases k with
    |nil=>cases h
    |cons _ _=>rfl
   |cons _ _=>rfl
  |_=>rfl
 |_=>rfl
theorem G7:∀{a:List Expr},(a.all λe=> !isStar e)=true->(i5 b (c8 a env)).all (λx=> !x.1)=true
 | [],_=>rfl
 |e::a,h=>by have h:=au.mp (cx▸h);rw[fE (by simpa using h.1)];show(true&&(i5 b (c8 a env)).all (λx=>!x.1))=true;rw[G7 h.2];rfl
theorem z9y (h:(c.all fun e=> !isStar e)=true)(a:c.length<20):((i5 b (c8 c env)).all (fun x=> !x.1)&&(n4 b (kh [] env)).all (fun x=>x.1.isSome)
  &&decide (c.length+([]:List lv).length+(if([]:List lv).isEmpty then 0 else 1)<30))=true:=by
 rw[G7 h];show(true&&true&&decide (c.length+0+0<30))=true;rw[si (by omega)];rfl
theorem d_mt {id:String}(t:qy T)(slot:PySem.Slot T n id)(i:qo (.builtin id)=pure (.type "method_descriptor"))(hm:MtR X id (rMt X.K m))(u:∀H B x S y d,Rep X.K H B x S->mtD m S y=.ok d->tyV X.K T x H)
  (A:PE X o (tD X.K U)) (C:PA X (e::R) (tDA X.K fs)) (j:z0r o=true) (f:((e::R).all λe=>!isStar e)=true) (D:(e::R).length<20) (c:(N.endLine==O.line)=true):
  PE X (.Call (.Attribute o n N) (e::R) [] O) (tD X.K λP=>U P>>=λx=>fs P>>=λk=>mtD m x.2 (k.map (·.2))>>=λd=>.ok (gJ d .al,d)):=by
 have b:=f;rw[cx,bt]at b;refine PE.imp (zng t slot i hm A C (nW j) (z9y f D) c (fE (by simpa using b.1)) (lV b.2)) λW H Q E=>?_;obtain⟨P,F,z,g,e,q⟩:=E;obtain⟨x,G,e⟩:=Res.aA e;obtain⟨k,I,e⟩:=Res.aA e;obtain⟨d,r,e⟩:=Res.aA e;cases e;refine⟨P,F,x,g,G,λv V s1 s=>⟨u V _ v x.2 _ d s r,P,F,k,g.same s1,I,λY M l rs=>?_⟩⟩;refine⟨_,_,x.2,_,d,s.same l λ_ z=>z,rs.jN (g.same s1).aM,r,λw J L p=>q w J ((s1.trans l).trans L) (rC p λa h=>?_)⟩;rcases h with h|h|h
 ·exact(nw.back (s1.trans l) h).aM g.aM
 ·exact h.aM g.aM
 ·exact h
theorem OM (hu:X.A.units+64<cLine):MtR X "dict.get" (rMt X.K "get"):=by
 rintro f s D H x E v F Q I h rs ⟨B,G,dx,J,d,i,j,e,q⟩
 simp only[mtD,if_true]at e;split at e
 ·rename_i es k d0;split at e
  case isFalse=>cases e
  rename_i l;cases e;obtain⟨L,M,rfl,m,n⟩:=y9 j;obtain⟨kk,rfl,rfl,_⟩:=wF l m;obtain⟨a,kvs,rfl,o,_,p⟩:=i;cases h;obtain⟨N,O,rfl,r,t⟩:=vals2 rs;have b:=p.val kk;refine znq (by omega) I (DGet.k o) r t λP R u c=>⟨_,H,u,c,q _ H (Same.refl H) ?_⟩;cases g:z0d es (kD kk)with
  |none=>rw[g]at b;rw[show cG kvs kk=none from b];exact n.weak λ_ z=>.inr (.inr z)
  |some S=>rw[g]at b;obtain⟨w,y,C⟩:=b;rw[y];exact C.weak λ_ z=>.inr (.inl z)
 ·cases e
theorem ON (r:Rep X.K H B x dx)(e:mtD "get" dx ds=.ok d):tyV X.K "dict" x H:=by
 simp only[mtD,if_true]at e;split at e
 ·obtain⟨a,kvs,rfl,b,_,_⟩:=r;exact .inr (.inr (.inl ⟨rfl,.inl ⟨kvs,b⟩⟩))
 ·cases e
theorem G8 {K:W.Frag}:∀{a:List D} {b:List Str} {o:List V} {p:List Value},hV a=some b->Reps K H B o a->Vals o p->StrsAre p b/\∀s∈b,PyData.strOk s=true
 | [],b,o,p,e,r,q=>by cases e;have c:=r;subst c;cases q;exact⟨.nil,λ_ h=>nomatch h⟩
 |d::a,b,o,p,e,r,q=>by
  cases d<;>try (cases e;done)
  rename_i z;change(hV a).map (z:: ·)=_ at e;cases c:hV a with
  |none=>rw[c]at e;cases e
  |some g=>
   rw[c]at e;cases e;obtain⟨v,t,rfl,f,i⟩:=r;have ev:=f.1;subst ev;cases q with
   |cons j k=>
    obtain⟨l,rfl⟩:=j;obtain⟨m,n⟩:=G8 c i k;refine⟨.cons z l m,λs hs=>?_⟩;rcases(az.mp hs)with rfl|hs
    ·exact f.2
    ·exact n s hs
theorem OO (z:Str)(b:List Str):Txt.join z b=qX z b:=by
 have go:∀(r:List Str) (a:Array Nat),(r.foldl (λa p=>a++z.cps++p.cps) a).toList=a.toList++(r.map λp=>z.cps.toList++p.cps.toList).flatten:=by
  intro r
  induction r with
  |nil=>intro a;simp
  |cons p r c=>intro a;rw[nn,c];simp
 cases b with
 |nil=>rfl
 |cons x r=>
  have:=go r x.cps;show(⟨r.foldl (λa p=>a++z.cps++p.cps) x.cps⟩:Str)=⟨(x.cps.toList++(r.map λp=>z.cps.toList++p.cps.toList).flatten).toArray⟩
  congr 1
  rw[<-this,kl]
theorem OP (d:PyData.strOk z=true)(h:∀s∈b,PyData.strOk s=true):PyData.strOk (qX z b)=true:=
 rD.mpr λc e=>by
  have a:c∈yR z.cps.toList b:=by simpa[qX]using e
  cases b with
  |nil=>simp[yR]at a
  |cons x r=>
   simp only[yR,b6,mn,cf]at a;rcases a with a|⟨l,⟨p,f,rfl⟩,a⟩
   ·exact rD.mp (h x bh) c a
   ·rcases b6.mp a with a|a
    ·exact rD.mp d c a
    ·exact rD.mp (h p (ba _ f)) c a
theorem OQ:MtR X "str.join" (rMt X.K "join"):=by
 intro E s F H x r v G Q I f rs h;obtain⟨B,J,L,w,d,c,g,e,q⟩:=h;simp only[mtD,show("join":String)≠"get" by decide,if_true,if_false]at e;split at e
 ·rename_i z y;split at e
  case h_2=>cases e
  rename_i A b;split at e
  case isFalse=>cases e
  rename_i i;cases e;obtain⟨C,rfl,j⟩:=tK g;obtain⟨a,M,rfl,l,m⟩:=lC j;obtain⟨u,rfl,n⟩:=vals1 rs;cases n;have ex:=c.1;subst ex;obtain⟨t,rfl⟩:=f;obtain⟨o,p,pl,_⟩:=I.list l;obtain⟨sa,ok⟩:=G8 b m p;refine join_list pl.isList (by simpa using sa) (bq i (by unfold aS;decide)) λD k=>?_;rw[OO];exact⟨.str _,H,I.tok _,⟨_,rfl⟩,q _ H (Same.refl H) ⟨rfl,OP c.2 ok⟩⟩
 ·cases e
theorem OR (r:Rep X.K H B x dx)(e:mtD "join" dx ds=.ok d):tyV X.K "str" x H:=by
 simp only[mtD,show("join":String)≠"get" by decide,if_true,if_false]at e;split at e
 ·have ex:x=.str _:=r.1;subst ex;exact rfl
 ·cases e
end
theorem OS:CallR X (.type "int") (λa H Q=>∃x,a=[.str x]/\tq x.cps.toList=true/\x.length<=600/\Q (.int (wa x.cps.toList:Int)) H):=by
 intro e s f H a g Q I r h;obtain⟨x,rfl,hf,d,q⟩:=h;obtain⟨u,rfl,t,rfl⟩:=vals1 r;unfold tq at hf;rw[au]at hf;have hd:=λc b=>by have:=bx.mp hf.2 c b;rw[au,decide_eq_true_iff,decide_eq_true_iff]at this;exact this
 have hn:=intText_digits hd (λz=>by rw[z]at hf;cases hf.1) (by omega);exact W.KIN.call_text hn (by omega) ⟨.int _,H,I.tok _,⟨_,rfl⟩,q⟩
def cQ (F:Fm)(H:Hp)(F':Fm)(H':Hp):Prop:=∀a o,H a=some o->F.O a=none->H' a=some o/\F'.O a=none
theorem cQ.refl:cQ F H F H:=λ_ _ e o=>⟨e,o⟩
theorem cQ.trans (a:cQ F H f i)(b:cQ f i c d):cQ F H c d:=λx o e n=>by obtain⟨g,h⟩:=a x o e n;exact b x o g h
theorem cQ.same (s:Same H b):cQ F H F b:=λa o e n=>⟨s a o e,n⟩
def Run (F F':Fm):Prop:=Same F.H0 F'.H0/\F'.V=F.V/\F'.z=F.z
theorem Run.refl:Run F F:=⟨λ_ _ e=>e,rfl,rfl⟩
theorem Run.trans (a:Run F d)(b:Run d c):Run F c:=⟨λx o e=>b.1 x o (a.1 x o e),b.2.1.trans a.2.1,b.2.2.trans a.2.2⟩
theorem Run.of (h:a.H0=F.H0)(v:a.V=F.V)(z:a.z=F.z):Run F a:=⟨λ_ _ e=>by rw[h];exact e,v,z⟩
def BR (F:Fm):G->Ad->Prop
 |.fr=>λa=>match a with|some a=>F.H0 a=none|none=>False
 |.od=>bV F
 |.al=>bV F
 |.nu=>λa=>match a with|some a=>F.H0 a=none|none=>False
def uD (K:W.Frag)(F:Fm)(H:Hp)(D:Ends):Out->Prop
 |.nx iJ=>∀bP H' F',StOk K F' H' bP iJ->Run F F'->cQ F H F' H'->D.nx bP H'
 |.rt g d=>∀v H',(∀a o,F.H0 a=some o->H' a=some o)->Rep K H' (BR F g) v d->D.rt v H'
def tDS (K:W.Frag)(f:Rho->Res Out):TS:=λD σ H=>∃ρ F out,StOk K F H σ ρ/\f ρ=.ok out/\uD K F H D out
theorem none_of (s:Same H b)(h:b a=none):H a=none:=by
 cases e:H a with
 |none=>rfl
 |some o=>rw[s a o e]at h;cases h
theorem BR.run (r:Run F c)(h:BR c g a):BR F g a:=by obtain⟨d,e,f⟩:=r;cases g<;>cases a<;>first|exact h|(exact none_of d h)|(have b:c.V _:=h;rw[e]at b;exact b)|(have b:c.z:=h;rw[f]at b;exact b)
theorem uD.back {K:W.Frag}{D:Ends}(r:Run F m)(f:cQ F H m n)(h:uD K F H D i):uD K m n D i:=by
 cases i with
 |nx p=>exact λj c l so q s=>h j c l so (r.trans q) (f.trans s)
 |rt g d=>exact λv c k t=>h v c (λa o e=>k a o (r.1 a o e)) (t.weak λ_ b=>b.run r)
section
variable {X:Cx}{e:Expr}{st:Stmt}{rest:List Stmt}{fs gs:Rho->Res Out}
theorem OT:PSs X [] (tDS X.K λc=>.ok (.nx c)):=PSs.imp Fq λD d H ⟨c,F,a,b,e,q⟩=>by cases e;exact q d H F b Run.refl cQ.refl
theorem OU (j:PS X st (tDS X.K fs))(k:PSs X rest (tDS X.K gs)):PSs X (st::rest) (tDS X.K λa=>oS (fs a) gs):=
 PSs.imp (Fs j k) λD n H ⟨a,F,b,so,e,q⟩=>by
  have e:oS (fs a) gs=.ok b:=e;cases c:fs a with
  |no=>rw[c]at e;cases e
  |exc x=>rw[c]at e;cases e
  |ok o1=>
   rw[c]at e;cases o1 with
   |nx h=>exact⟨a,F,.nx h,so,c,λl o m i r f=>⟨h,m,b,i,e,q.back r f⟩⟩
   |rt g d=>cases e;exact⟨a,F,.rt g d,so,c,q⟩
theorem Cg (d:PT X c (dJ X.K f))(g:PSs X A (tDS X.K fs))(h:PSs X i (tDS X.K gs)):PS X (.If c A i n) (tDS X.K λm=>f m>>=λk=>if k then fs m else gs m):=
 PS.imp (Ft d g h) λD o H j=>by
  obtain⟨m,F,a,b,e,q⟩:=j;obtain⟨k,l,e⟩:=Res.aA e;refine⟨m,F,k,b,l,λp s1=>?_⟩;cases k with
  |true=>exact iS ⟨m,F,a,b.same s1,e,q.back Run.refl (cQ.same s1)⟩
  |false=>exact iR ⟨m,F,a,b.same s1,e,q.back Run.refl (cQ.same s1)⟩
theorem OV {K:W.Frag}(c:∀a o,F.H0 a=some o->H a=some o)(e:∀a,H a=none->F.V a)(r:Rep K f (BG F H g) v d):Rep K f (BR F (jL g)) v d:=by
 refine r.weak λa b=>?_;cases g with
 |fr=>
  cases a with
  |none=>exact b
  |some a=>exact Same.none c b
 |od=>exact eA.aM b
 |al=>exact b
 |nu=>
  cases a with
  |none=>exact b.elim id id
  |some a=>exact b.elim (λb=>Same.none c b) λb=>b.2.1
theorem OW (c:PE X e (tD X.K i)):PS X (.Return (some e) j) (tDS X.K λh=>i h>>=λx=>.ok (.rt (jL x.1) x.2)):=PS.imp (AI c) λD l H ⟨h,F,d,b,e,q⟩=>by obtain⟨x,f,e⟩:=Res.aA e;cases e;exact⟨h,F,x,b,f,λv k s1 g=>q v k (λa o e=>s1 a o (b.ext a o e)) (OV b.ext b.aM g)⟩
theorem Slot.ret {K:W.Frag}(c:∀a i,F.O a=some i->F.H0 a=none/\F.V a)(h:Slot K F H i g v d):Rep K H (BR F (if imm d then .fr else jL g)) v d:=by
 by_cases l:imm d=true
 ·rw[rj l];exact Rep.bC d l (h.rep λa i e=>(c a i e).2)
 ·rw[rq l];cases g with
  |fr=>
   obtain⟨p,e,o,h⟩:=h
   have j:∀a,Bin F a->BR F .fr a:=λa b=>by
    cases a with
    |none=>exact b
    |some a=>exact b.2.1
   rcases h with⟨m,k,rfl,f,r⟩|⟨m,k,rfl,f,r⟩
   ·exact⟨p,m,e,.inl ⟨f,(c _ _ o).1⟩,r.weak j⟩
   ·exact⟨p,m,e,f,(c _ _ o).1,aV.same (λ_ _ e=>e) j r⟩
  |od=>exact Rep.weak (λ_ b=>b.aM) h
  |al=>exact h
  |nu=>
   refine Rep.weak (λa b=>?_) h;cases a with
   |none=>exact b
   |some a=>exact b.2.1
theorem z7e {i:Nat}(hN:X.N[i]?=some x)(j:Vis X.env.scope x)(hd:Wl x)(c:(x==("__classdict__":Str))=false):
  PS X (.Return (some (.Name x p)) r) (tDS X.K λρ=>match ρ[i]? with|some (some (g,d))=>.ok (.rt (if imm d then .fr else jL g) d)|_=>.no):=
 PS.imp (AI (vx hN j hd c)) λD s H k=>by
  obtain⟨ρ,F,f,b,e,q⟩:=k;have e:(match ρ[i]? with|some (some (g,d))=>Res.ok (Out.rt (if imm d then .fr else jL g) d)|_=>.no)=.ok f:=e;cases h:ρ[i]? with
  |none=>rw[h]at e;cases e
  |some o=>
   rw[h]at e;cases o with
   |none=>cases e
   |some l=>obtain⟨g,d⟩:=l;cases e;obtain⟨v,m,n⟩:=b.sl i g d h;exact⟨v,m,q v H b.ext (n.ret λa i e=>⟨(b.own a i e).1,(b.own a i e).2.1⟩)⟩
theorem OX (hs:kZ e=false)(c:PE X e (tD X.K fa)):PS X (.Expr e pos) (tDS X.K λa=>fa a>>=λ_=>.ok (.nx a)):=PS.imp (lW c hs) λD d H ⟨a,F,f,so,e,q⟩=>by obtain⟨x,g,e⟩:=Res.aA e;cases e;exact⟨a,F,x,so,g,λv H1 b h=>q d H1 F (so.same b) Run.refl (cQ.same b)⟩
theorem aV.bC {K:W.Frag}:∀{a:List (Key×V)} (c:aY),cI c=true->aV K H B a c->aV K H B' a c
 |a,[],_,r=>r
 |a,(kd,d)::c,i,r=>by unfold cI at i;rw[cx,bt]at i;obtain⟨k,v,t,e,b,ok,h,q⟩:=r;exact⟨k,v,t,e,b,ok,Rep.bC d i.1 h,aV.bC c i.2 q⟩
theorem StOk.fT {K:W.Frag}(b:StOk K F H σ ρ){a:Ad}(h:nw H a):Bin F a:=by
 cases a with
 |none=>exact h
 |some a=>
  refine⟨?_,Same.none b.ext h,b.aM a h⟩;cases c:F.O a with
  |none=>rfl
  |some j=>obtain⟨_,_,z⟩:=b.own a j c;rcases z with⟨d,z⟩|⟨d,z⟩<;>rw[h]at z<;>cases z
theorem StOk.Ci {K:W.Frag}(a:StOk K F H k l)(r:Rep K H (Bin F) v d):StOk K (F.drop i) H (k.set i (some v)) (l.set i (some (.nu,d))):=by
 have z:=a.mJ (i:=i) (x:=(.al,d)) (Rep.weak (λ_ b=>Bin.aM b) r);refine⟨z.ext,z.aM,z.own,by rw[cn,cn];exact a.len,λj g f e=>?_⟩;by_cases c:i=j
 ·subst c;rw[dg]at e;simp only[if_true]at e;split at e
  ·rename_i h;cases e;exact⟨v,by rw[dg];simp[a.len,h],Rep.weak (λ_ b=>b.drop) r⟩
  ·cases e
 ·refine z.sl j g f ?_;rw[bv c]at e ⊢;exact e
def Fm.take (F:Fm)(i:Nat)(p:Addr):Fm:={F with O:=λa=>if a=p then some i else if F.O a=some i then none else F.O a}
theorem cQ.drop (s:Same H b):cQ F H (F.drop i) b:=λa o e n=>⟨s a o e,Fm.bL n⟩
theorem StOk.setA {K:W.Frag}(k:StOk K F H σ ρ)(s1:Same H H1)(r:Rep K H1 (BG F H x.1) v x.2):
  ∃f,StOk K f H1 (σ.set i (some v)) (ρ.set i (some (z1n x)))/\Run F f/\cQ F H f H1:=by
 have s:=k.same s1;obtain⟨g,d⟩:=x
 have l:z1n (g,d)=z1d (if imm d then .al else GI g,d)->∃f,StOk K f H1 (σ.set i (some v)) (ρ.set i (some (z1n (g,d))))/\Run F f/\cQ F H f H1:=λe=>by
  rw[e];refine⟨F.drop i,s.mJ ?_,Run.of rfl rfl rfl,cQ.drop s1⟩;by_cases hi:imm d=true
  ·rw[rj hi];exact Rep.bC d hi r
  ·rw[rq hi];cases g with
   |fr=>exact r.weak λ_ b=>nw.aM k.aM b
   |od=>exact r
   |al=>exact r
   |nu=>exact r.weak λ_ b=>b.elim (nw.aM k.aM) Bin.aM
 have w:z1n (g,d)=(.nu,d)->(∀a,BG F H g a->Bin F a)->∃f,StOk K f H1 (σ.set i (some v)) (ρ.set i (some (z1n (g,d))))/\Run F f/\cQ F H f H1:=λe D=>by rw[e];exact⟨F.drop i,s.Ci (Rep.weak D r),Run.of rfl rfl rfl,cQ.drop s1⟩
 have own:∀(p:Addr),F.O p=none->H p=none->F.H0 p=none->F.V p->v=.ref p->z1n (g,d)=(.fr,d)->(∀f:Fm,(∀a,Bin F a\/nw H a->a≠some p->Bin f a)->f.O p=some i->Slot K f H1 i .fr v d)->(((∃E,H1 p=some (.lst E))\/∃y,H1 p=some (.dK y)))->
   ∃f,StOk K f H1 (σ.set i (some v)) (ρ.set i (some (z1n (g,d))))/\Run F f/\cQ F H f H1:=λp R c S T ev es U G=>by
  have A:∀a,a≠p->(F.take i p).O a=(F.drop i).O a:=λa ha=>by show(if a=p then some i else _)=_;rw[rq ha];rfl
  have X:∀a,H a=none->F.O a=none:=λa e=>by
   cases B:F.O a with
   |none=>rfl
   |some j=>obtain⟨_,_,h⟩:=k.own a j B;rcases h with⟨E,h⟩|⟨E,h⟩<;>rw[e]at h<;>cases h
  have I:∀a,H a=none->F.H0 a=none:=λa e=>Same.none k.ext e
  have t:∀a,Bin F a\/nw H a->a≠some p->Bin (F.take i p) a:=λa b Y=>by
   cases a with
   |none=>exact b.elim id id
   |some a=>have q:a≠p:=λz=>Y (by rw[z]);have D:=b.elim id λb=>⟨X a b,I a b,k.aM a b⟩;exact⟨by rw[A a q];exact Fm.bL D.1,D.2⟩
  have J:(F.take i p).O p=some i:=by show(if p=p then some i else _)=_;rw[rj rfl]
  refine⟨F.take i p,⟨s.ext,s.aM,λa j e=>?_,by rw[cn,cn];exact k.len,λj Z d' e=>?_⟩,Run.of rfl rfl rfl,λa o e n=>⟨s1 a o e,?_⟩⟩
  ·by_cases q:a=p
   ·subst q;exact⟨S,T,G⟩
   ·rw[A a q]at e
    have e':F.O a=some j:=by
     have:(if F.O a=some i then none else F.O a)=some j:=e;split at this
     ·cases this
     ·exact this
    exact s.own a j e'
  ·by_cases hj:i=j
   ·subst hj;rw[dg]at e;simp only[if_true]at e;split at e
    ·rename_i hl;have B:z1n (g,d)=(Z,d'):=by simpa using e
     rw[es]at B;cases B;exact⟨v,by rw[dg];simp[k.len,hl],U _ t J⟩
    ·cases e
   ·rw[bv hj]at e ⊢;obtain⟨u,h1,Q⟩:=k.sl j Z d' e;refine⟨u,h1,?_⟩;cases Z with
    |fr=>
     obtain⟨L,B,o1,h3⟩:=Q;have OY:L≠p:=λz=>by rw[z,R]at o1;cases o1
     refine⟨L,B,?_,?_⟩
     ·rw[A L OY];show(if F.O L=some i then none else F.O L)=some j;rw[o1,rq (λz=>hj (se z).symm)]
     ·have M:∀(a:Ad),Bin F a/\¬nw H a->Bin (F.take i p) a:=λa b=>t a (.inl b.1) λz=>b.2 (z▸c);rcases h3 with⟨vs,C,e3,e2,r3⟩|⟨vs,C,e3,e2,r3⟩
      ·exact .inl ⟨vs,C,e3,s1 _ _ e2,Reps.same s1 M (Reps.there _ r3)⟩
      ·exact .inr ⟨vs,C,e3,s1 _ _ e2,aV.same s1 M (aV.there _ r3)⟩
    |od=>exact Rep.same s1 (λ_ b=>b) Q
    |al=>exact Rep.same s1 (λ_ b=>b) Q
    |nu=>exact Rep.same s1 (λa b=>t a (.inl b.1) λz=>b.2 (z▸c)) (Rep.there _ Q)
  ·have q:a≠p:=λz=>by rw[z,c]at e;cases e
   rw[A a q];exact Fm.bL n
 have N:∀p,H p=none->F.O p=none:=λp c=>by
  cases B:F.O p with
  |none=>rfl
  |some j=>obtain⟨_,_,P⟩:=k.own p j B;rcases P with⟨E,P⟩|⟨E,P⟩<;>rw[c]at P<;>cases P
 by_cases hi:imm d=true
 ·exact l (by show(if imm d then _ else _)=_;rw[rj hi];rw[rj hi];rfl)
 ·cases g with
  |od=>exact l (by delta z1n;simp only[rq hi];rfl)
  |al=>exact l (by delta z1n;simp only[rq hi];cases d<;>rfl)
  |nu=>exact w (by delta z1n;simp only[rq hi]) λa b=>b.elim k.fT id
  |fr=>
   cases d with
   |none=>exact absurd rfl hi
   |bool b=>exact absurd rfl hi
   |int b=>exact absurd rfl hi
   |str b=>exact absurd rfl hi
   |tuple C=>exact w (by delta z1n;simp only[rq hi]) λa b=>k.fT b
   |list C=>
    by_cases m:imms C=true
    ·obtain⟨p,vs,ev,h,rs⟩:=r;rcases h with⟨h,b⟩|⟨_,b⟩
     ·have c:H p=none:=b;exact own p (N p c) c (Same.none k.ext c) (k.aM p c) ev (by delta z1n;simp only[rq hi,rj m]) (λf D ho=>⟨p,ev,ho,.inl ⟨vs,C,rfl,h,Reps.bC C m rs⟩⟩) (.inl ⟨vs,h⟩)
     ·exact b.elim
    ·exact w (by delta z1n;simp only[rq hi,rq m]) λa b=>k.fT b
   |dict es=>
    by_cases m:cI es=true
    ·obtain⟨p,y,ev,h,b,rs⟩:=r;have c:=b;exact own p (N p c) c (Same.none k.ext c) (k.aM p c) ev (by delta z1n;simp only[rq hi,rj m]) (λf D ho=>⟨p,ev,ho,.inr ⟨y,es,rfl,h,aV.bC es m rs⟩⟩) (.inr ⟨y,h⟩)
    ·exact w (by delta z1n;simp only[rq hi,rq m]) λa b=>k.fT b
theorem G9 {K:W.Frag}{n:TE}(h:∀k H Q,tD K o k H Q->n k H Q)(D:Ends)(k:L2.St)(H:Hp)(q:tDS K (λl=>o l>>=λx=>.ok (.nx (l.set i (some (z1n x))))) D k H):n k H λv m=>D.nx (k.set i (some v)) m:=by obtain⟨l,F,c,b,e,q⟩:=q;obtain⟨x,d,e⟩:=Res.aA e;cases e;refine h k H _ ⟨l,F,x,b,d,λv m s1 g=>?_⟩;obtain⟨j,a,r,f⟩:=b.setA s1 g;exact q _ m j a r f
theorem zqb (hN:X.N.Nodup)(d:X.N[i]?=some x)(a:Loc X.env.scope x)(hf:X.fn x=true\/X.env.scope.names.lookup x=some .local)(hs:i8 e (some (.Name x px)) pos.line X.env=pure false)(b:PE X e (tD X.K f)):
  PS X (.Assign [.Name x px] e pos) (tDS X.K λc=>f c>>=λx=>.ok (.nx (c.set i (some (z1n x))))):=
 PS.imp (zje hN d a b hs hf) λD g H q=>G9 (λ_ _ _ h=>h) D g H q
theorem zph (i:PG X w (tDG X.K (.tp is)))(j:PE X e (tD X.K B))(hs:pa [w] e A.line X.env=pure false)(k:pb [w] e X.env=pure none)(l:(d7 [w] X.env).map (·.2)=[pi w X.env]):
  PS X (.Assign [w] e A) (tDS X.K λy=>B y>>=λx=>fF (.tp is) x y>>=λd=>.ok (.nx d)):=
 PS.imp (zre j i hs k l) λD E H m=>by obtain⟨y,F,p,f,e,q⟩:=m;obtain⟨x,r,e⟩:=Res.aA e;obtain⟨d,s,e⟩:=Res.aA e;cases e;refine⟨y,F,x,f,r,λv C s1 t=>⟨y,F,x,d,f.same s1,t.weak λ_ b=>BI.of f.aM b,s,λg u h c=>?_⟩⟩;exact q g C u h (Run.of c.h0 c.v c.z) λa o e n=>⟨s1 a o e,c.o a n⟩
theorem OZ {K:W.Frag}(c:StOk K F H j k)(h:okIn y=true)(r:Rep K f (BG F H y.1) u y.2):Rep K f (Bin F) u y.2:=by
 obtain⟨g,d⟩:=y;rcases dz.mp h with i|e
 ·exact Rep.bC d i r
 rcases dz.mp e with h|h
 ·cases eq_of_beq h;exact Rep.weak (λa b=>c.fT b) r
 ·cases eq_of_beq h;exact Rep.weak (λa b=>b.elim c.fT id) r
theorem StOk.mutate {K:W.Frag}(m:StOk K F H σ ρ)(B:F.O p=some i)(u:σ[i]?=some (some (.ref p)))(C:(∃q,t=.lst q)\/∃D,t=.dK D)
  (hs:Slot K F (upd H p t) i .fr (.ref p) P):StOk K F (upd H p t) σ ((ρ.set i (some (.fr,P))).map nX)/\cQ F H F (upd H p t):=by
 obtain⟨h0,X,w⟩:=m.own p i B;have s:∀a,F.O a=none->a≠p:=λa e z=>by rw[z,B]at e;cases e
 have k:∀a o,H a=some o->Fix o->a≠p:=λa o e f z=>by subst z;rcases w with⟨q,h⟩|⟨q,h⟩<;>rw[e]at h<;>cases h<;>exact f
 have E:cQ F H F (upd H p t):=λa o e n=>⟨by rw[aE (s a n)];exact e,n⟩;refine⟨⟨λa o e=>?_,λa e=>?_,λa j e=>?_,by rw[am,cn];exact m.len,λj g d e=>?_⟩,E⟩
 ·have c:a≠p:=λz=>by rw[z,h0]at e;cases e
  rw[aE c];exact m.ext a o e
 ·by_cases c:a=p
  ·subst c;exact X
  ·rw[aE c]at e;exact m.aM a e
 ·obtain⟨Y,Z,x3⟩:=m.own a j e;refine⟨Y,Z,?_⟩;by_cases c:a=p
  ·subst c;rw[bF];rcases C with⟨q,rfl⟩|⟨q,rfl⟩
   ·exact .inl ⟨q,rfl⟩
   ·exact .inr ⟨q,rfl⟩
  ·rw[aE c];exact x3
 ·rw[ar]at e;by_cases Q:i=j
  ·subst Q;have hl:i<ρ.length:=by rw[<-m.len];exact(aw.mp u).1
   rw[dg]at e;simp only[if_true,hl]at e;have e1:nX (some (.fr,P))=some (g,d):=by simpa using e
   cases e1;exact⟨_,u,hs⟩
  ·rw[bv Q]at e;cases I:ρ[j]? with
   |none=>rw[I]at e;cases e
   |some sl=>
    rw[I]at e;have l:nX sl=some (g,d):=by simpa using e
    cases sl with
    |none=>cases l
    |some gd=>
     obtain⟨R,J⟩:=gd;obtain⟨v,h1,A⟩:=m.sl j R J I;refine⟨v,h1,?_⟩;cases R with
     |fr=>
      cases l;obtain⟨S,e4,T,h3⟩:=A;have x:S≠p:=λz=>by rw[z,B]at T;simp_all
      have hk:∀a o,H a=some o->(Bin F (some a)\/Fix o)->upd H p t a=some o:=λa o e b=>by have:a≠p:=b.elim (λb=>s a b.1) λf=>k a o e f;rw[aE this];exact e
      refine⟨S,e4,T,?_⟩;rcases h3 with⟨vs,y,L,M,r⟩|⟨vs,y,L,M,r⟩
      ·exact .inl ⟨vs,y,L,by rw[aE x];exact M,Reps.keep hk (λ_ z=>z) y r⟩
      ·exact .inr ⟨vs,y,L,by rw[aE x];exact M,aV.keep hk (λ_ z=>z) y r⟩
     |od=>cases l;exact Rep.keep (λa o e b=>by have:a≠p:=b.elim (λb z=>by have U:F.H0 a≠none/\F.V a:=b;rw[z]at U;exact U.1 h0) λf=>k a o e f;rw[aE this];exact e) (λ_ z=>z) _ A
     |nu=>cases l;exact Rep.keep (λa o e b=>by have:a≠p:=b.elim (λb=>s a b.1) λf=>k a o e f;rw[aE this];exact e) (λ_ z=>z) _ A
     |al=>
      change(if imm J then some (G.al,J)else none)=_ at l;split at l
      ·rename_i N;cases l;exact Rep.fM (λa o e f=>by rw[aE (k a o e f)];exact e) _ N A
      ·cases l
theorem O0 {K:W.Frag}(c:StOk K F H k l)(e:l[i]?=some (some (.fr,d))):∃p,k[i]?=some (some (.ref p))/\F.O p=some i/\((∃g b,d=.list b/\H p=some (.lst g)/\Reps K H (Bin F) g b)\/(∃a j,d=.dict j/\H p=some (.dK a)/\aV K H (Bin F) a j)):=by obtain⟨v,f,p,rfl,o,h⟩:=c.sl i .fr d e;exact⟨p,f,o,h⟩
def Cj (m:String)(i:Nat)(fs:Rho->Res (List GD)):Rho->Res Out:=λρ=>fs ρ>>=λys=>match ρ[i]? with
 |some (some (.fr,.list xs))=>lY m xs ys>>=λBF=>.ok (.nx ((ρ.set i (some (.fr,.list BF))).map nX))
 |_=>.no
theorem zih {fs:Rho->Res (List GD)}(hN:X.N[i]?=some x)(I:Vis X.env.scope x)(hd:Wl x)(l:(x==("__classdict__":Str))=false)(J:PA X (e::es) (tDA X.K fs))(g:((e::es).all fun e=>!isStar e)=true)(L:(e::es).length<20)(d:(M.endLine==P.line)=true):
  PS X (.Expr (.Call (.Attribute (.Name x p) "append" M) (e::es) [] P) pos) (tDS X.K (Cj "append" i fs)):=by
 have c:=g;rw[cx,bt]at c;refine PS.imp (lW (zng PySem.F.plainAttrs_list PySem.F.slot_list_append PySem.F.type_list_append Ba (vx hN I hd l) J rfl (z9y g L) d (fE (by simpa using c.1)) (lV c.2)) rfl) λD σ H Q=>?_;obtain⟨ρ,F,R,j,e,q⟩:=Q;obtain⟨S,T,e⟩:=Res.aA e;split at e
 ·rename_i w U;obtain⟨V,f,e⟩:=Res.aA e;cases e;obtain⟨k,A,m,h⟩:=O0 j U;rcases h with⟨vs,ds,n,B,r⟩|⟨_,_,n,_⟩
  ·cases n;refine⟨_,A,.inl ⟨rfl,vs,SqL.of B⟩,ρ,F,S,j,T,λus H1 s1 rs=>?_⟩;simp only[lY,if_true]at f;split at f
   ·rename_i y;split at f
    case isFalse=>cases f
    rename_i C;cases f;rw[au,decide_eq_true_iff]at C;obtain⟨u,rfl,W⟩:=rs.one;have s:=j.same s1;have E:=s1 _ _ B;refine⟨k,vs,u,rfl,rfl,E,mG (by rw[r.length];omega),?_⟩
    have Y:Reps X.K (upd H1 k (.lst (vs++[u]))) (Bin F) (vs++[u]) (w++[y.2]):=by
     have Z:Reps X.K H1 (Bin F) (vs++[u]) (w++[y.2]):=Reps.append (r.same s1 λ_ z=>z) ⟨u,[],rfl,OZ j C.1 W,rfl⟩;refine Reps.keep (λa o e b=>?_) (λ_ z=>z) _ Z
     have t:a≠k:=by
      intro z;subst z;rcases b with b|b
      ·have G:F.O a=none:=b.1;rw[m]at G;cases G
      ·rw[E]at e;cases e;exact b
     rw[aE t];exact e
    obtain⟨v,f2⟩:=s.mutate m A (.inl ⟨_,rfl⟩) ⟨k,rfl,m,.inl ⟨_,_,rfl,bF,Y⟩⟩;exact q σ _ F v Run.refl ((cQ.same s1).trans f2)
   ·cases f
  ·cases n
 ·cases e
end
theorem StOk.fD {K:W.Frag}{F:Fm}{H:Hp}{s:L2.St}{f:Rho}(so:StOk K F H s f)(j:Nat):StOk K (F.drop j) H s (f.set j (wg (f.getD j none))):=by
 refine⟨so.ext,so.aM,λa i e=>?_,by rw[cn];exact so.len,λi g d e=>?_⟩
 ·have x:F.O a=some i:=by
   have e:(if F.O a=some j then none else F.O a)=some i:=e;split at e
   ·cases e
   ·exact e
  exact so.own a i x
 ·by_cases l:j=i
  ·subst l;rw[dg]at e;simp only[if_true]at e;split at e
   ·rename_i y;cases t:f[j]? with
    |none=>exact absurd y (by grind)
    |some sl=>
     have k:wg sl=some (g,d):=by
      have:f.getD j none=sl:=by rw[aa,t];rfl
      rw[this]at e;exact se e
     cases sl with
     |none=>cases k
     |some gd=>
      obtain⟨u,d0⟩:=gd;obtain⟨v,m,c⟩:=so.sl j u d0 t;refine⟨v,m,?_⟩;cases u with
      |fr=>
       cases k;obtain⟨p,rfl,o,h⟩:=c;obtain⟨o1,A,_⟩:=so.own p j o;have w:Bin (F.drop j) (some p):=⟨by show(if F.O p=some j then none else F.O p)=none;rw[rj o],o1,A⟩;rcases h with⟨n,B,rfl,q,r⟩|⟨n,B,rfl,q,r⟩
       ·exact⟨p,n,rfl,.inl ⟨q,w⟩,r.weak λ_ b=>b.drop⟩
       ·exact⟨p,n,rfl,q,w,aV.same (λ_ _ e=>e) (λ_ b=>b.drop) r⟩
      |od=>cases k;exact c
      |al=>cases k;exact c
      |nu=>cases k;exact Rep.weak (λ_ b=>b.drop) c
   ·cases e
  ·rw[bv l]at e;obtain⟨v,m,c⟩:=so.sl i g d e;exact⟨v,m,c.drop λz=>l z.symm⟩
theorem Ck (k c:Key):eqK (kD c) (kD k)=decide (c=k):=by
 cases c<;>cases k
 ·rename_i a b;show(a==b)=_;rw[j7,decide_eq_decide];exact⟨λh=>by rw[h],λh=>Sum.inl.inj h⟩
 ·rfl
 ·rfl
 ·rename_i a b;show decide (a=b)=_;rw[decide_eq_decide];exact⟨λh=>by rw[h],λh=>Sum.inr.inj h⟩
theorem aV.any {K:W.Frag}(k:Key):∀{kvs:List (Key×V)} {es:aY},aV K H B kvs es->(es.any λe=>eqK e.1 (kD k))=kvs.any λa=>decide (a.1=k)
 |kvs,[],r=>by have e:kvs=[]:=r;subst e;rfl
 |kvs,(kd,d)::es,r=>by obtain⟨c,v,t,e,b,_,_,q⟩:=r;subst e b;rw[gz,gz,q.any k,Ck]
theorem aV.mL {K:W.Frag}(k:Key)(h:Rep K H B v d):∀{kvs:List (Key×V)} {es:aY},aV K H B kvs es->aV K H B (kvs.map λa=>if a.1=k then(a.1,v)else a) (es.map λe=>if eqK e.1 (kD k)then(e.1,d)else e)
 |kvs,[],r=>by have e:kvs=[]:=r;subst e;exact rfl
 |kvs,(kd,d0)::es,r=>by
  obtain⟨b,f,t,e,g,ok,h0,q⟩:=r;subst e g;rw[bj,bj];have c:=q.mL k h;by_cases z:b=k
  ·subst z;rw[rj rfl,rj (by rw[Ck];simp)];exact⟨b,v,_,rfl,rfl,ok,h,c⟩
  ·rw[rq z,rq (by rw[Ck];simpa using z)];exact⟨b,f,_,rfl,rfl,ok,h0,c⟩
theorem aV.app {K:W.Frag}(ok:keyOk k)(h:Rep K H B v d):∀{kvs:List (Key×V)} {es:aY},aV K H B kvs es->aV K H B (kvs++[(k,v)]) (es++[(kD k,d)])
 |kvs,[],r=>by have e:kvs=[]:=r;subst e;exact⟨k,v,[],rfl,rfl,ok,h,rfl⟩
 |kvs,(kd,d0)::es,r=>by obtain⟨b,c,t,e,f,a,h0,q⟩:=r;subst e f;exact⟨b,c,_,rfl,rfl,a,h0,q.app ok h⟩
theorem aV.put {K:W.Frag}(ok:keyOk k)(h:Rep K H B v d){es:aY}(r:aV K H B kvs es):aV K H B (putK kvs k v) (dput es (kD k) d):=by
 unfold putK dput;rw[r.any k];split
 ·exact r.mL k h
 ·exact r.app ok h
def wH (td ty tv:TE):TS:=λD σ H=>tv σ H λv H1=>td σ H1 λx H2=>ty σ H2 λy H3=>(∃a H4,x=.ref a/\DPut H3 a y v H4/\D.nx σ H4)\/Gq x y v H3 λH4=>D.nx σ H4
theorem O1 (hu:X.A.units+1<cLine)(m:PE X o n)(O:PE X i ty)(p:PE X value tv)(hs:i8 value (some (.Subscript o i b)) N.line X.env=pure false):PS X (.Assign [.Subscript o i b] value N) (wH n ty tv):=by
 intro L s M H D I h;refine wpAny_Assign_Subscript (aI (p L s M H _ I h) λr s1 ⟨v,P,q,f,t⟩=>aI (m L s1 M P _ q t) λu w ⟨x,z,B,j,C⟩=>aI (O L w M z _ B C) ?_) hs
 rintro E F ⟨y,G,k,l,c⟩
 rcases c with⟨a,d,ex,g,c⟩|c
 ·subst ex;obtain rfl:u=Value.ref a:=j;exact zcz hu k g l f λJ e=>⟨M,d,e,c⟩
 ·exact aI (set_list L F M G x y v u E r _ k j l f c) λ_ J ⟨d,e,K⟩=>⟨M,d,e,K⟩
def tDF (K:W.Frag)(f:Rho->Res (G×List D×Rho)):TI:=λσ H R=>∃ρ F w,StOk K F H σ ρ/\f ρ=.ok w/\∀J B H' F',Same H H'->Run F F'->cQ F H F' H'->StOk K F' H' σ w.2.2->(∀a,B (some a)->F'.O a=none)->(∀a,B a->BI F' w.1 a)->Walk K J B H' w.2.1->R J H'
theorem Cm {K:W.Frag}(f:StOk K F H k l){a:Addr}(i:g≠.al)(h:BG F H g (some a)):F.O a=none:=by
 cases d:F.O a with
 |none=>rfl
 |some j=>
  obtain⟨h0,_,b⟩:=f.own a j d;cases g with
  |fr=>have c:=h;rcases b with⟨e,b⟩|⟨e,b⟩<;>rw[c]at b<;>cases b
  |od=>exact absurd h0 h.1
  |al=>exact absurd rfl i
  |nu=>
   rcases h with h|h
   ·have c:H a=none:=h;rcases b with⟨e,b⟩|⟨e,b⟩<;>rw[c]at b<;>cases b
   ·have c:F.O a=none:=h.1;rw[c]at d;cases d
theorem G' (i:PI X j e (tDW X.K k)):PI X j e (tDF X.K λo=>k o>>=λw=>if w.1==.al then .no else .ok (w.1,w.2,o)):=
 PI.imp i λr H R l=>by
  obtain⟨o,F,w,d,e,q⟩:=l;obtain⟨g,m,e⟩:=Res.aA e;refine⟨o,F,g,d,m,λJ B p s1 h n=>?_⟩;split at e
  ·cases e
  ·rename_i f;cases e;have c:g.1≠.al:=λz=>f (by rw[z];rfl);exact q J B p F s1 Run.refl (cQ.same s1) (d.same s1) (λa b=>Cm d c (h _ b).1) (λa b=>BI.of d.aM (h a b).1) n
theorem StOk.giveUp {K:W.Frag}(a:StOk K F H h k)(e:k[i]?=some (some (.fr,d))):StOk K (F.drop i) H h (k.set i (some (.al,d))):=by
 obtain⟨v,b,f⟩:=a.sl i .fr d e;have:=a.mJ (i:=i) (x:=(.al,d)) (f.rep a.iW)
 have l:h.set i (some v)=h:=by
  apply gw;intro j;by_cases c:i=j
  ·subst c;rw[dg];have g:=(aw.mp b).1;simp only[if_true,g];exact b.symm
  ·rw[bv c]
 rw[l]at this;exact this
theorem O2 (hN:X.N[i]?=some x)(t:Vis X.env.scope x)(hd:Wl x)(f:(x==("__classdict__":Str))=false):PI X T (.Name x pos) (tDF X.K (yS i)):=by
 intro W s σ H R I h;obtain⟨ρ,F,w,g,e,q⟩:=h;unfold yS at e;split at e
 ·rename_i d l;obtain⟨U,z,e⟩:=Res.aA e;cases e;obtain⟨v,A,C⟩:=g.sl i .fr d l;refine aI (vx hN t hd f W s σ H (λu Y=>u=v/\Y=H) I ⟨v,A,rfl,rfl⟩) λu s1 D=>?_;obtain⟨y,Y,E,G,c,L⟩:=D;subst c L;have j:=g.giveUp l
  let B:Ad->Prop:=λa=>match a with|some a=>(F.drop i).O a=none/\F.V a|none=>False
  have M:Rep X.K Y B y d:=by
   obtain⟨p,c,m,P⟩:=C
   have n:∀a,Bin F a->B a:=λa b=>by
    cases a with
    |none=>exact b
    |some a=>exact⟨Fm.bL b.1,b.2.2⟩
   have o:B (some p):=⟨by show(if F.O p=some i then none else F.O p)=none;rw[rj m],g.iW p i m⟩;rcases P with⟨Z,Q,rfl,k,r⟩|⟨Z,Q,rfl,k,r⟩
   ·exact⟨p,Z,c,.inl ⟨k,o⟩,r.weak n⟩
   ·exact⟨p,Z,c,k,o,aV.same (λ_ _ e=>e) n r⟩
  refine z37 E G M z λJ S=>q J B Y (F.drop i) (Same.refl _) (Run.of rfl rfl rfl) (cQ.drop (Same.refl _)) j (λa b=>b.1) (λa b=>?_) S;cases a with
  |none=>exact b.elim
  |some a=>exact b.2
 ·cases e
def Fm.mM (F:Fm)(H:Hp):Fm:={F with O:=λa=>match H a with|some (.dK _)=>F.O a|_=>none}
theorem Fm.hW {F:Fm}{a:Addr}(h:F.O a=none):(F.mM H).O a=none:=by
 unfold Fm.mM
 dsimp only
 split<;>first|exact h|rfl
theorem StOk.mM {K:W.Frag}(f:StOk K F H σ B):StOk K (F.mM H) H σ (B.map BE) where
 ext:=f.ext
 aM:=f.aM
 own:=λa i e=>by
  have c:F.O a=some i:=by
   unfold Fm.mM at e
   dsimp only at e
   split at e
   ·exact e
   ·cases e
  exact f.own a i c
 len:=by rw[am];exact f.len
 sl:=λi g d e=>by
  rw[ar]at e;cases j:B[i]? with
  |none=>rw[j]at e;cases e
  |some o=>
   rw[j]at e;have c:BE o=some (g,d):=by simpa using e
   cases o with
   |none=>cases c
   |some s=>
    obtain⟨n,t⟩:=s;obtain⟨v,u,h⟩:=f.sl i n t j;refine⟨v,u,?_⟩
    have q:∀a,Bin F a->Bin (F.mM H) a:=λa b=>by
     cases a with
     |none=>exact b
     |some a=>exact⟨Fm.hW b.1,b.2.1,b.2.2⟩
    cases n with
    |od=>cases c;exact h
    |al=>cases c;exact h
    |nu=>cases c;exact Rep.weak q h
    |fr=>
     obtain⟨p,ev,w,x⟩:=id h;rcases x with⟨D,y,rfl,k,r⟩|⟨l,C,rfl,k,r⟩
     ·have m:some (G.al,PyData.list y)=some (g,d):=c;cases m;have A:=Slot.rep f.iW h;exact A
     ·have m:some (G.fr,PyData.dict C)=some (g,d):=c;cases m;refine⟨p,ev,?_,.inr ⟨l,C,rfl,k,aV.same (λ_ _ z=>z) q r⟩⟩;unfold Fm.mM
      dsimp only
      rw[k];exact w
theorem Cn (t:PE X e (tD X.K Q)):PI X L e (tDF X.K λP=>Q P>>=λx=>lZ x P):=by
 intro N s S H R I h;obtain⟨P,F,w,i,c,q⟩:=h;obtain⟨x,u,c⟩:=Res.aA c;obtain⟨g,d⟩:=x;unfold lZ at c
 dsimp only at c
 split at c
 ·rename_i j;split at c
  ·rename_i T;cases c;refine aI (t N s S H (λv M=>Same H M/\Rep X.K M (BG F H g) v (.list j)) I ⟨P,F,_,i,u,λv M s1 k=>⟨s1,k⟩⟩) λv s1 A=>?_;obtain⟨y,M,C,D,f,k⟩:=A;have l:=(i.same f).mM
   let B:Ad->Prop:=λa=>match a with|some a=>(F.mM M).O a=none/\F.V a|none=>F.z
   have m:Rep X.K M B y (.list j):=by
    obtain⟨p,U,E,h,r⟩:=k;refine⟨p,U,E,?_,Reps.bC j T r⟩;rcases h with⟨h,b⟩|⟨h,b⟩
    ·refine .inl ⟨h,?_,(BG.aM i.aM b:bV F (some p))⟩;unfold Fm.mM
     dsimp only
     rw[h]
    ·exact .inr ⟨h,(BG.aM i.aM b:bV F none)⟩
   refine z37 C D m rfl λJ G=>q J B M (F.mM M) f (Run.of rfl rfl rfl) (λa o e n=>⟨f a o e,Fm.hW n⟩) l (λa b=>b.1) (λa b=>?_) G;cases a with
   |none=>exact b
   |some a=>exact b.2
  ·cases c
 ·cases c
theorem PI.Hb {k:Rho->Bool}(hf:PI X a e (tDF X.K f))(c:PI X a e (tDF X.K g)):PI X a e (tDF X.K λi=>if k i then f i else g i):=by
 intro d s j H R I h;obtain⟨i,F,w,b,e,q⟩:=h
 dsimp only at e
 cases hk:k i with
 |true=>exact hf d s j H R I ⟨i,F,w,b,by rw[rj hk]at e;exact e,q⟩
 |false=>exact c d s j H R I ⟨i,F,w,b,by rw[rq (hk▸dq)]at e;exact e,q⟩
theorem zth (hp:fm (model X.prog X.w) X.A X.env X.xe)(hc:X.calm=true)(L:PI X tg iter (tDF X.K fw))(hg:PG X tg (tDG X.K t))(hb:PSs X M (tDS X.K fs))(hs:∀x,fq iter X.env x=pure x):
  PS X (.For tg iter M [] pos) (tDS X.K λU=>fw U>>=λw=>dD (λx E=>fF t (gJ x w.1,x) E>>=λc=>fs c) w.2.1 w.2.2):=
 PS.imp (zam hp hc L hg hb hs) λD σ H ⟨U,F,Y,so,e,q⟩=>by
  obtain⟨w,e1,e⟩:=Res.aA e;refine⟨U,F,w,so,e1,λJ B H1 k s1 r1 f1 N O3 O4 wk=>?_⟩;have q1:=q.back r1 f1;generalize hf:(λx E=>fF t (gJ x w.1,x) E>>=λc=>fs c)=f at e
  have kp:∀{l:Fm} {r:Hp},cQ k H1 l r->Kp B H1 r:=λ{l r} fr a o e b=>by
   have hO:k.O a=none:=by
    rcases b with b|b
    ·exact O3 a b
    ·cases h:k.O a with
     |none=>rfl
     |some j=>obtain⟨_,_,P⟩:=N.own a j h;rcases P with⟨xs,P⟩|⟨xs,P⟩<;>rw[e]at P<;>cases P<;>exact b.elim
   exact(fr a o e hO).1
  let W:Nat->Nat->L2.St->Hp->Prop:=λi m G r=>m=w.2.1.length-i/\i<=w.2.1.length/\∃c l,StOk X.K l r G c/\Run k l/\cQ k H1 l r/\dD f (w.2.1.drop i) c=.ok Y
  refine⟨W,⟨_,rfl,cz _,w.2.2,k,N,Run.refl,cQ.refl,e⟩,?_⟩
  rintro i m G r ⟨rfl,Co,c,l,Q,I,R,h⟩
  by_cases s:i<w.2.1.length
  ·refine .inr ⟨wk.go r (kp R) i s,W (i+1) (w.2.1.length-(i+1)),λbP H' p=>⟨_,by omega,p⟩,λx H3 y=>?_⟩;obtain⟨s3,d,hd,rx⟩:=wk.gE r (kp R) i x H3 s y
   have Cp:w.2.1.drop i=d::w.2.1.drop (i+1):=by
    rw[gm s];have:w.2.1[i]=d:=by rw[ae s]at hd;simp_all
    rw[this]
   rw[Cp]at h;simp only[dD]at h
   have Cf:Rep X.K H3 (BI l (gJ d w.1)) x d:=by
    have O5:∀g a,BI k g a->BI l g a:=λg a b=>by cases g<;>cases a<;>first|exact b|(have C:k.V _:=b;rw[<-I.2.1]at C;exact C)|(have C:k.z:=b;rw[<-I.2.2]at C;exact C)|(have C:k.H0 _≠none/\k.V _:=b;exact⟨λz=>C.1 (none_of I.1 z),by rw[I.2.1];exact C.2⟩)
    unfold gJ;by_cases L:imm d=true
    ·rw[rj L];exact Rep.bC d L rx
    ·rw[rq L];exact rx.weak λa b=>O5 _ _ (O4 a b)
   cases T:f d c with
   |no=>rw[T]at h;cases h
   |exc z=>rw[T]at h;cases h
   |ok o1=>
    obtain⟨S,e4,e5⟩:=Res.aA (by rw[<-T,<-hf]);rw[T]at h;refine⟨c,l,(gJ d w.1,d),S,Q.same s3,Cf,e4,λj' F4 zb u=>⟨S,F4,o1,zb,e5,?_⟩⟩;have r4:=I.trans (Run.of u.h0 u.v u.z);have f4:=R.trans λa o e n=>⟨s3 a o e,u.o a n⟩;cases o1 with
    |nx O6=>exact λbP H' F' O7 r' f'=>⟨rfl,s,O6,F',O7,r4.trans r',f4.trans f',h⟩
    |rt g d=>cases h;exact(q1.back r4 f4:uD X.K F4 H3 D (.rt g d))
  ·have tL:i=w.2.1.length:=by omega
   subst tL;rw[mo]at h;cases h;exact .inl ⟨wk.stop r (kp R),q1 G r l Q I R⟩
theorem O8 (E:fm (model X.prog X.w) X.A X.env X.xe)(G:PT X c (dJ X.K ft))(I:PSs X j (tDS X.K fs)):PS X (.While c j [] pos) (tDS X.K (wd ft fs n)):=
 PS.imp (Fw E G I) λD S H J=>by
  obtain⟨L,F,o,so,e,q⟩:=J
  let W:Nat->L2.St->Hp->Prop:=λm h r=>∃a f,StOk X.K f r h a/\Run F f/\cQ F H f r/\wd ft fs m a=.ok o
  refine⟨W,⟨n,L,F,so,Run.refl,cQ.refl,e⟩,?_⟩
  rintro m h r ⟨a,f,i,s,M,b⟩
  cases m with
  |zero=>cases b
  |succ m=>
   obtain⟨k,N,b⟩:=Res.aA b;refine⟨a,f,k,i,N,λB t=>?_⟩;have u:=M.trans (cQ.same t);cases k with
   |false=>cases b;exact iR (q h B f (i.same t) s u)
   |true=>
    refine iS ⟨W m,λv O p=>⟨m,g7 m,p⟩,?_⟩;cases l:fs a with
    |no=>rw[l]at b;cases b
    |exc z=>rw[l]at b;cases b
    |ok C=>
     rw[l]at b;refine⟨a,f,C,i.same t,l,?_⟩;cases C with
     |nx x=>exact λv O P y Q R=>⟨x,P,y,s.trans Q,u.trans R,b⟩
     |rt g d=>cases b;exact(q.back s u:uD X.K f B D (.rt g d))
def rAgg (K:W.Frag)(f:String):List V->Hp->VK->Prop:=λxs H Q=>∃B x dx l ys d,xs=[x]/\Rep K H B x dx/\z5c dx=.ok (l,ys)/\aggD f l ys=.ok d/\∀w H',Same H H'->Rep K H' (λa=>nw H a\/(imms ys=false/\B a)) w d->Q w H'
theorem Cq {K:W.Frag}(r:Rep K H B x d)(e:z5c d=.ok (l,b)):∃a c,x=.ref a/\(if l then SqL K H a c else cB K H a c)/\Reps K H B c b:=by
 cases d<;>try (cases e;done)
 ·cases e;obtain⟨a,c,rfl,h,q⟩:=lC r;exact⟨a,c,rfl,h,q⟩
 ·cases e;obtain⟨a,c,rfl,h,q⟩:=r;exact⟨a,c,rfl,h,q⟩
theorem Reps.pC {K:W.Frag}(r:Reps K H B c b):Reps K H (λa=>nw H a\/(imms b=false/\B a)) c b:=by
 cases d:imms b with
 |true=>exact Reps.bC b d r
 |false=>exact r.weak λ_ z=>.inr ⟨rfl,z⟩
section
variable {X:Cx}{e:Expr}{fa:Rho->Res GD}
theorem zij (c:StOk X.K F H u t)(e:((fa t>>=fun x=>z5c x.2>>=fun p=>Res.ok (x.1,p))>>=fun w=>aggD f w.2.1 w.2.2>>=fun d=>Res.ok ((gJ d (if imms w.2.2 then .fr else agG w.1),d):GD))=.ok z)(q:∀v s,Same H s->Rep X.K s (BG F H z.1) v z.2->Q v s):
  oI (rAgg X.K f) (qP (tD X.K fa) gI) u H Q:=by
 obtain⟨w,b,e⟩:=Res.aA e;obtain⟨x,j,b⟩:=Res.aA b;obtain⟨p,k,b⟩:=Res.aA b;cases b;obtain⟨d,l,e⟩:=Res.aA e;cases e;refine⟨t,F,x,c,j,λv A s1 m=>⟨_,v,x.2,p.1,p.2,d,rfl,m,k,l,λn o r g=>q n o (s1.trans r) (rC g λa h=>?_)⟩⟩;cases y:imms p.2 with
 |true=>
  rcases h with h|⟨h,_⟩
  ·exact nw.back s1 h
  ·rw[y]at h;cases h
 |false=>
  have al:bV F a:=by
   rcases h with h|⟨_,h⟩
   ·exact(nw.back s1 h).aM c.aM
   ·exact h.aM c.aM
  cases i:x.1 with
  |fr=>
   rcases h with h|⟨_,h⟩
   ·exact nw.back s1 h
   ·rw[i]at h;exact h
  |od=>exact al
  |al=>exact al
  |nu=>
   rcases h with h|⟨_,h⟩
   ·exact .inl (nw.back s1 h)
   ·rw[i]at h;exact h
theorem O9:CallR X (.type "tuple") (rAgg X.K "tuple"):=by
 refine CallR.imp MT λf H Q h=>?_;obtain⟨B,x,j,l,g,d,rfl,r,e,c,q⟩:=h;obtain⟨a,i,rfl,h,rs⟩:=Cq r e;cases c;refine⟨a,i,rfl,?_⟩;cases l with
 |true=>exact .inl ⟨h,λp b=>q _ _ (Same.upd b) (yY b rs.pC λ_ z=>z)⟩
 |false=>exact .inr ⟨h,q _ H (Same.refl H) ⟨a,i,rfl,h,rs.pC⟩⟩
theorem zj4 (b:CallR X (.type f) (rAgg X.K f))(hm:X.mg x=none)(c:c9 x=some (.type f))(hs:isStar y=false)(g:PE X y (tD X.K fa))(h:Gl X x)(hn:x≠"__name__")(a:Wl x):
  PE X (.Call (.Name x p) [y] [] k) (tD X.K λj=>(fa j>>=λx=>z5c x.2>>=λp=>Res.ok (x.1,p))>>=λw=>aggD f w.2.1 w.2.2>>=λd=>.ok (gJ d (if imms w.2.2 then .fr else agG w.1),d)):=
 PE.imp (Bn b hm c (eV g kX hs) (by simp[hs]) h hn a) λl H Q ⟨j,F,z,i,e,q⟩=>zij i e q
theorem znu (b:CallR X (.builtin f) (rAgg X.K f))(hm:X.mg x=none)(c:c9 x=some (.builtin f))(hs:isStar y=false)(g:PE X y (tD X.K fa))(h:Gl X x)(hn:x≠"__name__")(a:Wl x):
  PE X (.Call (.Name x p) [y] [] k) (tD X.K λj=>(fa j>>=λx=>z5c x.2>>=λp=>Res.ok (x.1,p))>>=λw=>aggD f w.2.1 w.2.2>>=λd=>.ok (gJ d (if imms w.2.2 then .fr else agG w.1),d)):=
 PE.imp (yM b hm c (eV g kX hs) (by simp[hs]) h hn a) λl H Q ⟨j,F,z,i,e,q⟩=>zij i e q
end
structure NoKeys (T id:String):Prop where
 own:PySem.Slot T "__getattribute__" id
 entry:entryFor table id=some Builtin.«object.__getattribute__»
 two:∀a b:Value,argsOk id {pos:=[a,b]}
 rest:qv (.type T) "__getattr__"=pure none
 miss:∀(a:Addr) (xs:Array Value) (k:Nat) (sl:Array (Option Value)) (u:Tok),Meets (Builtin.«object.__getattribute__» {pos:=[.ref a,.str "keys" u]}) λA R s=>s.heap.get? a=some {cls:=.type T,data:=.seq xs k,slots:=sl}/\raisesAttr (.ref a) "keys" A R s
theorem O':NoKeys "list" "list.__getattribute__" where
 own:=F.slot_list_getattribute
 entry:=am_entry_list_getattribute
 two:=F.args_list_getattribute_2
 rest:=am_list_getattr_none
 miss:=λa b k sl u=>meets_getattribute_miss_list a b k sl "keys" u (by rw[typeLookup_type,builtinLookup_eq_fast];kernel_rfl) dc (by size_fits)
theorem Pa:NoKeys "tuple" "tuple.__getattribute__" where
 own:=F.slot_tuple_getattribute
 entry:=am_entry_tuple_getattribute
 two:=F.args_tuple_getattribute_2
 rest:=am_tuple_getattr_none
 miss:=λa b k sl u=>meets_getattribute_miss_tuple a b k sl "keys" u (by rw[typeLookup_type];kernel_rfl) dc (by size_fits)
theorem NoKeys.ask {T id:String}(N:NoKeys T id){prog:cj}{w:World}{A:fz}{E:Value->bc->Prop}{s:bc}{a:Addr}{o:Obj}{i:Array Value}{k:Nat}{Q:Option Value->bc->Prop}
  (j:s.heap.get? a=some o) (m:o.cls=.type T) (d:o.data=.seq i k) (hd:o.dict=none) (n:A.handled=none)
  (h:∀l p e,pd s.heap l e "AttributeError"->Q none {s with heap:=l,toks:=p}):
  wpAny (model prog w) A (qd (.ref a) "keys") Q E s:=by
 cases o;cases m;cases d;cases hd;cases s;rename_i b heap f c toks os;have ty:∀t,(⟨heap,f,c,t,os⟩:bc).TypeIs (.ref a) T:=λt=>⟨_,j,rfl⟩;have q:=sub_AttributeError;have n1:=N.own.lookup;have n2:=N.own.bind (.ref a);have n3:=N.rest
 delta qd getAttrBy? getAttrBy
 repeat' (first|assumption|exact ty _|(apply q8 N.own (ty _) N.entry (N.two _ _) (N.miss a i k b _))|wp_step)
 refine⟨j,n,λr u ex nx=>?_⟩;obtain⟨v,x,there⟩:=nx.there;have g:=λt=>h _ t _ nx.of
 dsimp only[wants]
 delta getattributeRaised
 repeat' (first|assumption|apply g|wp_step)
theorem Pb
 (d:s.heap.get? a=some o) (f:o.cls=.type "list") (b:o.data=.seq j k) (hd:o.dict=none) (g:A.handled=none) (h:∀c i e,pd s.heap c e "AttributeError"->Q none {s with heap:=c,toks:=i}):
 wpAny (model prog w) A (qd (.ref a) "keys") Q E s:=O'.ask d f b hd g h
theorem Pc
 (d:s.heap.get? a=some o) (f:o.cls=.type "tuple") (b:o.data=.seq j k) (hd:o.dict=none) (g:A.handled=none) (h:∀c i e,pd s.heap c e "AttributeError"->Q none {s with heap:=c,toks:=i}):
 wpAny (model prog w) A (qd (.ref a) "keys") Q E s:=Pa.ask d f b hd g h
abbrev uE (X:Cx)(A:fz)(E:Value->bc->Prop):Cx:={X with A:=A,xe:=E}
theorem _root_.L2.Inv.uE (I:Inv X a b H s)(hd:A.handled=X.A.handled)(hf:A.frames=X.A.frames):Inv (uE X A E) a b H s:=⟨⟨I.ok.mod,I.ok.kind,I.ok.glob,I.ok.blt,I.ok.above,I.ok.inj,I.ok.has,I.ok.qM,λz=>hd.trans (I.ok.hd z),hf.trans I.ok.frames,I.ok.sy,I.ok.jF,I.ok.bs,I.ok.jG,I.ok.hJ,I.ok.hP,I.ok.cF,I.ok.nT,I.ok.vq⟩,I.os,I.bare,I.base,I.loc,I.cell,I.free,I.bA,I.pin,I.hok,I.len,I.fx⟩
theorem _root_.L2.Inv.Cr (ok:X.Ok)(I:Inv (uE X A E) a b H s):Inv X a b H s:=⟨ok,I.os,I.bare,I.base,I.loc,I.cell,I.free,I.bA,I.pin,I.hok,I.len,I.fx⟩
namespace F
theorem entry_dict_loop:entryFor table "dict.update.loop"=some Builtin.«dict.update.loop»:=entryFor_of_tree (by kernel_rfl)
theorem aU:plainId "dict.update.loop"=true:=by decide+kernel
end F
theorem Pd (p:IsTup s.heap a b.toArray)(h:Q b s):wpAny (model prog w) A (Builtin.Dict.pairItems (.ref a)) Q E s:=by have c:=p.typeIs;obtain⟨o,d,e,n,hd⟩:=p;apply ac;refine k8 c ?_;apply ac;refine om d hd ?_;apply bb;simpa using h
theorem zux (hc:X.calm=true)(hA:X.A=A.in1)(T:Turn X.prog X.w X.K (.Name x0 p0) J fp it tn)(O:Walk X.K J B H1 l)(V:¬B (some d)):
  ∀n i s H kvs (es:aY) t W,l.length-i=n->i<=l.length->Inv X pins σ H s->tn i s.heap->(∀b∈fp,FpOk X pins H b)->H d=some (.dK kvs)->kvs.length<=i->aV X.K H B kvs es->iI es (l.drop i)=some Y->Kp B H1 H->
   (∀P y c,Inv X pins σ y P->y d=some (.dK c)->aV X.K y B c Y->(∀a o,a≠d->H a=some o->y a=some o)->R (.ok (.ret .none)) P)->
   i9 (model X.prog X.w) A (.builtin "dict.update.loop" ⟨[.ref d,.ref it,.int W t,.none],[]⟩) R s:=by
 intro n
 induction n with
 |zero=>
  intro i s H kvs es t W hn hi I st fo hd hl rs j kp Z;have e:i=l.length:=by omega
  subst e;refine nq F.entry_dict_loop ?_;rw[Around.under_plainId F.aU _,<-hA];refine ac (aI (T.done X rfl rfl rfl hc _ pins s σ H _ I fo st (O.stop H kp)) λr Q C=>?_);obtain⟨rfl,I1⟩:=C;rw[mo]at j;cases j;exact ac (bb (bb (Z Q H kvs I1 hd rs λ_ _ _ e=>e)))
 |succ n ih=>
  intro i s H kvs es t W hn hi I st fo hd hl rs j kp Z;have f:i<l.length:=by omega
  refine nq F.entry_dict_loop ?_;rw[Around.under_plainId F.aU _,<-hA];refine ac (aI (T.item X rfl rfl rfl hc i pins s σ H _ I fo st (O.go H kp i f)) λr Q C=>?_);obtain⟨u,rfl,h4⟩:=C;have key:∀(m:Sem PySem.Fin) Q' E',wpAny (model X.prog X.w) X.A (jh (.Name x0 p0) (.ref it) u>>=λ_=>m) Q' E' Q->wpAny (model X.prog X.w) X.A m Q' E' Q:=λm Q' E' h=>h;refine key _ _ _ (ac (aI h4 λ_ s5 C=>?_));obtain⟨x,S,I5,r5,y5,p,Bl⟩:=C;obtain⟨U,di,D,rx⟩:=O.gE H kp i x S f y5;have ed:l.drop i=di::l.drop (i+1):=by rw[gm f];rw[ae f]at D;cases D;rfl
  rw[ed]at j;unfold iI at j;split at j
  case h_2=>cases j
  rename_i kd vd;split at j
  case isFalse=>cases j
  rename_i hk;obtain⟨a,vs,rfl,sq,Pe⟩:=rx;obtain⟨vk,E,rfl,rk,rv⟩:=y9 Pe;cases r5;obtain⟨eM,G,pt,_⟩:=I5.tuple sq;obtain⟨uk,uv,rfl,Pf,Pg⟩:=vals2 G;have L:=I5.pinned (λb g=>⟨Bl b g,(fo b g).2⟩) (T.obj _ _ p);have v:=U _ _ hd;obtain⟨k,rfl,rfl,ok⟩:=wF hk rk;obtain⟨z,Ph,Pj,rel,dd⟩:=vN L.hok v;have VR:Pj.length<=ay:=rel.length▸z;have hz:=O.len;have Pk:(putK kvs k E).length<=i+1:=by have:=yG kvs k E;omega
  refine ac (fj (ac (wpAny_tryCatch (Pd pt ?_))));refine fj (wpAny_dictSet_pairs (qQ Pf) dd λh' M hs=>?_);have I6:=z6q (t':=s5.toks+1) L (v▸True.intro) hs (let⟨q,_,_,hq,_⟩:=M;⟨q,hq⟩) (AW (by omega) Ph (rel.put k Pg) M)
  have N:Kp B S (upd S d (.dK (putK kvs k E))):=λb o e z=>by
   have:b≠d:=by
    rintro rfl
    rcases z with z|z
    ·exact V z
    ·rw[v]at e;cases e;exact z
   rw[aE this];exact e
  refine bb ⟨pe F.aU _,?_⟩;refine ih (i+1) _ (upd S d (.dK (putK kvs k E))) (putK kvs k E) (dput es (kD k) vd) _ _ (by omega) f I6.bX ?_ ?_ bF Pk ?_ j ?_ ?_
  ·exact T.keep _ _ _ p λb g o e=>(I6.pin (b,o) (bo _ (bo _ (uw g e)))).1
  ·intro b g;obtain⟨o,e,_⟩:=T.obj _ _ p b g;exact⟨(I6.pin (b,o) (bo _ (bo _ (uw g e)))).2.1,(fo b g).2⟩
  ·exact aV.keep N (λ_ z=>z) _ (aV.put ok rv (rs.same U λ_ z=>z))
  ·exact λb o e z=>N b o (U b o (kp b o e z)) z
  ·intro P y c I' Cs Pl ext;refine Z P y c I' Cs Pl λb o g e=>ext b o g ?_;rw[aE g];exact U b o e
theorem Pm {K:W.Frag}(s:Same H b)(h:SqL K H a c):SqL K b a c:=by
 rcases h with(h|⟨o,h⟩)|h
 ·exact .inl (.inl (s _ _ h))
 ·exact .inl (.inr ⟨o,s _ _ h⟩)
 ·exact .inr h
theorem Pn (es:aY)(k v:D)(a:cI es=true)(h:imm v=true):cI (es++[(k,v)])=true:=by
 unfold cI at *
 rw[List.all_append,a];simp[h]
theorem Po (k v:D)(a:imm v=true)(es:aY)(h:cI es=true):cI (es.map λe=>if eqK e.1 k then(e.1,v)else e)=true:=by
 unfold cI at *
 rw[bx]at *
 intro e b;obtain⟨c,d,rfl⟩:=cf.mp b;split
 ·exact a
 ·exact h c d
theorem Hc:∀(b:List D) es a,imms b=true->cI es=true->iI es b=some a->cI a=true
 | [],es,a,_,h,e=>by cases e;exact h
 |y::b,es,a,c,d,e=>by
  simp only[imms,bt]at c;unfold iI at e;split at e
  case h_2=>cases e
  rename_i k v;split at e
  case isFalse=>cases e
  have f:imm v=true:=by have:=c.1;change(imm k&&(imm v&&true))=true at this;simp only[bt]at this;exact this.2.1
  refine Hc b _ a c.2 ?_ e;unfold dput;split
  ·exact Po k v f es d
  ·exact Pn es k v d f
theorem Pp (hc:X.calm=true):CallR X (.type "dict") (rAgg X.K "dict"):=by
 rintro pins s σ H xs us Q I r ⟨B,x,dx,l,m,d,rfl,rx,e,E,q⟩
 obtain⟨a,vs,rfl,G,rs⟩:=Cq rx e
 have e3:∃c,iI [] m=some c/\d=.dict c:=by
  simp only[aggD,show("dict":String)≠"list" by decide,show("dict":String)≠"tuple" by decide,show("dict":String)≠"sorted" by decide,show("dict":String)≠"sum" by decide,show("dict":String)≠"all" by decide,show("dict":String)≠"any" by decide,if_true,if_false]at E;cases h:iI [] m with
  |none=>rw[h]at E;cases E
  |some es=>rw[h]at E;cases E;simp_all
 obtain⟨c,em,rfl⟩:=e3;have ew:z5s dx=.ok m:=by cases dx<;>first|(cases e;done)|(cases e;rfl)
 obtain⟨u,rfl,rfl⟩:=vals1 r;have p:=I.hok.fresh (ah _);have S:Inv X pins σ (upd H s.heap.objs.size (.dK [])) {s with heap:=s.heap.push {cls:=.type "dict",data:=.dict #[]}}:=I.laid (λ_ _ q=>ak _ q) (ah _) (AX s.heap I.big);refine callType_codes (Q₁:=λobj i=>obj=.ref s.heap.objs.size/\i={s with heap:=s.heap.push {cls:=.type "dict",data:=.dict #[]}}) PySem.F.kt_called_dict (PySem.F.kt_typeCall_dict_1 _) PySem.F.entry_dict_init (kt_code_dict_new _ ⟨rfl,rfl⟩) ?_
 rintro obj i ⟨rfl,rfl⟩
 have j:(⟨s.heap.push {cls:=.type "dict",data:=.dict #[]},s.gens,s.drawn,s.toks,s.os⟩:bc).TypeIs (.ref s.heap.objs.size) "dict":=⟨_,br _ rfl,rfl⟩;refine⟨j,PySem.F.args_dict_init_2 _ _,?_⟩
 delta Builtin.«dict.__init__»
 refine ac ?_
 delta Builtin.Dict.selfAndRest
 refine ac (wpAny_notOrdered_dict j ?_);refine bb ?_;show wpAny _ _ (mu "dict.__init__" s.heap.objs.size (.ref a) [] .none) _ _ _
 delta mu
 have rest:∀k t,(∀b o,(s.heap.push {cls:=.type "dict",data:=.dict #[]}).get? b=some o->k.get? b=some o)->wpAny (model X.prog X.w) X.A.in1.in1 (qm (.ref a)) (λg L=>i9 (model X.prog X.w) X.A.in1 (.builtin "dict.update.loop" ⟨[.ref s.heap.objs.size,g,kt 0,.none],[]⟩) (wants (λr M=>r=.none/\EP X pins σ Q (.ref s.heap.objs.size) M) X.xe) L) (λ_ _=>False) ⟨k,s.gens,s.drawn,t,s.os⟩:=by
  intro k t kp;have I2:Inv (uE X X.A.in1.in1 (λ_ _=>False)) pins σ (upd H s.heap.objs.size (.dK [])) ⟨k,s.gens,s.drawn,t,s.os⟩:=(S.kept kp).uE rfl rfl;refine aI (z37 (tg:=.Name "" default) (R:=λJ v=>Walk X.K J (λa=>B a/\¬nw H a) v m/\v=upd H s.heap.objs.size (.dK [])) I2 (show RelV (.ref a) (.ref a)from rfl) ((Rep.there _ rx).same (Same.upd p) λ_ z=>z) ew λJ U=>⟨U,rfl⟩) λg L zz=>?_;obtain⟨it,fp,tn,J,v,V,I3,T,st,fo,U,eH⟩:=zz;subst V eH;refine zux (X:=uE X X.A.in1.in1 (λ_ _=>False)) hc rfl T U (λz=>z.2 p) m.length 0 L _ [] [] _ _ (by omega) (by omega) I3 st fo bF (ah _) rfl em (λ_ _ e _=>e) ?_;intro s' v N I' W O ext;refine⟨rfl,.ref s.heap.objs.size,v,I'.Cr I.ok,rfl,q _ v (λb o e=>ext b o (bK e p) (aE (bK e p)▸e)) ⟨_,N,rfl,W,.inl p,?_⟩⟩;cases hi:imms m with
  |true=>exact aV.bC c (Hc m [] c hi rfl em) O
  |false=>exact O.same (Same.refl v) λ_ z=>.inr ⟨rfl,z.1⟩
 have hA:=I.ok.hd hc;cases l with
 |true=>obtain⟨Y,_,⟨o,n,P,f,y,C⟩,_⟩:=S.list (Pm (Same.upd p) G);refine ac (k8 ⟨o,P,f⟩ ?_);refine ac (Pb P f C y hA λk t e Z=>?_);refine ac (m7 (ac (ek (rest k t Z.keeps) (λg L D=>?_) λ_ _ z=>z.elim)));exact bb ⟨pe F.aU _,D⟩
 |false=>obtain⟨Y,_,⟨o,n,P,f,y,C⟩,_⟩:=S.sE (cB.rel (Same.upd p) G);refine ac (k8 ⟨o,P,f⟩ ?_);refine ac (Pc P f C y hA λk t e Z=>?_);refine ac (m7 (ac (ek (rest k t Z.keeps) (λg L D=>?_) λ_ _ z=>z.elim)));exact bb ⟨pe F.aU _,D⟩
open PySem.W
def runT {α:Type}(lt:Nat->Nat->Bool):KasT α->α
 |.ret a=>a
 |.ask i j k=>runT lt (k (lt i j))
theorem uF {a b:Type}(lt:Nat->Nat->Bool)(f:a->KasT b):∀t,runT lt (t.bind f)=runT lt (f (runT lt t))
 |.ret _=>rfl
 |.ask i j k=>uF lt f (k (lt i j))
section
variable (key:Nat->Nat)
abbrev ltk:Nat->Nat->Bool:=λi j=>decide (key i<key j)
def Kp' (p:Array Nat)(i:Nat):Nat:=key (p.getD i 0)
variable {key}
theorem wI (h:p[i]?=q[j]?):Kp' key p i=Kp' key q j:=by unfold Kp';rw[ej,ej,h]
theorem wJ (b:j<=p.size)(k:Nat):Kp' key (kas_rev p i j) k=if i<=k/\k<j then Kp' key p (i+j-1-k)else Kp' key p k:=by
 have h:=getElem?_mirror_all (i:=i) b k;split
 ·rename_i a;refine wI ?_;unfold kas_rev;rw[h,rj a]
 ·rename_i a;refine wI ?_;unfold kas_rev;rw[h,rq a]
theorem He (hs:a<p.size)(hd:d<=a)(k:Nat):Kp' key (bubble p a d) k=if k=a-d then Kp' key p a else if a-d<k/\k<=a then Kp' key p (k-1)else Kp' key p k:=by
 have h:=getElem?_bubble hs d hd k;split
 ·rename_i c;exact wI (by rw[h,rj c])
 ·rename_i c;split
  ·rename_i b;exact wI (by rw[h,rq c,rj b])
  ·rename_i b;exact wI (by rw[h,rq c,rq b])
theorem zc (p:Array Nat)(i j:Nat):(kas_rev p i j).size=p.size:=mirror_size _ _ _ _
theorem wK (p:Array Nat)(i j:Nat):(kas_rev p i j).Perm p:=mirror_perm _ _ _ _
theorem z6r (p:Array Nat):∀f n,1<=n->n<=runT (ltk key) (kas_asc p f n)/\runT (ltk key) (kas_asc p f n)<=n+f/\(∀i,n<=i->i<runT (ltk key) (kas_asc p f n)->Kp' key p (i-1)<=Kp' key p i)/\
  (runT (ltk key) (kas_asc p f n)<n+f->Kp' key p (runT (ltk key) (kas_asc p f n))<Kp' key p (runT (ltk key) (kas_asc p f n)-1))
 |0,n,h=>⟨ah _,ah _,λi b a=>absurd (fi b a) (cq _),λa=>absurd a (cq _)⟩
 |f+1,n,h=>by
  have e:runT (ltk key) (kas_asc p (f+1) n)=runT (ltk key) (if decide (Kp' key p n<Kp' key p (n-1))=true then .ret n else kas_asc p f (n+1)):=rfl;rw[e];by_cases c:Kp' key p n<Kp' key p (n-1)
  ·rw[rj (si c)];exact⟨ah _,Nat.le_add_right _ _,λi b a=>absurd (fi b a) (cq _),λ_=>c⟩
  ·rw[rq (by simpa using c)];obtain⟨k,l,d,g⟩:=z6r p f (n+1) (by omega);refine⟨by omega,by omega,λi b a=>?_,λa=>g (by omega)⟩;by_cases j:i=n
   ·subst j;omega
   ·exact d i (by omega) a
structure DPre (key:Nat->Nat)(p:Array Nat)(n q:Nat):Prop where
 one:1<=n
 qn:q+1<=n
 sz:n<=p.size
 de:∀i,1<=i->i<n->Kp' key p i<=Kp' key p (i-1)
 eq:∀i,n<=i+1+q->i<n->Kp' key p i=Kp' key p (n-1)
theorem DPre.rev (h:DPre key p n q)(k:Nat):Kp' key (kas_rev p (n-(q+1)) n) k=Kp' key p k:=by
 rw[wJ h.sz];split
 ·rename_i a;rw[h.eq k (by omega) a.2,h.eq _ (by omega) (by omega)]
 ·rfl
theorem z34:∀f p n q,DPre key p n q->n+f<=p.size->
  DPre key (runT (ltk key) (kas_desc f p n q)).1 (runT (ltk key) (kas_desc f p n q)).2.1 (runT (ltk key) (kas_desc f p n q)).2.2/\(runT (ltk key) (kas_desc f p n q)).1.Perm p/\(runT (ltk key) (kas_desc f p n q)).2.1<=n+f
 |0,p,n,q,h,s=>⟨h,Array.Perm.refl _,ah _⟩
 |f+1,p,n,q,h,s=>by
  have e:runT (ltk key) (kas_desc (f+1) p n q)=runT (ltk key) (if decide (Kp' key p n<Kp' key p (n-1))=true then(if q>0 then kas_desc f (kas_rev p (n-(q+1)) n) (n+1) 0 else kas_desc f p (n+1) 0) else .ask (p.getD (n-1) 0) (p.getD n 0) λd=>if d=true then .ret (p,n,q)else kas_desc f p (n+1) (q+1)):=rfl;rw[e];by_cases m:Kp' key p n<Kp' key p (n-1)
  ·rw[rj (si m)];by_cases o:q>0
   ·rw[rj o]
    have c:DPre key (kas_rev p (n-(q+1)) n) (n+1) 0:=⟨by omega,by omega,by rw[zc];omega,λi a g=>by
     rw[h.rev,h.rev];by_cases b:i=n
     ·subst b;omega
     ·exact h.de i a (by omega),λi a g=>by
     have:i=n:=by omega
     subst this;rfl⟩
    obtain⟨j,k,r⟩:=z34 f _ (n+1) 0 c (by rw[zc];omega);exact⟨j,k.trans (wK _ _ _),by omega⟩
   ·rw[rq o]
    have c:DPre key p (n+1) 0:=⟨by omega,by omega,by omega,λi a g=>by
     by_cases b:i=n
     ·subst b;omega
     ·exact h.de i a (by omega),λi a g=>by
     have:i=n:=by omega
     subst this;rfl⟩
    obtain⟨j,k,r⟩:=z34 f _ (n+1) 0 c (by omega);exact⟨j,k,by omega⟩
  ·rw[rq (by simpa using m)];have t:runT (ltk key) (KasT.ask (p.getD (n-1) 0) (p.getD n 0) λd=>if d=true then .ret (p,n,q)else kas_desc f p (n+1) (q+1))=runT (ltk key) (if decide (Kp' key p (n-1)<Kp' key p n)=true then .ret (p,n,q)else kas_desc f p (n+1) (q+1)):=rfl;rw[t];by_cases l:Kp' key p (n-1)<Kp' key p n
   ·rw[rj (si l)];exact⟨h,Array.Perm.refl _,by show n<=_;omega⟩
   ·rw[rq (by simpa using l)]
    have c:DPre key p (n+1) (q+1):=⟨by omega,by have :=h.qn;omega,by omega,λi a g=>by
     by_cases b:i=n
     ·subst b;omega
     ·exact h.de i a (by omega),λi a g=>by
     by_cases b:i=n
     ·subst b;rfl
     ·have :=h.eq i (by omega) (by omega);rw[Nat.add_sub_cancel];omega⟩
    obtain⟨j,k,r⟩:=z34 f _ (n+1) (q+1) c (by omega);exact⟨j,k,by omega⟩
def Asc (key:Nat->Nat)(p:Array Nat)(m:Nat):Prop:=∀i,1<=i->i<m->Kp' key p (i-1)<=Kp' key p i
theorem z5f (a:1<=n)(hn:n<=nrem)(c:nrem<=p.size)(de:∀i,1<=i->i<n->Kp' key p i<=Kp' key p (i-1)):
  Asc key (runT (ltk key) (kas_tail3 n nrem p)).2 (runT (ltk key) (kas_tail3 n nrem p)).1/\(runT (ltk key) (kas_tail3 n nrem p)).2.Perm p/\1<=(runT (ltk key) (kas_tail3 n nrem p)).1/\(runT (ltk key) (kas_tail3 n nrem p)).1<=nrem:=by
 unfold kas_tail3;rw[uF];obtain⟨a1,a2,a3,_⟩:=z6r (key:=key) (kas_rev p 0 n) (nrem-n) n a;refine⟨λi d b=>?_,wK _ _ _,by show 1<=runT _ _;omega,by show runT _ _<=_;omega⟩;by_cases f:i<n
 ·show Kp' key (kas_rev p 0 n) (i-1)<=Kp' key (kas_rev p 0 n) i;rw[wJ (by omega),wJ (by omega),rj (by omega),rj (by omega)];have:=de (0+n-1-(i-1)) (by omega) (by omega);have e:0+n-1-(i-1)-1=0+n-1-i:=by omega
  rw[e]at this;exact this
 ·exact a3 i (by omega) b
theorem descPart_spec (q:1<=n)(hn:n<nrem)(k:nrem<=p.size)(eq:∀i,i<n->Kp' key p i=Kp' key p (n-1))(lt:Kp' key p n<Kp' key p (n-1)):
  Asc key (runT (ltk key) (kas_descPart n nrem p)).2 (runT (ltk key) (kas_descPart n nrem p)).1/\(runT (ltk key) (kas_descPart n nrem p)).2.Perm p/\1<=(runT (ltk key) (kas_descPart n nrem p)).1/\(runT (ltk key) (kas_descPart n nrem p)).1<=nrem:=by
 unfold kas_descPart;rw[uF]
 have h:DPre key p (n+1) 0:=⟨by omega,by omega,by omega,λi d e=>by
  by_cases m:i=n
  ·subst m;omega
  ·rw[eq i (by omega),eq (i-1) (by omega)];exact ah _,λi d e=>by
  have:i=n:=by omega
  subst this;rfl⟩
 obtain⟨a,c,o⟩:=z34 (nrem-(n+1)) p (n+1) 0 h (by omega);generalize runT (ltk key) (kas_desc (nrem-(n+1)) p (n+1) 0)=r at a c o ⊢;have b:=c.size_eq;by_cases l:r.2.2>0
 ·rw[rj l];obtain⟨t1,f,g,j⟩:=z5f (p:=kas_rev r.1 (r.2.1-(r.2.2+1)) r.2.1) (nrem:=nrem) a.one (by omega) (by rw[zc,b];exact k) λi d e=>by rw[a.rev,a.rev];exact a.de i d e
  exact⟨t1,f.trans ((wK _ _ _).trans c),g,j⟩
 ·rw[rq l];obtain⟨t1,f,g,j⟩:=z5f (nrem:=nrem) a.one (by omega) (b▸k) a.de;exact⟨t1,f.trans c,g,j⟩
theorem Asc.le (h:Asc key p m):∀(d i:Nat),i+d<m->Kp' key p i<=Kp' key p (i+d)
 |0,i,_=>ah _
 |d+1,i,hm=>by have a:=Asc.le h d i (by omega);have b:=h (i+d+1) (by omega) (by omega);exact bq a b
theorem zc6 (r:1<=a)(hz:a<=p.size):
  Asc key (runT (ltk key) (kas_count a p)).2 (runT (ltk key) (kas_count a p)).1/\(runT (ltk key) (kas_count a p)).2.Perm p/\1<=(runT (ltk key) (kas_count a p)).1/\(runT (ltk key) (kas_count a p)).1<=a:=by
 unfold kas_count;rw[uF];obtain⟨a1,a2,a3,a4⟩:=z6r p (a-1) 1 (ah _);generalize runT (ltk key) (kas_asc p (a-1) 1)=n at a1 a2 a3 a4 ⊢;have b:Asc key p n:=a3;by_cases hn:n=a
 ·rw[rj (by simpa using hn)];exact⟨b,Array.Perm.refl _,a1,by show n<=_;omega⟩
 ·rw[rq (by simpa using hn)];have lt:=a4 (by omega);by_cases f:n>1
  ·rw[rj f];have e:runT (ltk key) (KasT.ask (p.getD 0 0) (p.getD (n-1) 0) λc=>if c=true then .ret (n,p)else kas_descPart n a (kas_rev p 0 n))=runT (ltk key) (if decide (Kp' key p 0<Kp' key p (n-1))=true then .ret (n,p)else kas_descPart n a (kas_rev p 0 n)):=rfl;rw[e];by_cases g:Kp' key p 0<Kp' key p (n-1)
   ·rw[rj (si g)];exact⟨b,Array.Perm.refl _,a1,by show n<=_;omega⟩
   ·rw[rq (by simpa using g)]
    have eq:∀i,i<n->Kp' key p i=Kp' key p (n-1):=λi hi=>by
     have h:=b.le i 0 (by omega);have j:=b.le (n-1-i) i (by omega);have k:0+i=i:=by omega
     have l:i+(n-1-i)=n-1:=by omega
     rw[k]at h;rw[l]at j;omega
    have tM:∀i,i<n->Kp' key (kas_rev p 0 n) i=Kp' key p (n-1):=λi hi=>by rw[wJ (by omega),rj (by omega)];exact eq _ (by omega)
    obtain⟨t1,m,o,q⟩:=descPart_spec (p:=kas_rev p 0 n) (nrem:=a) (by omega) (by omega) (by rw[zc];exact hz) (λi hi=>by rw[tM i hi,tM (n-1) (by omega)]) (by rw[tM (n-1) (by omega),wJ (by omega),rq (by omega)];exact lt);exact⟨t1,m.trans (wK _ _ _),o,q⟩
  ·rw[rq f];have d:n=1:=by omega
   subst d
   exact descPart_spec (Nat.le_refl _) (by omega) hz (fun i hi=>by have :i=0:=by omega
                                                                   subst this;rfl) lt
theorem place_spec (b:Asc key p k):∀f l r,r-l<=f->l<=r->r<=k->(∀i,i<l->Kp' key p i<=Kp' key p k)->(∀i,r<=i->i<k->Kp' key p k<Kp' key p i)->
  runT (ltk key) (kas_place p k f l r)<=k/\(∀i,i<runT (ltk key) (kas_place p k f l r)->Kp' key p i<=Kp' key p k)/\(∀i,runT (ltk key) (kas_place p k f l r)<=i->i<k->Kp' key p k<Kp' key p i)
 |0,l,r,hf,q,hr,d,g=>by
  have:l=r:=by omega
  subst this;exact⟨hr,d,g⟩
 |f+1,l,r,hf,q,hr,d,g=>by
  unfold kas_place;by_cases n:l ≥ r
  ·rw[rj n];have:l=r:=by omega
   subst this;exact⟨hr,d,g⟩
  ·rw[rq n];have e:runT (ltk key) (KasT.ask (p.getD k 0) (p.getD ((l+r)/2) 0) λc=>if c=true then kas_place p k f l ((l+r)/2)else kas_place p k f ((l+r)/2+1) r)=runT (ltk key) (if decide (Kp' key p k<Kp' key p ((l+r)/2))=true then kas_place p k f l ((l+r)/2)else kas_place p k f ((l+r)/2+1) r):=rfl;rw[e];have a:l<=(l+r)/2:=by omega
   have h:(l+r)/2<r:=by omega
   generalize (l+r)/2=m at a h ⊢;by_cases o:Kp' key p k<Kp' key p m
   ·rw[rj (si o)];refine place_spec b f l m (by omega) a (by omega) d λi s t=>?_;have:=b.le (i-m) m (by omega);have j:m+(i-m)=i:=by omega
    rw[j]at this;omega
   ·rw[rq (by simpa using o)];refine place_spec b f (m+1) r (by omega) (by omega) hr (λi s=>?_) g;have:=b.le (m-i) i (by omega);have j:i+(m-i)=m:=by omega
    rw[j]at this;omega
theorem Hf:∀f p k,Asc key p k->k+f<=p.size->Asc key (runT (ltk key) (kas_bin f p k)) (k+f)/\(runT (ltk key) (kas_bin f p k)).Perm p
 |0,p,k,a,j=>⟨a,Array.Perm.refl _⟩
 |f+1,p,k,a,j=>by
  unfold kas_bin;rw[uF];obtain⟨m,c,d⟩:=place_spec a k 0 k (by omega) (cz _) (ah _) (λi n=>absurd n (Nat.not_lt_zero _)) λi b g=>absurd (fi b g) (cq _);generalize runT (ltk key) (kas_place p k k 0 k)=l at m c d ⊢
  have o:Asc key (bubble p k (k-l)) (k+1):=λi b g=>by
   have e:k-(k-l)=l:=by omega
   rw[He (by omega) (by omega),He (by omega) (by omega),e];by_cases c1:i=l
   ·rw[rq (by omega),rq (by omega),rj c1];exact c _ (by omega)
   ·rw[rq c1];by_cases c2:i-1=l
    ·rw[rj c2,rj (by omega)];rw[c2];exact gr (d l (ah _) (by omega))
    ·rw[rq c2];by_cases r:l<i
     ·rw[rj (by omega),rj (by omega)];exact a (i-1) (by omega) (by omega)
     ·rw[rq (by omega),rq (by omega)];exact a i b (by omega)
  obtain⟨h,q⟩:=Hf f (bubble p k (k-l)) (k+1) o (by rw[bubble_size];omega);refine⟨?_,q.trans (bubble_perm _ _ _)⟩;have e:k+1+f=k+(f+1):=by omega
  rw[e]at h;exact h
theorem Hg (n:Nat)(c:1<=n):Asc key (runT (ltk key) (kas_sort n)) n/\(runT (ltk key) (kas_sort n)).Perm (ip (bu n)):=by
 unfold kas_sort;rw[uF];have a:(ip (bu n)).size=n:=by simp
 obtain⟨c1,c2,d,f⟩:=zc6 c (by rw[a];exact ah _);generalize runT (ltk key) (kas_count n (ip (bu n)))=r at c1 c2 d f ⊢;have hr:r.2.size=n:=by rw[c2.size_eq,a]
 by_cases h:r.1<n
 ·rw[rj h];have e:max r.1 1=r.1:=by omega
  rw[e];obtain⟨b,g⟩:=Hf (n-r.1) r.2 r.1 c1 (by omega);refine⟨?_,g.trans c2⟩;have e:r.1+(n-r.1)=n:=by omega
  rw[e]at b;exact b
 ·rw[rq h];have e:r.1=n:=by omega
  rw[e]at c1;exact⟨c1,c2⟩
end
theorem Cu {h:Heap}(c:b≠a)(e:h.get? b=some o):(h.update a f).get? b=some o:=by rw[jc _ _ _ _ c];exact e
theorem z7p {a:List Value}(x:s.heap.IsList l a.toArray)(y:a.length<2)
  (h:∀D m n,s.heap.objs.size<=D->(∀b o,s.heap.get? b=some o->m.get? b=some o)->m.get? D=some (jd "list" a.toArray n)->Q (.ref D) {s with heap:=m}):wpAny (model prog w) A (call (.builtin "sorted") [.ref l]) Q E s:=by
 apply Calls.call_function_entry kind_sorted plain_sorted entry_sorted (args_sorted1 _);apply ac;apply bb;apply ac;refine collect_list x ?_ (by rw[ci];omega);apply ac;refine wpAny_newList ?_ (by rw[ci];omega);have u:∀b o,s.heap.get? b=some o->((s.heap.push (jd "list" #[] 0)).update s.heap.objs.size (Obj.mapSeq (· ++a.toArray))).get? b=some o:=λb o e=>Cu (cc (bg e)) (ak _ e);have k:s.heap.objs.size<=((s.heap.push (jd "list" #[] 0)).update s.heap.objs.size (Obj.mapSeq (· ++a.toArray))).objs.size:=by rw[Heap.size_update,size_push'];omega
 generalize ((s.heap.push (jd "list" #[] 0)).update s.heap.objs.size (Obj.mapSeq (·++a.toArray)))=i at u k ⊢;have c:(i.push (jd "list" a.toArray 0)).get? i.objs.size=some (jd "list" a.toArray 0):=br _ rfl;have j:∀b o,s.heap.get? b=some o->b≠i.objs.size/\(i.push (jd "list" a.toArray 0)).get? b=some o:=λb o e=>⟨cc (b8 (bg e) k),ak _ (u b o e)⟩;generalize B:i.objs.size=D at c j k ⊢;generalize i.push (jd "list" a.toArray 0)=f at c j ⊢;apply ac;apply fj;refine j8 slot_list_sort ⟨_,c,rfl⟩ entry_list_sort ?body (args_list_sort _);rw[list_sort_plain];refine ac (listItems_at c rfl ?_);refine ac (listUpdate_at c rfl ?_);obtain⟨p,g⟩:∃p,(f.update D (Obj.mapSeq λ_=>(#[]:Array Value))).get? D=some (jd "list" #[] p):=⟨_,get?_update_seq c λ_=>#[]⟩;have q:∀b o,s.heap.get? b=some o->b≠D/\(f.update D (Obj.mapSeq λ_=>(#[]:Array Value))).get? b=some o:=λb o e=>⟨(j b o e).1,Cu (j b o e).1 (j b o e).2⟩;generalize (f.update D (Obj.mapSeq λ_=>(#[]:Array Value)))=r at g q ⊢;refine ac (seqEpoch_at g rfl ?_);refine ac (wpAny_newTuple ?_ (by rw[ci];simp;omega));apply ac;refine wpAny_newList (fj ?_);have d:((r.push (jd "tuple" a.toArray 0)).push (jd "list" #[] 0)).get? D=some (jd "list" #[] p):=ak _ (ak _ g);have t:∀b o,s.heap.get? b=some o->b≠D/\((r.push (jd "tuple" a.toArray 0)).push (jd "list" #[] 0)).get? b=some o:=λb o e=>⟨(q b o e).1,ak _ (ak _ (q b o e).2)⟩;generalize ((r.push (jd "tuple" a.toArray 0)).push (jd "list" #[] 0))=C at d t ⊢;have v:a.toArray.size<2:=by simpa using y
 rw[rj v,rj v];refine ac (bb ?_);refine ac (bb ?_);refine ac (seqEpoch_at d rfl ?_);have z:(arrOf (SortSt.mk' general' (a.toArray.zip a.toArray) #[] 7 none)).map (·.2)=a.toArray:=by show(a.toArray.zip a.toArray).map (·.2)=a.toArray;simp;exact List.map_snd_zip (ah _)
 rw[z];refine ac (listUpdate_at d rfl ?_);simp only[if_false,Bool.false_eq_true,bne_self_eq_false];refine bb ⟨_,rfl,bb ⟨_,rfl,h D _ _ k (λb o e=>Cu (t b o e).1 (t b o e).2) (get?_update_seq d λ_=>a.toArray)⟩⟩
def dC {α:Type}(n:Nat)(Q:α->Prop):KasT α->Prop
 |.ret a=>Q a
 |.ask i j k=>i<n/\j<n/\∀b,dC n Q (k b)
theorem dC.bind {c d:Type}{Q:c->Prop}{R:d->Prop}{f:c->KasT d}(hf:∀a,Q a->dC n R (f a)):∀{t:KasT c},dC n Q t->dC n R (t.bind f)
 |.ret a,h=>hf a h
 |.ask i j k,h=>⟨h.1,h.2.1,λb=>dC.bind hf (h.2.2 b)⟩
theorem dC.ite [Decidable c] (d:dC n Q a)(e:dC n Q b):dC n Q (if c then a else b):=by
 split
 ·exact d
 ·exact e
def AllIn (n:Nat)(p:Array Nat):Prop:=0<n/\∀x∈p,x<n
theorem AllIn.get (h:AllIn n p)(i:Nat):p.getD i 0<n:=by
 rw[ej];cases e:p[i]? with
 |none=>exact h.1
 |some x=>exact h.2 x (Array.mem_of_getElem? e)
theorem AllIn.perm (h:AllIn n p)(a:q.Perm p):AllIn n q:=⟨h.1,λx b=>h.2 x (a.mem_iff.mp b)⟩
theorem AllIn.rev (h:AllIn n p)(i j:Nat):AllIn n (kas_rev p i j):=h.perm (wK _ _ _)
theorem Cv (h:AllIn n p):∀f m,dC n (λ_=>True) (kas_asc p f m)
 |0,m=>trivial
 |f+1,m=>⟨h.get _,h.get _,λb=>dC.ite trivial (Cv h f (m+1))⟩
theorem zd:∀f p m q,AllIn n p->dC n (λr=>AllIn n r.1) (kas_desc f p m q)
 |0,p,m,q,h=>h
 |f+1,p,m,q,h=>⟨h.get _,h.get _,λb=>dC.ite (dC.ite (zd f _ _ _ (h.rev _ _)) (zd f _ _ _ h)) ⟨h.get _,h.get _,λd=>dC.ite h (zd f _ _ _ h)⟩⟩
theorem Hh (h:AllIn n p):dC n (λr=>AllIn n r.2) (kas_tail3 m r p):=by refine dC.bind (λa _=>?_) (Cv (h.rev _ _) _ _);exact h.rev _ _
theorem Hi (h:AllIn n p):dC n (λr=>AllIn n r.2) (kas_descPart m r p):=dC.bind (λa b=>dC.ite (Hh (AllIn.rev b _ _)) (Hh b)) (zd _ _ _ _ h)
theorem Pq (h:AllIn n p):dC n (λr=>AllIn n r.2) (kas_count r p):=by
 refine dC.bind (λm _=>?_) (Cv h _ _);split
 ·exact h
 ·split
  ·refine⟨h.get _,h.get _,λc=>?_⟩;show dC n _ (if c=true then _ else _);split
   ·exact h
   ·exact Hi (h.rev _ _)
  ·exact Hi h
theorem Cy (h:AllIn n p)(k:Nat):∀f l r,dC n (λ_=>True) (kas_place p k f l r)
 |0,l,r=>trivial
 |f+1,l,r=>by exact dC.ite trivial ⟨h.get _,h.get _,λc=>dC.ite (Cy h k f _ _) (Cy h k f _ _)⟩
theorem Hj:∀f p k,AllIn n p->dC n (λ_=>True) (kas_bin f p k)
 |0,p,k,h=>trivial
 |f+1,p,k,h=>dC.bind (λl _=>Hj f _ _ (h.perm (bubble_perm _ _ _))) (Cy h k _ _ _)
theorem Pr (h:0<n):dC n (λ_=>True) (kas_sort n):=by
 refine dC.bind (λr hr=>?_) (Pq ⟨h,λx a=>by simpa using a⟩);split
 ·exact Hj _ _ _ hr
 ·exact trivial
theorem Hk {c:Type}{P:bc->Prop}(h:∀i j C s,i<n->j<n->P s->(∀b,P b->C (lt i j) b)->cmp i j C s){Q:c->bc->Prop}:∀t s,dC n (λ_=>True) t->P s->(∀b,P b->Q (runT lt t) b)->t.kasWp cmp Q s
 |.ret a,s,_,p,q=>q s p
 |.ask i j k,s,a,p,q=>h i j _ s a.1 a.2.1 p λb d=>Hk h (k (lt i j)) b (a.2.2 _) d q
structure OrdOn (p:D->Prop):Prop where
 rE:∀x,p x->cO x x=false
 tr:∀x y z,p x->p y->p z->cO x y=true->cO y z=true->cO x z=true
 uG:∀x y z,p x->p y->p z->cO x z=true->cO x y=true\/cO y z=true
 uH:∀x y,p x->p y->cO x y=false->cO y x=false->x=y
theorem lD (h:uy x=true):∃i,x=.int i:=by cases x<;>first|(cases h;done)|exact⟨_,rfl⟩
theorem lE (h:yO x=true):∃i,x=.str i:=by cases x<;>first|(cases h;done)|exact⟨_,rfl⟩
theorem wL (a b:Int):cO (.int a) (.int b)=decide (a<b):=rfl
theorem Pt (a b:Str):cO (.str a) (.str b)=decide (a.cps.toList<b.cps.toList):=rfl
theorem wM:OrdOn (λx=>uy x=true) where
 rE:=λx h=>by obtain⟨i,rfl⟩:=lD h;rw[wL];simp
 tr:=λx y z a b c d e=>by obtain⟨i,rfl⟩:=lD a;obtain⟨j,rfl⟩:=lD b;obtain⟨k,rfl⟩:=lD c;rw[wL,decide_eq_true_eq]at *;omega
 uG:=λx y z a b c h=>by
  obtain⟨i,rfl⟩:=lD a;obtain⟨j,rfl⟩:=lD b;obtain⟨k,rfl⟩:=lD c;rw[wL,decide_eq_true_eq]at *
  rw[wL,decide_eq_true_eq];omega
 uH:=λx y a b d e=>by
  obtain⟨i,rfl⟩:=lD a;obtain⟨j,rfl⟩:=lD b;rw[wL,decide_eq_false_iff_not]at *
  rw[show i=j by omega]
theorem Pu {b:Str}(h:a.cps.toList=b.cps.toList):a=b:=by obtain⟨⟨l⟩⟩:=a;obtain⟨⟨m⟩⟩:=b;simp only at h;rw[h]
theorem wN:OrdOn (λx=>yO x=true) where
 rE:=λx h=>by obtain⟨i,rfl⟩:=lE h;rw[Pt];exact strKind.irrefl _
 tr:=λx y z a b c d e=>by obtain⟨i,rfl⟩:=lE a;obtain⟨j,rfl⟩:=lE b;obtain⟨k,rfl⟩:=lE c;exact strKind.trans _ _ _ d e
 uG:=λx y z a b c h=>by obtain⟨i,rfl⟩:=lE a;obtain⟨j,rfl⟩:=lE b;obtain⟨k,rfl⟩:=lE c;exact strKind.negTrans _ _ _ h
 uH:=λx y a b d e=>by obtain⟨i,rfl⟩:=lE a;obtain⟨j,rfl⟩:=lE b;rw[Pu (strKind.total _ _ d e)]
theorem tN (b:Bool):OrdOn (λx=>ofK b x=true):=by
 cases b with
 |true=>exact wM
 |false=>exact wN
theorem Hm (a:ofK b x=true)(c:ofK b y=true):dZ x y=true↔x=y:=by
 cases b with
 |true=>obtain⟨i,rfl⟩:=lD a;obtain⟨j,rfl⟩:=lD c;show(i==j)=true↔_;rw[beq_iff_eq];exact⟨λh=>by rw[h],λh=>by cases h;rfl⟩
 |false=>obtain⟨i,rfl⟩:=lE a;obtain⟨j,rfl⟩:=lE c;show(i==j)=true↔_;rw[beq_iff_eq];exact⟨λh=>by rw[h],λh=>by cases h;rfl⟩
theorem nZ (h:cP (b::bs) a=true):∃x r,a=x::r/\ofK b x=true/\cP bs r=true:=by
 cases a with
 |nil=>cases h
 |cons x r=>simp only[cP,bt]at h;exact⟨x,r,rfl,h.1,h.2⟩
theorem rG (h:cP [] a=true):a=[]:=by
 cases a with
 |nil=>rfl
 |cons x r=>cases h
theorem Cz (x y:D)(a b:List D):bR (x::a) (y::b)=if dZ x y then bR a b else cO x y:=by simp only[bR]
theorem pD (a:ofK b x=true)(c:ofK b y=true)(h:x=y):bR (x::d) (y::e)=bR d e:=by rw[Cz,rj ((Hm a c).mpr h)]
theorem jP (a:ofK b x=true)(c:ofK b y=true)(h:x≠y):bR (x::d) (y::e)=cO x y:=by rw[Cz,rq λz=>h ((Hm a c).mp z)]
theorem Pw:bR [] []=false:=by simp[bR]
theorem Hn:∀bs a,cP bs a=true->bR a a=false
 | [],a,h=>by rw[rG h];exact Pw
 |b::bs,a,h=>by obtain⟨x,r,rfl,c,d⟩:=nZ h;rw[pD c c rfl];exact Hn bs r d
theorem Ho:∀bs f g h,cP bs f=true->cP bs g=true->cP bs h=true->bR f g=true->bR g h=true->bR f h=true
 | [],f,g,h,l,m,n,a,i=>by rw[rG l,rG m]at a;cases a
 |b::bs,f,g,h,l,m,n,a,i=>by
  obtain⟨x,f,rfl,c,l⟩:=nZ l;obtain⟨y,g,rfl,j,m⟩:=nZ m;obtain⟨z,h,rfl,d,n⟩:=nZ n;have O:=tN b;by_cases k:x=y
  ·rw[pD c j k]at a;by_cases e:y=z
   ·rw[pD j d e]at i;rw[pD c d (k.trans e)];exact Ho bs f g h l m n a i
   ·rw[jP j d e]at i;rw[jP c d (k▸e),k];exact i
  ·rw[jP c j k]at a;by_cases e:y=z
   ·rw[jP c d (e▸k),<-e];exact a
   ·rw[jP j d e]at i;have o:=O.tr x y z c j d a i;rw[jP c d (λq=>by subst q;rw[O.rE x c]at o;cases o)];exact o
theorem Hq:∀bs d f g,cP bs d=true->cP bs f=true->cP bs g=true->bR d g=true->bR d f=true\/bR f g=true
 | [],d,f,g,k,m,l,n=>by rw[rG k,rG l]at n;cases n
 |b::bs,d,f,g,k,m,l,e=>by
  obtain⟨x,d,rfl,h,k⟩:=nZ k;obtain⟨y,f,rfl,a,m⟩:=nZ m;obtain⟨z,g,rfl,i,l⟩:=nZ l;have O:=tN b;by_cases j:x=z
  ·rw[pD h i j]at e;by_cases c:x=y
   ·rw[pD h a c,pD a i (c.symm.trans j)];exact Hq bs d f g k m l e
   ·rw[jP h a c,jP a i (λq=>c (j.trans q.symm)),<-j];cases n:cO x y with
    |true=>exact .inl rfl
    |false=>
     cases p:cO y x with
     |true=>exact .inr rfl
     |false=>exact(c (O.uH x y h a n p)).elim
  ·rw[jP h i j]at e;by_cases c:x=y
   ·rw[jP a i (λq=>j (c.trans q)),<-c];exact .inr e
   ·rw[jP h a c];by_cases o:y=z
    ·rw[o];exact .inl e
    ·rw[jP a i o];exact O.uG x y z h a i e
theorem Hr:∀bs a c,cP bs a=true->cP bs c=true->bR a c=false->bR c a=false->a=c
 | [],a,c,e,f,g,h=>by rw[rG e,rG f]
 |b::bs,a,c,e,f,g,h=>by
  obtain⟨x,a,rfl,i,e⟩:=nZ e;obtain⟨y,c,rfl,j,f⟩:=nZ f;by_cases d:x=y
  ·rw[pD i j d]at g;rw[pD j i d.symm]at h;rw[d,Hr bs a c e f g h]
  ·rw[jP i j d]at g;rw[jP j i (λq=>d q.symm)]at h;exact(d ((tN b).uH x y i j g h)).elim
theorem mO (h:zbu bs x=true):∃a,x=.tuple a/\cP bs a=true:=by cases x<;>first|(cases h;done)|exact⟨_,rfl,h⟩
theorem Px (a b:List D):cO (.tuple a) (.tuple b)=bR a b:=rfl
theorem CB (bs:List Bool):OrdOn (λx=>zbu bs x=true) where
 rE:=λx h=>by obtain⟨i,rfl,h⟩:=mO h;rw[Px];exact Hn bs i h
 tr:=λx y z a b c d e=>by obtain⟨i,rfl,a⟩:=mO a;obtain⟨j,rfl,b⟩:=mO b;obtain⟨k,rfl,c⟩:=mO c;exact Ho bs _ _ _ a b c d e
 uG:=λx y z a b c h=>by obtain⟨i,rfl,a⟩:=mO a;obtain⟨j,rfl,b⟩:=mO b;obtain⟨k,rfl,c⟩:=mO c;exact Hq bs _ _ _ a b c h
 uH:=λx y a b d e=>by obtain⟨i,rfl,a⟩:=mO a;obtain⟨j,rfl,b⟩:=mO b;rw[Hr bs _ _ a b d e]
def kI (l:List D):Prop:=l.Pairwise λa b=>cO b a=false
theorem CD (x:D):∀l,(hU x l).Perm (x::l)
 | []=>.refl _
 |y::l=>by
  unfold hU;split
  ·exact((CD x l).cons y).trans (.swap x y l)
  ·exact .refl _
theorem CF:∀l,(lX l).Perm l
 | []=>.refl _
 |x::l=>(CD x (lX l)).trans ((CF l).cons x)
section
variable {p:D->Prop}(O:OrdOn p)
include O
theorem OrdOn.CG (a:p x)(b:p y)(h:cO x y=true):cO y x=false:=by
 cases e:cO y x with
 |false=>rfl
 |true=>have:=O.tr x y x a b a h e;rw[O.rE x a]at this;cases this
theorem Ht (x:D)(c:p x):∀l,(∀y∈l,p y)->kI l->kI (hU x l)
 | [],_,_=>mv _ _
 |y::l,d,hs=>by
  have f:=d y (by simp);have g:∀z∈l,p z:=λz a=>d z (by simp[a]);obtain⟨h,i⟩:=d9.mp hs;unfold hU;split
  ·rename_i b;refine d9.mpr ⟨λz a=>?_,Ht x c l g i⟩;rcases az.mp ((CD x l).mem_iff.mp a)with rfl|a
   ·exact O.CG f c b
   ·exact h z a
  ·rename_i b;refine d9.mpr ⟨λz a=>?_,hs⟩;rcases(az.mp a)with rfl|a
   ·exact by simpa using b
   ·cases e:cO z x with
    |false=>rfl
    |true=>
     rcases O.uG z y x (g z a) f c e with q|q
     ·rw[h z a]at q;cases q
     ·exact(b q).elim
theorem Hu:∀l,(∀y∈l,p y)->kI (lX l)
 | [],_=>List.Pairwise.nil
 |x::l,a=>Ht O x (a x (by simp)) _ (λz b=>a z (by simp[(CF l).mem_iff.mp b])) (Hu l λz b=>a z (by simp[b]))
theorem Hv:∀{a b:List D},(∀y∈a,p y)->a.Perm b->kI a->kI b->a=b
 | [],b,_,c,_,_=>(c.symm.eq_nil).symm
 |x::a,[],_,c,_,_=>by have:=c.length_eq;simp at this
 |x::a,y::b,d,c,h,i=>by
  obtain⟨a1,a2⟩:=d9.mp h;obtain⟨j,k⟩:=d9.mp i;have f:=d x (by simp);have g:=d y (c.mem_iff.mpr (by simp))
  have e:x=y:=by
   refine O.uH x y f g ?_ ?_
   ·rcases az.mp (c.mem_iff.mp (show x∈x::a by simp))with q|q
    ·rw[<-q];exact O.rE x f
    ·exact j x q
   ·rcases az.mp (c.mem_iff.mpr (show y∈y::b by simp))with q|q
    ·rw[<-q];exact O.rE y g
    ·exact a1 y q
  subst e;rw[Hv (λz l=>d z (by simp[l])) (List.perm_cons x |>.mp c) a2 k]
def rank (ds:List D)(i:Nat):Nat:=ds.countP λd=>cO d (ds.getD i .none)
omit O in
theorem Hw {q r:D->Bool}:∀(l:List D),(∀x∈l,q x=true->r x=true)->(∃x∈l,r x=true/\q x=false)->l.countP q<l.countP r
 | [],_,⟨_,h,_⟩=>by simp at h
 |x::l,h,⟨y,hy,h1,h2⟩=>by
  have hl:l.countP q<=l.countP r:=ny λz hz=>h z (by simp[hz]);rcases(az.mp hy)with rfl|hy
  ·rw[List.countP_cons_of_neg (by rw[h2];simp),List.countP_cons_of_pos h1];omega
  ·have :=Hw l (λz hz=>h z (by simp[hz])) ⟨y,hy,h1,h2⟩;rw[List.countP_cons,List.countP_cons];have hx:=h x (by simp);cases e:q x with
   |true=>rw[hx e];simp;exact this
   |false=>simp;split<;>omega
theorem Hx (b:∀d∈a,p d)(g:i<a.length)(k:j<a.length):decide (rank a i<rank a j)=cO (a.getD i .none) (a.getD j .none):=by
 have m:a.getD i .none=a[i]:=by simp[g]
 have n:a.getD j .none=a[j]:=by simp[k]
 have c:=ei g;have l:=ei k;unfold rank;rw[m,n];cases e:cO a[i] a[j]with
 |true=>rw[decide_eq_true_eq];exact Hw a (λx f h=>O.tr x _ _ (b x f) (b _ c) (b _ l) h e) ⟨a[i],c,e,O.rE _ (b _ c)⟩
 |false=>
  rw[decide_eq_false_iff_not]
  have:a.countP (λd=>cO d a[j])<=a.countP λd=>cO d a[i]:=ny λx f h=>by
   rcases O.uG x _ _ (b x f) (b _ c) (b _ l) h with q|q
   ·exact q
   ·rw[e]at q;cases q
  omega
theorem Py (g:∀d∈a,p d)(hn:1<=a.length):(runT (ltk (rank a)) (kas_sort a.length)).toList.map (λi=>a.getD i .none)=lX a:=by
 obtain⟨h,f⟩:=Hg a.length hn;generalize runT (ltk (rank a)) (kas_sort a.length)=q at h f ⊢;have k:q.toList.Perm (bu a.length):=by simpa using f.toList
 have c:q.size=a.length:=by rw[f.size_eq];simp
 have b:(q.toList.map λi=>a.getD i .none).Perm a:=by
  refine(k.map _).trans ?_
  have:(bu a.length).map (λi=>a.getD i .none)=a:=by
   apply List.ext_getElem
   ·simp
   ·intro i h f;simp;rw[ae (by simpa using f)];rfl
  rw[this]
 refine Hv O (λy r=>g y (b.mem_iff.mp r)) (b.trans (CF a).symm) ?_ (Hu O a g);unfold kI;rw[j3,List.pairwise_iff_getElem];intro i j n o s;have l:i<a.length:=by rw[<-c];simpa using n
 have m:j<a.length:=by rw[<-c];simpa using o
 have le:=h.le (j-i) i (by omega);have e:i+(j-i)=j:=by omega
 rw[e]at le;have t:Kp' (rank a) q i=rank a q.toList[i]:=by unfold Kp';rw[ej];simp[c,l]
 have u:Kp' (rank a) q j=rank a q.toList[j]:=by unfold Kp';rw[ej];simp[c,m]
 rw[<-Hx O g (by simpa using k.mem_iff.mp (ei o)) (by simpa using k.mem_iff.mp (ei n)),decide_eq_false_iff_not];omega
end
def rH (b:Bool)(x:D)(u:Value):Prop:=if b then ∃i t,x=.int i/\u=.int i t else ∃z t,x=.str z/\u=.str z t
theorem Hy {K:W.Frag}(a:ofK b x=true)(r:Rep K H B v x)(c:RelV v u):rH b x u:=by
 cases b with
 |true=>obtain⟨i,rfl⟩:=lD a;have e:=r;subst e;obtain⟨t,rfl⟩:=c;exact⟨i,t,rfl,rfl⟩
 |false=>obtain⟨z,rfl⟩:=lE a;have e:=r.1;subst e;obtain⟨t,rfl⟩:=c;exact⟨z,t,rfl,rfl⟩
theorem Pz (a:rH b x u)(c:rH b y v)(q:Q (dZ x y) s):wpAny (model prog w) A (eqBool u v) Q E s:=by
 cases b with
 |true=>obtain⟨i,t,rfl,rfl⟩:=a;obtain⟨j,d,rfl,rfl⟩:=c;exact wpAny_eqBool_int q
 |false=>
  obtain⟨i,t,rfl,rfl⟩:=a;obtain⟨j,d,rfl,rfl⟩:=c;refine wpAny_eqBool_str ?_;have e:dZ (.str i) (.str j)=decide (i=j):=by show(i==j)=decide (i=j);apply jk.mpr;rw[beq_iff_eq,decide_eq_true_eq]
  rw[<-e];exact q
theorem Hz (c:Bool)(a:rH b x u)(d:rH b y v)(q:Q (cO x y) s):wpAny (model prog w) A (oneLt' c u v) Q E s:=by
 cases b with
 |true=>
  obtain⟨i,t,rfl,rfl⟩:=a;obtain⟨j,e,rfl,rfl⟩:=d;cases c with
  |true=>exact oneLt_int q
  |false=>exact kat_one _ _ (PyProof.Rows.lt_int q)
 |false=>
  obtain⟨i,t,rfl,rfl⟩:=a;obtain⟨j,e,rfl,rfl⟩:=d;cases c with
  |true=>exact oneLt_str q
  |false=>exact kat_one _ _ (PyProof.Rows.lt_str q)
def kJ:List Bool->List D->List Value->Prop
 | [],xs,us=>xs=[]/\us=[]
 |b::bs,xs,us=>∃x r u t,xs=x::r/\us=u::t/\ofK b x=true/\rH b x u/\kJ bs r t
theorem CH {K:W.Frag}:∀{bs:List Bool} {d:List D} {f:List V} {g:List Value},cP bs d=true->Reps K H B f d->Vals f g->kJ bs d g
 | [],d,f,g,h,r,i=>by have e:=rG h;subst e;subst r;cases i;exact⟨rfl,rfl⟩
 |b::bs,d,f,g,h,r,i=>by
  obtain⟨x,j,rfl,k,l⟩:=nZ h;obtain⟨v,t,rfl,m,n⟩:=r;cases i with
  |cons a c=>exact⟨x,j,_,_,rfl,rfl,k,Hy k m a,CH l n c⟩
theorem HB:∀{bs:List Bool} {a d:List D} {f g:List Value} i,kJ bs a f->kJ bs d g->Q (bR a d) s->KatLex prog w A b false Q (f.zip g) i s
 | [],a,d,f,g,i,h,j,q=>by obtain⟨rfl,rfl⟩:=h;obtain⟨rfl,rfl⟩:=j;exact q
 |c::bs,a,d,f,g,i,h,j,q=>by
  obtain⟨x,a,u,f,rfl,rfl,m,k,h⟩:=h;obtain⟨y,d,v,g,rfl,rfl,n,l,j⟩:=j;refine kat_cons (Pz k l ?_);rw[Cz]at q;cases e:dZ x y with
  |true=>rw[e]at q;exact kat_yes (HB (i+1) h j q)
  |false=>rw[e]at q;exact kat_no (Hz _ k l q)
theorem CJ:∀{bs:List Bool} {c:List D} {a:List Value},kJ bs c a->a.length=bs.length
 | [],_,_,h=>by rw[h.2];rfl
 |b::bs,_,_,h=>by obtain⟨x,r,u,t,rfl,rfl,_,_,h⟩:=h;rw[bd,bd,CJ h]
theorem z16.some (x:z16 P w H h a o):∃q,h.get? a=some q:=by
 cases o with
 |lst b=>obtain⟨_,_,_,_,e⟩:=x;exact⟨_,e⟩
 |tup b=>obtain⟨_,_,_,_,e⟩:=x;exact⟨_,e⟩
 |dK kvs=>obtain⟨_,_,_,_,o,_,_,e,_⟩:=x;exact⟨_,e⟩
 |dT kvs=>obtain⟨_,_,_,_,o,_,_,e,_⟩:=x;exact⟨_,e⟩
 |set S n=>obtain⟨ob,es,ep,t,e,c⟩:=x;exact⟨_,e⟩
 |ins C dx fs=>obtain⟨d,z,ne,e,_⟩:=x;exact⟨_,e⟩
 |own y=>exact x
 |xd fs=>obtain⟨f,⟨od,es,ep,e,c⟩,r⟩:=x;exact⟨_,e⟩
 |fD ob u=>exact⟨_,x.1⟩
 |lN ps=>exact⟨_,x⟩
 |ext g=>obtain⟨p,⟨o,e⟩,st⟩:=x;exact⟨_,e⟩
theorem _root_.L2.Inv.laidF {D:Addr}(I:Inv X a A H s)(hm:s.heap.Ns X.env.locals m)(d:h.Ns X.env.locals m)
  (kp:∀b u,b≠X.env.locals->s.heap.get? b=some u->h.get? b=some u) (p:s.heap.get? D=none) (new:z16 X.prog X.w (upd H D o) h D o):Inv X a A (upd H D o) {s with heap:=h,toks:=t'}:=by
 have f:H D=none:=by
  cases e:H D with
  |none=>rfl
  |some u=>obtain⟨q,r⟩:=z16.some (I.hok D u e);rw[p]at r;cases r
 refine I.step (ch:=[]) (λ_ z=>nomatch z) (λb q i _ _ e _=>kp b q i e) (λb q i _ _ e _=>⟨q.slots,kp b q i e⟩) (λb q _ e n=>?_) (λb q _ e=>?_) (λb t q=>by rw[aE (bK q f)];exact q) (λb u t q=>by rw[aE (bK q f)];exact q) (λb ps q=>⟨#[],by rw[aE (bK q f),q];simp⟩) (λC j=>?_) (λb u e=>?_) I.bare
 ·rw[aE (λz=>by subst z;rw[p]at e;cases e)];exact n
 ·by_cases g:b=X.env.locals
  ·subst g;obtain⟨B,_,_,k,_⟩:=d;exact⟨B,k⟩
  ·exact⟨q,kp b q g e⟩
 ·rw[j.eq_nsMap,<-hm.eq_nsMap];exact d
 ·by_cases g:b=D
  ·subst g;rw[bF]at e;cases e;exact new
  ·rw[aE g]at e;have x:∀c v,H c=some v->c≠X.env.locals:=λc v y z=>by subst z;rw[I.free]at y;cases y
   refine(I.hok b u e).stay (λc v l q=>kp c v ?_ q) (λc q=>by rw[aE (bK q f)];exact q) λc t q=>by rw[aE (bK q f)];exact q
   rcases l with rfl|l
   ·exact x _ _ e
   ·exact x _ _ l
theorem HE (r:Vals a b):∀(is:List Nat),(∀i∈is,i<a.length)->Vals (is.map λi=>a.getD i .aK) (is.map λi=>b.getD i Value.none)
 | [],_=>.nil
 |i::is,h=>by
  have c:=h i (by simp);obtain⟨u,hu,d⟩:=r.get (i:=i) (x:=a[i]) (by simp[c]);have e:a.getD i .aK=a[i]:=by simp[c]
  have f:b.getD i Value.none=u:=by rw[aa,hu];rfl
  rw[bj,bj,e,f];exact .cons d (HE r is λj g=>h j (by simp[g]))
theorem HF {K:W.Frag}(r:Reps K H B b a):∀(is:List Nat),(∀i∈is,i<a.length)->Reps K H B (is.map λi=>b.getD i .aK) (is.map λi=>a.getD i .none)
 | [],_=>rfl
 |i::is,h=>by
  have c:=h i (by simp);obtain⟨v,e,f⟩:=r.get (i:=i) (d:=a[i]) (by simp[c]);have g:a.getD i .none=a[i]:=by simp[c]
  have k:b.getD i .aK=v:=by rw[aa,e];rfl
  rw[bj,bj,g,k];exact Reps.cons f (HF r is λj l=>h j (by simp[l]))
theorem z2q (O:OrdOn p)(I:Inv X E σ H s)
  (hl:s.heap.IsList a k.toArray) (Y:Vals R k) (rs:Reps X.K H B R f) (h2:2<=f.length) (VS:f.length<64) (S:∀d∈f,p d)
  (ask:∀t,(∀b o,b≠X.env.locals->s.heap.get? b=some o->t.get? b=some o)->wpAny (model X.prog X.w) X.A.in1.in1 (keyKind' k.toArray) (λκ T=>T={s with heap:=t}/\∀i j C,i<f.length->j<f.length->C (cO (f.getD i .none) (f.getD j .none)) {s with heap:=t}->kas_ask X.prog X.w X.A.in1.in1 κ k i j C {s with heap:=t}) (λ_ _=>False) {s with heap:=t})
  (q:∀w U,Same H U->Rep X.K U (λa=>nw H a\/(imms f=false/\B a)) w (.list (lX f))->Q w U):
  wpAny (model X.prog X.w) X.A (call (.builtin "sorted") [.ref a]) (EP X E σ Q) X.xe s:=by
 have l1:=rs.length;have l2:=Y.length;obtain⟨m,F,_⟩:=id I.loc;refine kat_sorted ⟨F,I.bk,bq I.ok.jG I.ok.above⟩ (LB) hl (by omega) (by omega) λD e1 t F' V G=>?_
 have r:∀{h:Heap} {o:Obj},Fr X.base X.env.locals h m->News X.base X.env.locals h ((D,o)::vo X.base s.heap X.env.locals)->∀b o,b≠X.env.locals->s.heap.get? b=some o->h.get? b=some o:=λl n b o hb e=>by
  cases W:X.base.get? b with
  |some u=>have:=I.bk b u W;rw[e]at this;cases this;exact l.keep b _ W
  |none=>exact(n (b,o) (ba _ (E9 hb W e))).1
 have J:=V (D,jd "list" #[] e1) bh
 have hD:s.heap.get? D=none:=by
  cases e:s.heap.get? D with
  |none=>rfl
  |some o=>exact absurd (G (D,o) (E9 J.2.1 J.2.2 e)) (cq _)
 have v:H D=none:=by
  cases e:H D with
  |none=>rfl
  |some u=>obtain⟨q,hq⟩:=z16.some (I.hok D u e);rw[hD]at hq;cases hq
 refine aI (ask t (r F' V)) λκ T zz=>?_;obtain⟨rfl,L⟩:=zz;have el:k.length=f.length:=by omega
 rw[el];refine Hk (lt:=ltk (rank f)) (λi j C T x hj e hC=>?_) (kas_sort f.length) _ (Pr (by omega)) rfl λT e=>?_
 ·subst e;refine L i j C x hj ?_;rw[<-Hx O S x hj];exact hC _ rfl
 ·subst e;refine⟨_,_,F',V,.head (λp S=>cc (G p S)),λh c l n=>?_⟩;have M:=(n _ bh).1;have N:=Py O S (by omega);obtain⟨_,g⟩:=Hg f.length (by omega);generalize runT (ltk (rank f)) (kas_sort f.length)=y at N g M ⊢;have P:∀i∈y.toList,i<f.length:=λi x=>by have:=(g.toList.mem_iff).mp x;simpa using this
  have VT:(y.toList.map λi=>R.getD i .aK).length=f.length:=by have:=g.toList.length_eq;simpa using this
  have new:z16 X.prog X.w (upd H D (.lst (y.toList.map λi=>R.getD i .aK))) h D (.lst (y.toList.map λi=>R.getD i .aK)):=⟨by rw[ci];omega,_,c,HE Y y.toList (λi x=>by rw[l1];exact P i x),M⟩;refine⟨.ref D,_,I.laidF (t':=s.toks) F l.ns (r l n) hD new,rfl,q _ _ (Same.upd v) ?_⟩;rw[<-N];exact tI v (HF (Reps.pC rs) y.toList P) (λ_ z=>z) (.inl v)
section
variable {X:Cx}
theorem HG {K:W.Frag}(rs:Reps K H B f b)(g:Vals f a)(c:i<b.length):∃v,Rep K H B v (b.getD i .none)/\RelV v (a.getD i Value.none)/\a[i]?=some (a.getD i Value.none):=by
 obtain⟨v,h,j⟩:=rs.get (i:=i) (d:=b[i]) (by simp[c]);obtain⟨u,e,k⟩:=g.get h;have l:b.getD i .none=b[i]:=by simp[c]
 have m:a.getD i Value.none=u:=by rw[aa,e];rfl
 rw[l,m];exact⟨v,j,k,e⟩
theorem PB {a:List Value}(h:u∈a):∃i,i<a.length/\a.getD i Value.none=u:=by obtain⟨i,b,e⟩:=oy h;exact⟨i,b,by rw[<-e];simp[b]⟩
theorem ziv {s:bc}(b:Bool)(m:∀d∈c,ofK b d=true)(rs:Reps X.K H B n c)(h:Vals n a)(l:2<=c.length)(g:Heap):
  wpAny (model X.prog X.w) A (keyKind' a.toArray) (λo p=>p={s with heap:=g}/\∀i j C,i<c.length->j<c.length->C (cO (c.getD i .none) (c.getD j .none)) {s with heap:=g}->kas_ask X.prog X.w A o a i j C {s with heap:=g}) (λ_ _=>False) {s with heap:=g}:=by
 have y:a.length=c.length:=by rw[<-h.length,rs.length]
 have sc:∀i,i<c.length->rH b (c.getD i .none) (a.getD i Value.none):=λi f=>by obtain⟨v,q,l,_⟩:=HG rs h f;exact Hy (m _ (by rw[aa,ae f];exact ei f)) q l
 have ty:∀u∈a,Looks (model X.prog X.w) g (qo u) (.type (if b then "int"else "str")):=λu hu=>by
  obtain⟨i,f,rfl⟩:=PB hu;have:=sc i (by omega);cases b with
  |true=>obtain⟨k,t,_,e⟩:=this;rw[e];exact Looks.of_pure rfl
  |false=>obtain⟨k,t,_,e⟩:=this;rw[e];exact Looks.of_pure rfl
 refine kas_kind (by omega) ty (by cases b<;>decide) (by cases b<;>decide) ⟨rfl,λi j C f r x=>?_⟩;exact Hz true (sc i f) (sc j r) x
theorem zr5 (I:Inv X p Q H s)(kp:∀b o,s.heap.get? b=some o->o.cls=.type "tuple"->b≠X.env.locals->h'.get? b=some o)(b:Bool)(bs:List Bool):
  ∀{j:List D} {i:List V} {e:List Value},(∀d∈j,zbu (b::bs) d=true)->Reps X.K H B i j->Vals i e->∃fs,KatTups h' e fs/\fs.length=e.length/\∀f∈fs,∃x,rH b x f
 | [],i,e,_,r,k=>by subst r;cases k;exact⟨[],trivial,rfl,λ_ z=>nomatch z⟩
 |y::j,i,e,q,r,k=>by
  obtain⟨v,t,rfl,C,E⟩:=r;cases k with
  |cons a c=>
   obtain⟨fs,F,G,J⟩:=zr5 I kp b bs (λd hd=>q d (by simp[hd])) E c;obtain⟨R,rfl,hs⟩:=mO (q y (by simp));obtain⟨L,S,rfl,M,l⟩:=C;cases a;obtain⟨N,O,⟨o,w,A,n,hd⟩,_⟩:=I.tuple M;have m:L≠X.env.locals:=by intro z;subst z;obtain⟨_,⟨T,es,ep,g,h,_⟩,_⟩:=id I.loc;rw[w]at g;cases g;rw[hd]at h;cases h
   obtain⟨x,r,u,U,rfl,rfl,_,P,_⟩:=CH hs l O;exact⟨u::fs,KatTups.cons (kp _ _ w A m) A hd (by simp) F,by simp[G],λf hf=>(az.mp hf).elim (λz=>⟨x,by rw[z];exact P⟩) (J f)⟩
theorem zod (I:Inv X E σ H s)(b:Bool)(bs:List Bool)(F:∀d∈c,zbu (b::bs) d=true)(rs:Reps X.K H B O c)(r:Vals O a)(h2:2<=c.length)(kp:∀b o,s.heap.get? b=some o->o.cls=.type "tuple"->b≠X.env.locals->g.get? b=some o):
  wpAny (model X.prog X.w) A (keyKind' a.toArray) (λP Q=>Q={s with heap:=g}/\∀i j C,i<c.length->j<c.length->C (cO (c.getD i .none) (c.getD j .none)) {s with heap:=g}->kas_ask X.prog X.w A P a i j C {s with heap:=g}) (λ_ _=>False) {s with heap:=g}:=by
 have hl:a.length=c.length:=by rw[<-r.length,rs.length]
 obtain⟨fs,R,k2,S⟩:=zr5 I kp b bs F rs r
 have ty:∀u∈fs,Looks (model X.prog X.w) g (qo u) (.type (if b then "int"else "str")):=λu hu=>by
  obtain⟨x,this⟩:=S u hu;cases b with
  |true=>obtain⟨k,t,_,e⟩:=this;rw[e];exact Looks.of_pure rfl
  |false=>obtain⟨k,t,_,e⟩:=this;rw[e];exact Looks.of_pure rfl
 have part:∀i,i<c.length->∃h q o f n,a.getD i Value.none=.ref h/\c.getD i .none=.tuple q/\g.get? h=some o/\o.data=.seq (ip f) n/\kJ (b::bs) q f:=λi l=>by
  obtain⟨v,G,T,_⟩:=HG rs r l;obtain⟨q,ex,hs⟩:=mO (F (c.getD i .none) (by rw[aa,ae l];exact ei l));rw[ex]at G;obtain⟨h,ws,rfl,U,y⟩:=G;obtain⟨f,V,⟨o,J,W,n,hd⟩,_⟩:=I.tuple U;have D:h≠X.env.locals:=by intro z;subst z;obtain⟨_,⟨o',es,ep,m,p,_⟩,_⟩:=id I.loc;rw[J]at m;cases m;rw[hd]at p;cases p
  exact⟨h,q,o,f,n,T,ex,kp _ _ J W D,hd,CH hs y V⟩
 refine kat_kind R (by omega) ty (by cases b<;>decide) ⟨rfl,λi j C l Y L=>?_⟩;obtain⟨ai,xi,oi,ji,ni,e1,e2,e3,e4,M⟩:=part i l;obtain⟨aj,xj,oj,jj,nj,f1,f2,f3,f4,N⟩:=part j Y;show wpAny _ _ (keyLt' _ (a.getD i Value.none) (a.getD j Value.none)) C _ _;rw[e1,f1];refine kat_lt e3 e4 f3 f4 ?_;have ef:decide ((ip ji).size<(ip jj).size)=false:=by rw[bz,bz,CJ M,CJ N];simp
 rw[ef];rw[e2,f2]at L;exact HB 0 M N L
end
theorem zdj (hu:X.A.units+64<cLine)(I:Inv X i σ H s)(r:Vals xs us)(G:xs=[x])(J:Rep X.K H B x dx)(e:z5c dx=.ok (true,f))(l:aggD "sorted" true f=.ok d)
  (q:∀w m,Same H m->Rep X.K m (λa=>nw H a\/(imms f=false/\B a)) w d->Q w m):wpAny (model X.prog X.w) X.A (call (.builtin "sorted") us) (EP X i σ Q) X.xe s:=by
 subst G;obtain⟨a,L,rfl,p,rs⟩:=Cq J e;simp only[aggD,show("sorted":String)≠"list" by decide,show("sorted":String)≠"tuple" by decide,if_true,if_false]at l;split at l
 case isFalse=>cases l
 rename_i E;cases l;simp at E;obtain⟨hs,h⟩:=E;obtain⟨u,rfl,rfl⟩:=vals1 r;obtain⟨j,g,pl,M⟩:=I.list p;have N:j.length=f.length:=by rw[<-g.length,rs.length]
 by_cases t:f.length<2
 ·refine z7p pl.isList (by omega) λD k n F kp O=>?_;have v:=I.hok.fresh F;refine⟨.ref D,_,I.laid (o:=.lst L) (t':=s.toks) kp F ⟨M,j,n,g,O⟩,rfl,q _ _ (Same.upd v) ?_⟩
  have es:lX f=f:=by
   match f,t with
   | [],_=>rfl
   | [y],_=>rfl
   |_::_::_,t=>simp at t;omega
  rw[es];exact tI v (Reps.pC rs) (λ_ z=>z) (.inl v)
 ·have c:2<=f.length:=by omega
  replace hs:=(ku _ _).mp hs;rcases hs with hs|hs
  case inr=>cases hs
  unfold yP at hs;simp at hs;rcases hs with(hs|hs)|hs
  ·exact z2q wM I pl.isList g rs c h hs (λk kp=>ziv true hs rs g c k) q
  ·exact z2q wN I pl.isList g rs c h hs (λk kp=>ziv false hs rs g c k) q
  ·split at hs
   case h_2=>cases hs
   rename_i P _;simp only[bt,bx,qa]at hs;obtain⟨C,hs⟩:=hs;cases P with
   |nil=>cases C
   |cons S T=>exact z2q (CB _) I pl.isList g rs c h hs (λk kp=>zod I _ _ hs rs g c λb o e _ R=>kp b o R e) q
theorem PD (r:KV kvs c){i:Nat}(h:kvs[i]?=some (k,v)):∃u,c[i]?=some (k,u)/\RelV v u:=by
 induction r generalizing i with
 |nil=>simp at h
 |cons a b d=>
  cases i with
  |zero=>cases h;rename_i e _ _;obtain⟨g,f⟩:=e;obtain⟨rfl,a2⟩:=a;exact⟨f,rfl,a2⟩
  |succ i=>exact d h
theorem PF (h:(gA P w).is k u=true):RelV (kV k) u:=by
 rcases nR h with⟨i,t,rfl,rfl⟩|⟨x,t,rfl,rfl⟩
 ·exact⟨t,rfl⟩
 ·exact⟨t,rfl⟩
theorem aV.at {K:W.Frag}:∀{kvs:List (Key×V)} {es:aY} {i:Nat} {k:Key} {v:V},aV K H B kvs es->kvs[i]?=some (k,v)->∃d,es[i]?=some (kD k,d)/\keyOk k/\Rep K H B v d
 |kvs,[],i,k,v,r,e=>by have:kvs=[]:=r;subst this;simp at e
 |kvs,(kd,d)::es,i,k,v,r,e=>by
  obtain⟨c,f,t,rfl,rfl,ok,a,b⟩:=r;cases i with
  |zero=>cases e;exact⟨d,rfl,ok,a⟩
  |succ i=>rw[fv]at e ⊢;exact aV.at b e
theorem PH {K:W.Frag}(ok:keyOk k):Rep K H B (kV k) (kD k):=by
 cases k with
 |inl i=>exact rfl
 |inr x=>exact⟨rfl,ok⟩
theorem _root_.L2.Inv.rJ (I:Inv X pins σ H s)(f:FpOk X pins H a)(new:z16 X.prog X.w (upd H a u) s.heap a u):Inv X pins σ (upd H a u) s:=by
 obtain⟨d,j,r,k,l,o⟩:=f
 exact I.step (ch:=[a]) (fun b g=>by
   have e:b=a:=by simpa using g
   subst e;exact⟨k,j,l,o⟩) (λb q _ _ _ e _=>e) (λb q _ _ _ e _=>⟨q.slots,e⟩) (λb q p _ n=>by rw[aE (λz=>p (by simp[z]))];exact n) (λb q _ e=>⟨q,e⟩)
  (λb i q=>by rw[aE (bK q d)];exact q) (λb v i q=>by rw[aE (bK q d)];exact q) (λb ps q=>⟨#[],by rw[aE (bK q d),q];simp⟩) (λm h=>h) (λb v e=>by
   by_cases g:b=a
   ·subst g;rw[bF]at e;cases e;exact new
   ·rw[aE g]at e;exact(I.hok b v e).stay (λc w _ q=>q) (λc q=>by rw[aE (bK q d)];exact q) λc i q=>by rw[aE (bK q d)];exact q) I.bare
theorem z75:∀(l:List (Addr×List V)) {H:Hp},Inv X pins σ H s->(l.map (·.1)).Nodup->(∀q∈l,FpOk X pins H q.1)->(∀q∈l,q.2.length<=ay/\∃d,Vals q.2 d/\TupN s.heap q.1 d.toArray)->
  ∃H1,Inv X pins σ H1 s/\Same H H1/\(∀q∈l,H1 q.1=some (.tup q.2))/\∀a,a∉l.map (·.1)->H1 a=H a
 | [],H,I,_,_,_=>⟨H,I,Same.refl H,(λq c=>absurd c (by simp)),λ_ _=>rfl⟩
 |(a,e)::l,H,I,nd,hf,g=>by
  rw[bj,dr]at nd;have fa:=hf (a,e) (by simp);obtain⟨H1,i,j,k,h⟩:=z75 l (I.rJ (u:=.tup e) fa (g (a,e) (by simp))) nd.2 (λq c=>by obtain⟨m,r⟩:=hf q (by simp[c]);exact⟨by rw[aE ((λq c z=>nd.1 (cf.mpr ⟨q,c,z⟩)) q c)];exact m,r⟩) λq c=>g q (by simp[c]);refine⟨H1,i,(Same.upd fa.1).trans j,λq c=>?_,λb f=>?_⟩
  ·rcases az.mp c with n|c;subst n
   ·rw[h a nd.1];exact bF
   ·exact k q c
  ·rw[bj,az,not_or]at f;rw[h b f.2,aE f.1]
theorem ze {K:W.Frag}:∀{b:List V} {c:List D},b.length=c.length->(∀(i:Nat) v d,b[i]?=some v->c[i]?=some d->Rep K H B v d)->Reps K H B b c
 | [],[],_,_=>rfl
 |v::b,d::c,a,h=>Reps.cons (h 0 v d rfl rfl) (ze (by simpa using a) λi v d e f=>h (i+1) v d (by simpa using e) (by simpa using f))
 | [],_::_,a,_=>by cases a
 |_::_,[],a,_=>by cases a
theorem HH:∀as:List Addr,Vals (as.map V.ref) (as.map Value.ref)
 | []=>.nil
 |a::as=>.cons rfl (HH as)
theorem PJ (hu:X.A.units+64<cLine):CallR X (.builtin "sorted") (rAgg X.K "sorted"):=by
 rintro a s g H h i Q I r ⟨B,x,dx,l,j,d,c,f,e,b,q⟩
 cases l with
 |true=>exact zdj hu I r c f e b q
 |false=>cases b
theorem zu5 (k:CallR X (.type T) (z8u X.K m))(hm:X.mg x=none)(l:c9 x=some (.type T))(n:PA X (e::A) (tDA X.K fs))(c:((e::A).all fun e=>!isStar e)=true)(o:Gl X x)(hn:x≠"__name__")(f:Wl x):
  PE X (.Call (.Name x p) (e::A) [] B) (tD X.K λy=>fs y>>=λg=>m (g.map (·.2))>>=λd=>.ok (gJ d .al,d)):=by
 refine PE.imp (Bn k hm l n c o hn f) λC H Q r=>?_;obtain⟨y,F,z,i,b,q⟩:=r;obtain⟨g,s,b⟩:=Res.aA b;obtain⟨d,t,b⟩:=Res.aA b;cases b;exact⟨y,F,g,i,s,λD E s1 rs=>⟨_,_,d,rs.jN i.aM,t,λw u v j=>q w u (s1.trans v) (rC j λa h=>h.elim (λz=>(nw.back s1 z).aM i.aM) λz=>z)⟩⟩
theorem PL:CallR X (.type "int") (z8u X.K (kB "int")):=by
 refine CallR.imp (CallR.or Mg OS) λe H Q h=>?_;obtain⟨B,f,d,r,a,q⟩:=h;simp only[kB,show("int":String)≠"len" by decide,show("int":String)≠"max" by decide,if_true,if_false]at a;split at a
 ·rename_i i;cases a;obtain⟨v,rfl,b⟩:=tK r;obtain rfl:v=.int i:=b;exact .inl (.inl ⟨i,rfl,q _ H (Same.refl H) rfl⟩)
 ·rename_i k;cases a;obtain⟨v,rfl,b⟩:=tK r;obtain rfl:v=.bl k:=b;exact .inl (.inr ⟨k,rfl,q _ H (Same.refl H) rfl⟩)
 ·rename_i x;unfold wb at a;split at a
  ·rename_i c;cases a;rw[au]at c;obtain⟨v,rfl,b⟩:=tK r;obtain rfl:v=.str x:=b.1;exact .inr ⟨x,rfl,c.1,sg c.2,q _ H (Same.refl H) rfl⟩
  ·cases a
 ·cases a
theorem zbd (a:s.heap.IsTupleIter b t i)(o:s.heap.IsTuple t items)(p:items[i]?=some x)
  (q:∀f,f.IsTupleIter b t (i+1)->gb b s.heap f->Q x {s with heap:=f}):wpAny (model prog w) A (lr (.ref b)) Q E s:=by
 have ty:=a.typeIs;obtain⟨⟨l,g,h,c⟩,d,r,hd⟩:=a;obtain⟨⟨m,j,k,e⟩,y,tc,n,u⟩:=o;cases r;cases hd;cases tc;cases u;apply ac;refine jt ty F.slot_tuple_iterator_next (j8 F.slot_tuple_iterator_next ty F.entry_tuple_iterator_next ?_ (F.args_tuple_iterator_next_1 _));show wpAny _ _ (field (.ref b) 0>>=_) _ _ _;apply ac;refine gf d rfl rfl ?_;apply ac;refine gf d rfl rfl ?_;apply ac;refine om y rfl ?_;have v:=i3 i
 dsimp only
 rw[v,p];apply ac;refine j4 d rfl (by simp) ?_;refine bb ⟨x,rfl,bb (q _ ⟨_,gj _ d rfl,rfl,?_⟩ (Heap.SameBut.update _ _ _))⟩;rfl
theorem z6i (hh:A.handled=none)(a:s.heap.IsTupleIter it t i)(q:s.heap.IsTuple t items)(r:items[i]?=none)
  (u:∀f e,Heap.ExtBut it s.heap f->(∃o,f.get? e=some o/\o.cls=.type "StopIteration")->E (.ref e) {s with heap:=f}):wpAny (model prog w) A (lr (.ref it)) Q E s:=by
 have ty:=a.typeIs;obtain⟨⟨m,g,h,c⟩,j,v,hd⟩:=a;obtain⟨⟨p,k,l,d⟩,to,tc,n,x⟩:=q;cases v;cases hd;cases tc;cases x;apply ac;refine jt ty F.slot_tuple_iterator_next (j8 F.slot_tuple_iterator_next ty F.entry_tuple_iterator_next ?_ (F.args_tuple_iterator_next_1 _));show wpAny _ _ (field (.ref it) 0>>=_) _ _ _;apply ac;refine gf j rfl rfl ?_;apply ac;refine gf j rfl rfl ?_;apply ac;refine om to rfl ?_
 dsimp only
 rw[i3 i,r];apply ac;refine m7 ?_;apply ac;refine j4 j rfl (by simp) ?_
 delta Builtin.SmallTypes.stopIteration
 repeat (any_goals (first|assumption|wp_step))
 refine oz hh (u _ _ (λb o y e=>?_) ⟨_,br _ rfl,rfl⟩);refine ak _ (ak _ ?_);rw[jc _ _ _ _ y];exact e
theorem PM (hh:A.handled=none)(b t:Addr)(d:t≠b)(items:Array Value):Draws prog w A b [b,t] items.size (λi v=>items[i]?=some v) (λi h=>h.IsTupleIter b t i/\h.IsTuple t items) where
 live:=λi h st=>let⟨⟨o,e,_⟩,_⟩:=st;⟨o,e⟩
 frame:=λi h g st k=>by obtain⟨⟨o,e,r⟩,c,a,f⟩:=st;exact⟨⟨o,k b (by simp) o e,r⟩,c,k t (by simp) c a,f⟩
 item:=λi s1 p q u st l=>by refine zbd st.1 st.2 (ls u) λg m j=>?_;obtain⟨c,a,f⟩:=st.2;exact l _ g s1.toks (ls u) ⟨m,c,j.extBut t c d a,f⟩ j
 done:=λs Q E st n=>z6i hh st.1 st.2 (Array.getElem?_eq_none (ah _)) n
def IsB (h:Heap)(l:Bool)(a:Addr)(xs:Array Value):Prop:=match l with
 |true=>h.IsList a xs
 |false=>h.IsTuple a xs
def mP (h:Heap)(l:Bool)(it a:Addr)(i:Nat):Prop:=match l with
 |true=>h.IsListIter it a i
 |false=>h.IsTupleIter it a i
def rK (K:W.Frag)(H:Hp)(l:Bool)(a:Addr)(vs:List V):Prop:=match l with
 |true=>SqL K H a vs
 |false=>cB K H a vs
def uI (K:W.Frag)(H:Hp)(B:Ad->Prop)(l:Bool)(a:Addr)(vs:List V):Prop:=match l with
 |true=>(H a=some (.lst vs)/\B (some a))\/(FL K H a vs/\B none)
 |false=>cB K H a vs
abbrev eF (l:Bool)(a:Addr):Obj:={cls:=.type (if l then "list_iterator"else "tuple_iterator"),data:=.fields #[.ref a,.int 0 0]}
theorem uI.keep {K:W.Frag}(h:uI K H B l a d)(k:Kp B H c):rK K c l a d:=by
 cases l with
 |true=>
  rcases h with⟨h,b⟩|⟨⟨o,h⟩|h,_⟩
  ·exact .inl (.inl (k a _ h (.inl b)))
  ·exact .inl (.inr ⟨o,k a _ h (.inr True.intro)⟩)
  ·exact .inr h
 |false=>exact cB.keep k h
theorem uI.of {K:W.Frag}(r:Rep K H B v d)(e:seqR d=.ok xs):∃l a c,v=.ref a/\uI K H B l a c/\Reps K H B c xs/\xs.length<=aS:=by
 cases d<;>try (exact(dW e).elim)
 case list ds=>
  have e:(if decide (ds.length<=aS)=true then Res.ok ds else Res.no)=Res.ok xs:=e;split at e
  ·rename_i b;cases e;obtain⟨a,c,rfl,h,rs⟩:=r;exact⟨true,a,c,rfl,h,rs,sg b⟩
  ·cases e
 case tuple ds=>
  have e:(if decide (ds.length<=aS)=true then Res.ok ds else Res.no)=Res.ok xs:=e;split at e
  ·rename_i b;cases e;obtain⟨a,c,rfl,h,rs⟩:=r;exact⟨false,a,c,rfl,h,rs,sg b⟩
  ·cases e
theorem rK.items (I:Inv X d f H s)(h:rK X.K H l a e):∃b:List Value,Vals e b/\IsB s.heap l a b.toArray/\e.length=b.length:=by
 cases l with
 |true=>obtain⟨b,c,p,_⟩:=I.list h;exact⟨b,c,p.isList,c.length⟩
 |false=>obtain⟨b,c,p,_⟩:=I.tuple h;exact⟨b,c,p,c.length⟩
theorem HI (hh:A.handled=none)(l:Bool)(b a:Addr)(c:a≠b)(items:Array Value):Draws prog w A b [b,a] items.size (λi v=>items[i]?=some v) (λi h=>mP h l b a i/\IsB h l a items):=by
 cases l with
 |true=>exact Draws.list hh b a c items
 |false=>exact PM hh b a c items
theorem mP.live (x:mP h l b a i):∃o,h.get? b=some o/\∀v,o.data≠.cell v:=by cases l<;>(obtain⟨o,c,_,hd⟩:=x;exact⟨o,c,λv z=>by rw[hd]at z;cases z⟩)
theorem mP.keep (x:mP h l b a i)(k:∀o,h.get? b=some o->c.get? b=some o):mP c l b a i:=by cases l<;>(obtain⟨o,d,r⟩:=x;exact⟨o,k o d,r⟩)
theorem mP.new (x:h.get? b=some (eF l a)):mP h l b a 0:=by cases l<;>exact⟨_,x,rfl,rfl⟩
theorem IsB.lt (x:IsB h l a c):a<h.objs.size:=by cases l<;>(obtain⟨o,b,_⟩:=x;exact bg b)
theorem HJ (h:IsB s.heap l a c)(b:Q (.ref s.heap.objs.size) {s with heap:=s.heap.push (eF l a)}):wpAny (model prog w) A (qm (.ref a)) Q E s:=by
 cases l with
 |true=>exact lu h b
 |false=>exact lh h b
theorem _root_.L2.Inv.turnedTL {h:List Addr}(I:Inv X r t H s)(f:∀b∈h,FpOk X r H b)(keep:∀b q,b∉h->s.heap.get? b=some q->i.get? b=some q)(j:s.heap.objs.size<=p)
  (new:z16 X.prog X.w (upd H p (.tup xs)) i p (.tup xs)):Inv X r t (upd H p (.tup xs)) {s with heap:=i,toks:=t'}:=by
 have hn:=I.hok.fresh j;have d:∀b u,H b=some u->b∉h:=λb u k z=>by rw[(f b z).1]at k;cases k
 have loc:=λz=>(f _ z).2.1 rfl;refine I.step (λb g=>?_) (λb q _ _ a e _=>keep b q a e) (λb q _ _ a e _=>⟨q.slots,keep b q a e⟩) (λb q _ e n=>by rw[aE (cc (b8 (bg e) j))];exact n) (λb q a e=>⟨q,keep b q a e⟩) (λb xs q=>by rw[aE (bK q hn)];exact q) (λb u xs q=>by rw[aE (bK q hn)];exact q) (λb ps q=>⟨#[],by rw[aE (bK q hn),q];simp⟩) (λm hm=>?_) (λb u e=>?_) I.bare
 ·obtain⟨f0,f1,f2,f3,l,o⟩:=f b g;exact⟨f3,f1,l,o⟩
 ·exact hm.at λq e=>keep _ q loc e
 ·by_cases g:b=p
  ·subst g;rw[bF]at e;cases e;exact new
  ·rw[aE g]at e;refine(I.hok b u e).stay (λc v a q=>keep c v ?_ q) (λc q=>by rw[aE (bK q hn)];exact q) λc xs q=>by rw[aE (bK q hn)];exact q
   rcases a with rfl|a
   ·exact d _ _ e
   ·exact d _ _ a
theorem _root_.L2.Inv.pE {g:List Addr}(I:Inv X p r H s)(f:∀b∈g,FpOk X p H b)(keep:∀b q,b∉g->s.heap.get? b=some q->j.get? b=some q):Inv X p r H {s with heap:=j,toks:=t'}:=by
 have d:∀b u,H b=some u->b∉g:=λb u h z=>by rw[(f b z).1]at h;cases h
 have loc:=λz=>(f _ z).2.1 rfl;refine I.step (λb k=>?_) (λb q _ _ a e _=>keep b q a e) (λb q _ _ a e _=>⟨q.slots,keep b q a e⟩) (λb q _ e n=>n) (λb q a e=>⟨q,keep b q a e⟩) (λb i q=>q) (λb u i q=>q) (λb ps q=>⟨#[],by rw[q];simp⟩) (λm hm=>?_) (λb u e=>?_) I.bare
 ·obtain⟨f0,f1,f2,f3,l,o⟩:=f b k;exact⟨f3,f1,l,o⟩
 ·exact hm.at λq e=>keep _ q loc e
 ·refine(I.hok b u e).stay (λc v a q=>keep c v ?_ q) (λc q=>q) λc i q=>q;rcases a with rfl|a
  ·exact d _ _ e
  ·exact d _ _ a
theorem PN (d:Vals g a)(h:i<g.length)(e:a.toArray[i]?=some x):∃v,g[i]?=some v/\RelV v x:=by
 refine⟨g[i],ae h,?_⟩;obtain⟨u,c,f⟩:=d.get (ae h);have b:a[i]?=some x:=by simpa using e
 rw[b]at c;cases c;exact f
def CK (K:W.Frag)(l:Bool)(t:Addr)(vs:List V):It:=⟨λi H=>rK K H l t vs/\i<vs.length,λi H x H'=>∃p v,vs[i]?=some v/\H p=none/\x=.ref p/\H'=upd H p (.tup [.int i,v]),λi H=>rK K H l t vs/\i=vs.length⟩
theorem zda {K:W.Frag}(Y:t≠d)(Z:t≠e)(C:e≠d):
  Turn P w K (.Tuple n x1 pos) (CK K l t vs) [e,d] e (λi h=>(∃old,IsEnum h e d i old)/\mP h l d t i) where
 mem:=by simp
 obj:=λi h st b c=>by
  obtain⟨⟨old,g⟩,a⟩:=st;rcases(az.mp c)with rfl|c
  ·exact⟨_,g,λv z=>by cases z⟩
  ·obtain rfl:b=d:=by simpa using c
   exact a.live
 keep:=λi h J st k=>by obtain⟨⟨old,g⟩,a⟩:=st;exact⟨⟨old,k e (by simp) _ g⟩,a.keep λo=>k d (by simp) o⟩
 item:=by
  intro X L M N O i pins s σ H E I hf st Q;subst L M N;obtain⟨R,hi⟩:=Q;obtain⟨⟨old,g⟩,a⟩:=st;obtain⟨f,rv,p,hl⟩:=rK.items I R;have S:X.A.in1.handled=none:=I.ok.hd O;have D:=HI (prog:=X.prog) (w:=X.w) S l d t Y f.toArray;have W:=WalksT.enumerateD D e C (by simp[C,Ne.symm Z]) (by simp);obtain⟨oi,T,_⟩:=a.live;refine wpAny_pyNext_enum_itemD D g ⟨a,p⟩ (by grind) C (by simp[C,Ne.symm Z]) λx J F hx r U u VU kp=>⟨_,rfl,?_⟩;have G:s.heap.objs.size≠e/\s.heap.objs.size≠d:=⟨λz=>cq _ (z▸bg g),λz=>cq _ (z▸bg T)⟩;refine W.go n x1 pos i s.heap.objs.size {s with heap:=J,toks:=F+1} _ _ ⟨⟨x,r⟩,U,G.1,G.2⟩ λVW j y=>?_;have B:s.heap.objs.size∉ [e,d]:=by simp[G.1,G.2]
  have m:=y s.heap.objs.size _ B u;have V:=I.hok.fresh (ah _);obtain⟨v,hv,rx⟩:=PN rv hi hx;have I1:=I.turnedTL (t':=F+1) (xs:=[.int i,v]) hf (λb q c z=>y b q c (kp b q (λz=>c (by simp[z])) (λz=>c (by simp[z])) z)) (ah _) ⟨by rw[ci];simp,[.int i F,x],.cons ⟨F,rfl⟩ (.cons rx .nil),0,m⟩;refine⟨.ref s.heap.objs.size,_,I1,rfl,⟨_,v,hv,V,rfl,rfl⟩,⟨j.1,j.2.1⟩,λb c=>?_⟩;rw[aE λz:b=s.heap.objs.size=>B (z▸c)];exact(hf b c).1
 done:=by intro X L M N O i pins s σ H E I hf st Q;subst L M N;obtain⟨R,hi⟩:=Q;obtain⟨⟨old,g⟩,a⟩:=st;obtain⟨f,rv,p,hl⟩:=rK.items I R;have S:X.A.in1.handled=none:=I.ok.hd O;have D:=HI (prog:=X.prog) (w:=X.w) S l d t Y f.toArray;have St:mP s.heap l d t f.toArray.size/\IsB s.heap l t f.toArray:=⟨by rw[bz,<-hl,<-hi];exact a,p⟩;exact wpAny_pyNext_enum_endD D g St λJ eb=>⟨rfl,I.pE hf λb o c z=>eb b o (λq=>c (by simp[q])) z⟩
 self:=λ_ _ _ _ _ st h=>by obtain⟨⟨old,g⟩,_⟩:=st;exact qe g h
theorem CL:∀a (k i:Nat),(z2d k a)[i]?=(a[i]?).map λx=>.tuple [.int ((k+i:Nat):Int),x]
 | [],k,i=>by simp[z2d]
 |x::a,k,0=>by simp[z2d]
 |x::a,k,i+1=>by
  rw[z2d,fv,fv,CL a (k+1) i];have:k+1+i=k+(i+1):=by omega
  rw[this]
theorem zf:∀a k,(z2d k a).length=a.length
 | [],_=>rfl
 |x::a,k=>by rw[z2d,bd,bd,zf a]
theorem PQ {K:W.Frag}(b:uI K H B l t u)(rs:Reps K H B u c)(m:c.length<=ay):Walk K (CK K l t u) B H (z2d 0 c):=by
 have n:=rs.length;constructor
 ·rw[zf];exact m
 ·intro g kp i h;rw[zf]at h;exact⟨b.keep kp,by omega⟩
 ·intro g kp;exact⟨b.keep kp,by rw[zf];exact n.symm⟩
 ·intro g kp i x s h y;obtain⟨p,v,o,j,rfl,rfl⟩:=y;obtain⟨d,hd,r⟩:=Reps.oV rs o;refine⟨Same.upd j,.tuple [.int i,d],by rw[CL,hd];simp,p,[.int i,v],rfl,cB.of bF,?_⟩;refine Reps.cons rfl (Reps.cons ?_ rfl);exact Rep.keep (λa q e f=>by have k:=kp a q e f;rw[aE (bK k j)];exact k) (λ_ z=>z) d r
theorem zbb (l:Bool)(t:Addr)(items:Array Value):Meets (Builtin.«enumerate.__new__» {pos:=[.type "enumerate",.ref t]}) fun _ R s=>
  IsB s.heap l t items/\R (.ok (.ret (.ref (s.heap.push (eF l t)).objs.size))) {s with heap:=(s.heap.push (eF l t)).push {cls:=.type "enumerate",data:=.fields #[.none,.bool false,.ref s.heap.objs.size,kt 0,.none,.none]}}:=by
 rintro prog w A R s ⟨a,c⟩
 have sub:=sub_enumerate
 delta Builtin.«enumerate.__new__»
 repeat (any_goals (first|assumption|(apply HJ a)|wp_step))
 refine wpAny_stack λst _ _ _=>?_;refine ek (Q:=λ_ s'=>s'=s) (bb rfl) (λb s' hs=>?_) λ_ _ x=>x;subst hs;cases b
 all_goals repeat (any_goals (first|assumption|(apply HJ a)|wp_step))
 all_goals exact c
theorem zg6 (a:IsB s.heap l t items)
  (b:Q (.ref (s.heap.push (eF l t)).objs.size) {s with heap:=(s.heap.push (eF l t)).push {cls:=.type "enumerate",data:=.fields #[.none,.bool false,.ref s.heap.objs.size,kt 0,.none,.none]}}):wpAny (model prog w) A (call (.type "enumerate") [.ref t]) Q E s:=by
 refine callType_new F.called_enumerate dc (F.typeCall_enumerate_1 _) (F.newCall_enumerate_1 _) (λobj=>?_) F.entry_enumerate_new (zbb l t items) ⟨a,⟨_,br _ rfl,rfl⟩,b⟩;exact F.args_object_init_2 _ _
theorem z56 (h:Inv X M O N s1)(u:RelV y v)(x:Rep X.K N B y d)(e:seqR d=.ok z)(q:∀J,Walk X.K J B N (z2d 0 z)->R J N):
  wpAny (model X.prog X.w) X.A (call (.type "enumerate") [v]) (λC D=>wpAny (model X.prog X.w) X.A (qm C) (ur X M O (.Tuple n L tp) R) X.xe D) X.xe s1:=by
 obtain⟨l,t,E,rfl,p,i,F⟩:=uI.of x e;cases u;obtain⟨G,H,pt,_⟩:=rK.items h (p.keep (Kp.of (Same.refl N)));refine zg6 pt ?_;generalize j:s1.heap.push (eF l t)=f;have g:f.objs.size=s1.heap.objs.size+1:=j▸size_push' _ _;have k:Inv X M O N {s1 with heap:=f}:=h.kept λb o e=>j▸ak _ e;generalize a:f.push {cls:=.type "enumerate",data:=.fields #[.none,.bool false,.ref s1.heap.objs.size,kt 0,.none,.none]}=c;have I:Inv X M O N {s1 with heap:=c}:=k.kept λb o e=>a▸ak _ e;have r:c.get? f.objs.size=some {cls:=.type "enumerate",data:=.fields #[.none,.bool false,.ref s1.heap.objs.size,kt 0,.none,.none]}:=a▸br _ rfl;have g2:c.get? s1.heap.objs.size=some (eF l t):=by rw[<-a];refine ak _ ?_;rw[<-j];exact br _ rfl
 have s:=pt.lt;refine qe r ?_;refine⟨f.objs.size,[f.objs.size,s1.heap.objs.size],_,CK X.K l t E,N,rfl,I,zda (cc s) (cc (k7 s (g▸g7 _))) (g▸Nat.succ_ne_self _),⟨⟨.none,r⟩,mP.new g2⟩,λb m=>?_,q _ (PQ p i (mG F))⟩;rcases(az.mp m)with rfl|m
 ·exact k.gG (ah _) (k.hok.fresh (ah _))
 ·obtain rfl:b=s1.heap.objs.size:=by simpa using m
  exact h.gG (ah _) (h.hok.fresh (ah _))
theorem CM:c9 "enumerate"=some (.type "enumerate"):=by decide+kernel
theorem HK (hs:isStar a=false)(b:PE X a (tD X.K fa)):PA X [a] (tDA X.K λg=>fa g>>=λx=>.ok [x]):=by refine PA.imp (GX hs b GW) λh H Q ⟨g,F,z,c,e,q⟩=>⟨g,F,z,c,?_,q⟩;obtain⟨x,d,e⟩:=Res.aA e;show(fa g>>=λx=>Res.ok []>>=λf=>Res.ok (x::f))=_;rw[d];exact e
theorem PR {fs:Rho->Res GD}(h:(fs ρ>>=λx=>Res.ok [x])=.ok a):∃x,fs ρ=.ok x/\a=[x]:=by obtain⟨x,e,h⟩:=Res.aA h;cases h;exact⟨x,e,rfl⟩
theorem PU {K:W.Frag}(b:StOk K F H m n)(i:yT x=true)(e:seqR x.2=.ok j)(f:Rep K k (BG F H x.1) v x.2):∃B,Rep K k B v x.2/\(∀a,B (some a)->F.O a=none)/\∀a,B a->BI F .al a:=by
 obtain⟨g,d⟩:=x;cases d<;>try (exact(dW e).elim)
 case list ds=>
  have c:g≠.al:=λz=>by subst z;cases i
  exact⟨_,f,λa h=>Cm b c h,λa h=>BI.of b.aM (BG.aM b.aM h)⟩
 case tuple ds=>
  rcases dz.mp i with c|l
  ·have c:g≠ .al:=λz=>by subst z;cases c
   exact⟨_,f,λa h=>Cm b c h,λa h=>BI.of b.aM (BG.aM b.aM h)⟩
  ·exact⟨λ_=>False,Rep.bC _ l f,λ_ h=>h.elim,λ_ h=>h.elim⟩
theorem PV (hm:X.mg "enumerate"=none)(g:Gl X "enumerate")(hs:isStar a=false)(i:PE X a (tD X.K fa)):PI X (.Tuple b y tp) (.Call (.Name "enumerate" p) [a] [] pos) (tDW X.K λC=>fa C>>=λx=>seqR x.2>>=λd=>.ok (.al,z2d 0 d)):=by
 intro A s E H R I h;obtain⟨C,F,w,f,e,q⟩:=h;obtain⟨x,j,e⟩:=Res.aA e;obtain⟨d,k,e⟩:=Res.aA e;cases e;refine Call_ (z2l I g hm CM (PyProof.Rows.callWith_type1 (aI (HK hs i pos A s E H (λD B=>Same H B/\eP X.K F H B D [x]) I ⟨C,F,[x],f,by show(fa C>>=λx=>Res.ok [x])=_;rw[j];rfl,λD B s1 rs=>⟨s1,rs⟩⟩) ?_) (fE hs) rfl))
 rintro G s1 ⟨D,B,l,m,n,rs⟩
 obtain⟨v,rfl,o⟩:=rs.one;obtain⟨u,rfl,r⟩:=vals1 m;exact z56 l r (Rep.there _ o) k λJ t=>q J _ B n (λc z=>⟨BG.aM f.aM z.1,z.2⟩) t
theorem PX (hm:X.mg "enumerate"=none)(j:Gl X "enumerate")(hs:isStar a=false)(k:PE X a (tD X.K fa)):PI X (.Tuple d E tp) (.Call (.Name "enumerate" p) [a] [] O) (tDF X.K λL=>(fa L>>=λx=>.ok [x])>>=λf=>oU f L):=by
 intro M s Q H R I h;obtain⟨L,F,w,b,e,q⟩:=h;obtain⟨f,l,e⟩:=Res.aA e;obtain⟨x,m,rfl⟩:=PR l;have e:(if yT x=true then(seqR x.2>>=λg=>Res.ok (G.al,z2d 0 g,L))else Res.no)=Res.ok w:=e;split at e
 case isFalse=>cases e
 rename_i n;obtain⟨g,i,e⟩:=Res.aA e;cases e;refine Call_ (z2l I j hm CM (PyProof.Rows.callWith_type1 (aI (HK hs k O M s Q H (λP N=>Same H N/\eP X.K F H N P [x]) I ⟨L,F,[x],b,by show(fa L>>=λx=>Res.ok [x])=_;rw[m];rfl,λP N s1 rs=>⟨s1,rs⟩⟩) λS s1 ⟨P,N,o,r,c,rs⟩=>?_) (fE hs) rfl));obtain⟨v,rfl,t⟩:=rs.one;obtain⟨u,rfl,y⟩:=vals1 r;obtain⟨B,z,A,C⟩:=PU b n i t;exact z56 o y z i λJ D=>q J B N F c Run.refl (cQ.same c) (b.same c) A C D
abbrev rL:List Value:=[.type "ValueError",.type "Exception",.type "BaseException",.type "object"]
def fU (K:W.Frag)(C:Addr):Bool:=match K.lookup C with
 |some ⟨.type "type",_,.cls cd,sl⟩=>(match cd.mro,sl.toList with
  |.ref D::bm,[_,_,_,_,some (.builtin n),_]=>(D==C)&&(n=="ValueError.__new__")&& !cd.hasDel&&W.tailIn K rL bm&&W.nsOkIn K cd.ns
  |_,_=>false)
 |_=>false
def HL (K:W.Frag)(C:Addr):Bool:=match K.lookup C with
 |some ⟨_,_,.cls c,_⟩=>W.nsIn K c.ns "__init__"==some none
 |_=>false
abbrev exV (K:W.Frag)(C:Addr):Bool:=fU K C&&HL K C
def XC (C:Addr)(h:Heap)(bm:List Value):Prop:=∃N nm q bs hdct sn sub ab col dd k0 k1 k2 k3 k5 mN,h.get? C=some (lx nm q C N bs bm hdct sn sub ab col dd k0 k1 k2 k3 k5 "ValueError.__new__")/\h.Ns N mN/\oq h rL bm
def CN (C:Addr)(h:Heap)(bm:List Value):Prop:=∃N nm q bs hdct sn sub ab col dd k0 k1 k2 k3 k5 mN,h.get? C=some (lx nm q C N bs bm hdct sn sub ab col dd k0 k1 k2 k3 k5 "ValueError.__new__")/\h.Ns N mN/\mN "__init__"=none/\oq h rL bm
theorem wO:(a&&b)=true->a=true/\b=true:=au.mp
theorem zg {K:W.Frag}{C:Addr}(q:exV K C=true):fU K C=true/\∀a cd sl,K.lookup C=some ⟨.type "type",a,.cls cd,sl⟩->W.nsIn K cd.ns "__init__"=some none:=by obtain⟨a,b⟩:=wO q;refine⟨a,λd c g e=>?_⟩;unfold HL at b;rw[e]at b;exact sj b
theorem uJ {K:W.Frag}{C:Addr}(q:fU K C=true):∃r cd p s t u v w,K.lookup C=some ⟨.type "type",r,.cls cd,#[s,t,u,v,some (.builtin "ValueError.__new__"),w]⟩/\cd.mro=.ref C::p/\cd.hasDel=false/\W.tailIn K rL p=true/\W.nsOkIn K cd.ns=true:=by
 unfold fU at q;split at q
 ·rename_i r cd sl g;split at q
  ·rename_i A p a b c d n e hm hs;obtain⟨q,h⟩:=wO q;obtain⟨q,i⟩:=wO q;obtain⟨q,f⟩:=wO q;obtain⟨j,k⟩:=wO q;have l:=sj j;have m:=sj k;have o:sl=#[a,b,c,d,some (.builtin n),e]:=Array.toList_inj.mp (by rw[hs]);refine⟨r,cd,p,a,b,c,d,e,?_,?_,?_,i,h⟩
   ·rw[g,o,m]
   ·rw[hm,l]
   ·cases hd:cd.hasDel with
    |false=>rfl
    |true=>rw[hd]at f;cases f
  ·cases q
 ·cases q
theorem HM {K:W.Frag}{C:Addr}(a:K.lookup C=some ⟨.type "type",d,.cls cd,sl⟩)(hm:cd.mro=.ref C::c)(e:W.subIn K (.ref C) v=some b):(Value.ref C::c).contains v=b:=by
 have e:W.mroIn K C v=some b:=e;unfold W.mroIn W.clsIn at e;rw[a]at e
 dsimp at e
 rw[hm]at e;exact se e
theorem XC.mk {K:W.Frag}{C:Addr}(X:K.In h)(q:fU K C=true):∃f,XC C h f/\∀v b,W.subIn K (.ref C) v=some b->(Value.ref C::f).contains v=b:=by
 obtain⟨g,cd,f,i,j,k,l,m,a,hm,hd,d,hk⟩:=uJ q;refine⟨f,⟨cd.ns,cd.name,cd.qualname,cd.bases,cd.hasDict,cd.slotNames,cd.subclasses,cd.abstract,cd.collection,g,i,j,k,l,m,h.nsMap cd.ns,?_,.of_isNs (W.isNs_of_in X hk),W.tail_of_in X d⟩,λv b e=>HM a hm e⟩;have c:=X _ _ a;cases cd
 dsimp only at hm hd
 rw[hm,hd]at c;exact c
theorem CN.mk {K:W.Frag}{C:Addr}(X:K.In h)(q:exV K C=true):∃a,CN C h a:=by
 obtain⟨e,f⟩:=zg q;obtain⟨g,cd,a,i,j,k,l,m,b,hm,hd,n,c⟩:=uJ e;refine⟨a,cd.ns,cd.name,cd.qualname,cd.bases,cd.hasDict,cd.slotNames,cd.subclasses,cd.abstract,cd.collection,g,i,j,k,l,m,h.nsMap cd.ns,?_,.of_isNs (W.isNs_of_in X c),W.nsMap_none_of_in X c (f _ _ _ b),W.tail_of_in X n⟩;have d:=X _ _ b;cases cd
 dsimp only at hm hd
 rw[hm,hd]at d;exact d
section
variable {M:Model}{A:fz}{E:Value->bc->Prop}{h:Heap}{g:Array qf}{d:Drawn}{t:Nat}{os:ke}{C B e:Addr}{bm zh:List Value}{oe:Obj}{Q:Bool->bc->Prop}
theorem HP (T:oq h rL l):l.contains (.type "BaseException")=true:=T.hasType rfl
theorem PY (i:XC C h bm)(j:XC B h zh)(k:h.get? e=some oe)(l:oe.cls=.ref C)(a:(Value.ref C::bm).contains (.ref B)=true)(m:Q true ⟨h,g,d,t,os⟩):wpAny M A (rg (.ref e) (.ref B)) Q E ⟨h,g,d,t,os⟩:=by
 obtain⟨_,_,_,_,_,_,_,_,_,_,_,_,_,_,_,_,n,_,_⟩:=i;obtain⟨_,_,_,_,_,_,_,_,_,_,_,_,_,_,_,_,c,_,tB⟩:=j;have b:(Value.ref B::zh).contains (.type "BaseException")=true:=by rw[jn,HP tB,m9]
 have f:=tc_notTuple
 repeat (first|(with_reducible refine b7 k ?_;rw[l])|with_reducible refine b7 c ?_|(with_reducible refine g0 c ?_;rw[b])|(with_reducible refine g0 n ?_;rw[a])|wp_step)
 exact m
end
section
variable {prog:cj}{w:World}{A:fz}{E:Value->bc->Prop}{K:W.Frag}{h:Heap}{g:Array qf}{d:Drawn}{t:Nat}{os:ke}{C e:Addr}{oe:Obj}
structure XA (K:W.Frag)(C:Addr):Prop where
 cl:W.findIn K (.ref C) "__class__"=some (some (.builtin "object.__class__"))
 ga:W.findIn K (.ref C) "__getattribute__"=some (some (.builtin "BaseException.__getattribute__"))
 gt:W.findIn K (.ref C) "__getattr__"=some none
 ob:W.subIn K (.ref C) (.type "object")=some true
 be:W.subIn K (.ref C) (.type "BaseException")=some true
 ty:W.typeIn K (.ref C)=some (.type "type")
 is:(W.clsIn K C).isSome=true
 ex:fU K C=true
theorem z8h (a:h.get? e=some oe)(b:oe.cls=.ref C):W.Looks M h (qo (.ref e)) (.ref C):=by intro A Q E s k q;refine ac (wpAny_loadPart (k _ _ a) ?_);rw[b];exact bb q
theorem zv1 (X:K.In h)(a:XA K C)(b:h.get? e=some oe)(c:oe.cls=.ref C)(f:R (.ok (.ret (.ref C))) ⟨h,g,d,t,os⟩):
  i9 (model prog w) A (.call (.builtin "getset_descriptor.__get__") ⟨[.builtin "object.__class__",.ref e,tp],[]⟩) R ⟨h,g,d,t,os⟩:=by
 have i:=z8h (M:=model prog w) b c;have l1:=W.looks_subIn (M:=model prog w) X a.ob;refine i7 W.KF.slot_gs.plain W.KF.entry_gs ?_;refine W.KF.slot_gs.check _ _ _ _ _ _ _ _ W.KF.type_class (W.KF.args_gs _ _ _) ?_;refine ac (bb ?_);unfold Builtin.Getset_descriptor.descrGetter Builtin.Getset_descriptor.descrCheckInstance Builtin.Getset_descriptor.descrNameAndClass nc;simp only[W.KF.owner_class]
 repeat lk
 refine⟨Code.quiet_builtin _ (by decide+kernel),?_⟩;refine nq W.KF.entry_class ?_;unfold Builtin.«object.__class__»;unfold shownTypeOf;repeat lk
 exact f
theorem zmt (X:K.In h)(a:XA K C)(b:h.get? e=some oe)(c:oe.cls=.ref C)(i:Q (.done (.ret (.ref C))) ⟨h,g,d,t,os⟩):
  wpAny (model prog w) A (Builtin.«object.__getattribute__» ⟨[.ref e,.str "__class__" j],[]⟩) Q E ⟨h,g,d,t,os⟩:=by
 have⟨f5,f6,f7⟩:=And.intro F.typeOf_object_class (And.intro F.slot_gs_get.lookup F.slot_gs_set.lookup);have f:=W.looks_findIn (M:=model prog w) X a.cl
 repeat (any_goals (first|assumption|(with_reducible refine b7 b ?_;rw[c])|with_reducible refine f.at ?_|wp_step))
 refine zv1 X a b c ?_
 repeat' first|assumption|wp_step
theorem x_call {b:Tok}{R:Result->bc->Prop}(X:K.In h)(a:XA K C)(c:h.get? e=some oe)(f:oe.cls=.ref C)(i:R (.ok (.ret (.ref C))) ⟨h,g,d,t,os⟩):
  i9 (model prog w) A (.call (.builtin "BaseException.__getattribute__") ⟨[.ref e,.str "__class__" b],[]⟩) R ⟨h,g,d,t,os⟩:=by
 refine i7 F.excAttr_ValueError.ga.plain F.entry_bexc_ga ?_;have l1:=W.looks_subIn (M:=model prog w) X a.be;have l:=F.args_bexc_ga (.ref e) (.str "__class__" b);have j:qq "BaseException.__getattribute__"=some .slot:=by decide+kernel
 have k:splitId "BaseException.__getattribute__"=some ("BaseException","__getattribute__"):=by decide+kernel
 simp only[j9,j,k];refine ac ?_;unfold nc
 repeat (first|(with_reducible refine zmt X a c f ?_;exact i)|(with_reducible refine b7 c ?_;rw[f])|with_reducible refine l1.at ?_|wp_step)
theorem x_by (X:K.In h)(a:XA K C)(b:h.get? e=some oe)(c:oe.cls=.ref C)(f:Q (.ref C) ⟨h,g,d,t,os⟩):
  wpAny (model prog w) A (getAttrBy (.ref e) (.str "__class__" i) false) Q E ⟨h,g,d,t,os⟩:=by
 have f3:=F.excAttr_ValueError.ga.bind (.ref e);have l1:=W.looks_findIn (M:=model prog w) X a.ga;have l2:=W.looks_findIn (M:=model prog w) X a.gt
 repeat (any_goals (first|assumption|(with_reducible refine b7 b ?_;rw[c])|with_reducible refine l1.at ?_|with_reducible refine l2.at ?_|wp_step))
 refine x_call X a b c ?_
 repeat' first|assumption|wp_step
theorem PZ (X:K.In h)(a:XA K C)(b:h.get? e=some oe)(c:oe.cls=.ref C)(f:Q (some (.ref C)) ⟨h,g,d,t+1,os⟩):wpAny (model prog w) A (qd (.ref e) "__class__") Q E ⟨h,g,d,t,os⟩:=by repeat (any_goals (first|assumption|with_reducible apply x_by X a b c|wp_step))
theorem P0 (q:fU K C=true)(e:W.subIn K (.ref C) (.ref C)=some b):b=true:=by obtain⟨c,cd,d,f,g,h,i,j,a,hm,_⟩:=uJ q;rw[<-HM a hm e,jn,beq_self_eq_true,Bool.true_or]
structure XV (K:W.Frag)(v:Value):Prop where
 ty:∀(M:Model) (h:Heap),K.In h->W.Looks M h (qo v) (.type "type")
 is:∀(M:Model) (h:Heap),K.In h->W.Looks M h (isType v) true
theorem z9s {D:Addr}(X:K.In h)(q:(W.clsIn K D).isSome=true):W.Looks M h (isType (.ref D)) true:=by
 unfold W.clsIn at q;split at q
 ·rename_i a;intro A Q E s k z;refine ac (wpAny_load (k _ _ (X _ _ a)) ?_);exact bb z
 ·cases q
theorem XV.own {D:Addr}(t:W.typeIn K (.ref D)=some (.type "type"))(q:(W.clsIn K D).isSome=true):XV K (.ref D):=⟨λM h X=>W.looks_typeIn X t,λM h X=>z9s X q⟩
theorem XV.val:XV K (.type "ValueError"):=⟨λM h X=>W.Looks.of_pure (by kernel_rfl),λM h X=>W.Looks.of_pure rfl⟩
theorem zv9 (X:K.In h)(a:XA K C)(c:h.get? e=some oe)(f:oe.cls=.ref C)(i:XV K v)(hs:W.subIn K (.ref C) v=some b)(j:Q (.done (.ret (.bool b))) ⟨h,g,d,t,os⟩)(m:Q (.done (.ret (.bool b))) ⟨h,g,d,t+1,os⟩):
  wpAny (model prog w) A (Builtin.«isinstance.nested» ⟨[.ref e,v,.int n s],[]⟩) Q E ⟨h,g,d,t,os⟩:=by
 have k:=z8h (M:=model prog w) c f;have l1:=i.ty (model prog w) h X;have l2:=i.is (model prog w) h X;have l:=W.looks_subIn (M:=model prog w) X hs;have o:W.Looks (model prog w) h (nc (.ref e) v) b:=k.andThen l;have p:=z9s (M:=model prog w) X a.is;unfold Builtin.«isinstance.nested»;refine ac (k.at ?_);by_cases q:(Value.ref C==v)=true
 ·rw[rj q];have r:b=true:=by cases sj q;exact P0 a.ex hs
  subst r;exact ac (m7 (ac (bb (bb j))))
 ·rw[rq q];refine ac (l1.at ?_)
  k_delta "plainIsInstance"
  refine ac (ac (l2.at ?_));refine ac (o.at ?_);cases b with
  |true=>exact bb (bb j)
  |false=>refine ac (PZ X a c f ?_);refine ac (p.at ?_);refine ac (m7 ?_);exact l.at (bb m)
theorem zwl (X:K.In s.heap)(a:XA K C)(i:s.heap.get? e=some oe)(j:oe.cls=.ref C)(k:XV K v)(hs:W.subIn K (.ref C) v=some b)(l:∀f,Q (.bool b) {s with toks:=f}):
  wpAny (model prog w) A (call (.builtin "isinstance") [.ref e,v]) Q E s:=
 call_isinstance (S:=λ_ R s=>(K.In s.heap/\s.heap.get? e=some oe)/\∀f,R (.ok (.ret (.bool b))) {s with toks:=f}) (λ_ _ _ _ s c=>isinstance_outer (by obtain⟨h,g,d,t,os⟩:=s;exact zv9 c.1.1 a c.1.2 j k hs (c.2 t) (c.2 (t+1))) nofun) ⟨⟨X,i⟩,l⟩
end
theorem P1 (f:Array Value->Array Value)(o:Obj):(Obj.mapFields f o).dict=o.dict:=by unfold Obj.mapFields;split<;>rfl
def TrD (h base:Heap)(e:Addr)(cls:Value)(dd:Option Addr)(fl:Value):Prop:=∃ob vs T tr ts,h.get? e=some ob/\ob.cls=cls/\ob.dict=dd/\ob.data=.fields vs/\vs[1]?=some (.ref T)/\base.get? T=none/\T≠e/\h.get? T=some tr/\tr.data=.fields ts/\ts[3]?=some fl
def FlD (base:Heap)(l:List Env)(e:Addr)(cls:Value)(dd:Option Addr)(h:Heap):Prop:=base.StaysIn h/\base.get? e=none/\h.FunFrames base l/\TrD h base e cls dd .none
def HQ (base:Heap)(l:List Env)(e:Addr)(cls:Value)(dd:Option Addr)(L:Addr)(h:Heap):Prop:=base.StaysIn h/\base.get? e=none/\h.FunFrames base l/\TrD h base e cls dd (kt L)
theorem FlD.first (x:FlD base l e cls g h):∃ob f,h.get? e=some ob/\ob.cls=cls/\ob.dict=g/\ob.data=.fields f:=by obtain⟨_,_,_,ob,f,_,_,_,a,b,c,d,_⟩:=x;exact⟨ob,f,a,b,c,d⟩
section
variable {M:Model}{A:fz}{E:Value->bc->Prop}{s:bc}{base:Heap}{env:Env}{outer:List Env}{L e:Addr}{Q:Unit->bc->Prop}{cls:Value}{dd:Option Addr}
theorem z9t (fr:A.frames=some (env::outer))(ff:s.heap.FunFrames base (env::outer))(y:env.frame=some L)(m:s.heap.get? e=some ob)(st:base.StaysIn s.heap)(be:base.get? e=none)(l:ob.data=.fields vs)(sz:1<vs.size)
  (go:∀f,base.StaysIn f->f.FunFrames base (env::outer)->TrD f base e ob.cls ob.dict (kt L)->s.heap.UpToSlots f->Q () {s with heap:=f}):
  wpAny M A (do
   let a <-frameOf env
   let pl <-entryPlaceOf L hn
   let b <-EntryCells.newEntry head a .none (kt L) .none pl
   setField (.ref e) 1 b) Q E s:=by
 have p:e∉(env::outer).filterMap (·.frame):=λz=>by obtain⟨_,o,q,n⟩:=ff.mem z;rw[m]at q;cases q;exact n vs l
 refine ac (wpAny_frameOf_fun fr ff y λd D=>ac (wpAny_entryPlaceOf λpl t=>?_));refine ac (gv ?_ (t.sizeOk5 _ _ _ _ _));have h:d.get? e=some ob:=D.2.1 e p▸m;have i:base.StaysIn d:=λb o q=>by rw[D.2.1 b λz=>by rw[(ff.mem z).1]at q;cases q];exact st b o q
 generalize u:({cls:=.type "traceback",dict:=none,data:=.fields ([head,.ref L,.none,kt L,.none]++(if pl.isEmpty then ax 6 Value.none else pl)).toArray}:Obj)=j;have k:=ak j h;have w:d.objs.size≠e:=λz=>absurd (bg h) (z▸cq _);refine j4 k l sz (go _ ?_ ?_ ?_ ?_)
 all_goals generalize B:(λv:Array Value=>v.setIfInBounds 1 (Value.ref d.objs.size))=g
 all_goals
  have x:=Obj.data_mapFields l g;have r:=gj (Obj.mapFields g) k (Obj.isFreed_of_fields x);have C:((d.push j).update e (Obj.mapFields g)).get? d.objs.size=some j:=by rw[er _ _ (Ne.symm w)];exact br d (by rw[<-u];rfl)
  have keep:∀b o,b≠e->d.get? b=some o->((d.push j).update e (Obj.mapFields g)).get? b=some o:=λb o n q=>by rw[er _ _ (Ne.symm n)];exact ak _ q
  have c:∀b o,s.heap.get? b=some o->(∀vs,o.data≠.fields vs)->b≠e:=λb o q n z=>by rw[z,m]at q;cases q;exact n vs l
 ·exact λb o q=>keep b o (λz=>by rw[z,be]at q;cases q) (i b o q)
 ·refine ff.of_keeps λb o q n=>?_;obtain⟨sl,z⟩:=D.2.2 b o q;exact⟨_,keep b _ (c b o q n) z,rfl⟩
 ·refine⟨_,_,d.objs.size,j,_,r,Obj.cls_mapFields _ _,P1 _ _,x,?_,i.fresh,w,C,by rw[<-u],?_⟩
  ·rw[<-B];simp[sz]
  ·first|(simp;done)|(rcases t with rfl|⟨_,_,_,_,_,_,_,rfl⟩<;>simp)
 ·exact λb o q n=>by obtain⟨sl,z⟩:=D.2.2 b o q;exact⟨sl,keep b _ (c b o q n) z⟩
theorem zh8 (fr:A.frames=some (env::outer))(ff:s.heap.FunFrames base (env::outer))(b:env.frame=some L)(c:s.heap.get? e=some ob)(st:base.StaysIn s.heap)(be:base.get? e=none)(d:ob.data=.fields g)(f:g[1]?=some .none)
  (go:∀a,base.StaysIn a->a.FunFrames base (env::outer)->TrD a base e ob.cls ob.dict (kt L)->s.heap.UpToSlots a->Q () {s with heap:=a}):wpAny M A (iy (.ref e) env) Q E s:=by
 unfold iy;simp only[b];refine ac (gf c d f ?_);exact z9t fr ff b c st be d (gh.mp f).1 go
theorem zkt (fr:A.frames=some (env::outer))(ff:s.heap.FunFrames base (env::outer))(f:env.frame=some L)(l:TrD s.heap base e cls dd .none)(st:base.StaysIn s.heap)(be:base.get? e=none)
  (go:∀c,base.StaysIn c->c.FunFrames base (env::outer)->TrD c base e cls dd (kt L)->s.heap.UpToSlots c->Q () {s with heap:=c}):wpAny M A (iy (.ref e) env) Q E s:=by
 obtain⟨ob,x,T,u,m,h,rfl,rfl,i,j,p,r,d,dT,k⟩:=l;unfold iy;simp only[f];refine ac (gf h i j ?_);refine ac (gf d dT k ?_);refine ac (j4 d dT (gh.mp k).1 ?_);generalize w:(λv:Array Value=>v.setIfInBounds 3 Value.none)=g;have pF:∀b,b≠T->(s.heap.update T (Obj.mapFields g)).get? b=s.heap.get? b:=λb n=>er _ _ (Ne.symm n);have a:∀b o,s.heap.get? b=some o->(∀x,o.data≠.fields x)->b≠T:=λb o q n z=>by rw[z,d]at q;cases q;exact n m dT
 refine z9t fr (ff.of_keeps λb o q n=>⟨o,by rw[<-q];exact pF b (a b o q n),rfl⟩) f ((pF e (Ne.symm r)).trans h) (λb o q=>(pF b λz=>by rw[z,p]at q;cases q).trans (st b o q)) be i (gh.mp j).1 λc y B C t=>go c y B C λb o q n=>t b o ((pF b (a b o q n)).trans q) n
theorem zeu (st:base.StaysIn s.heap)(ff:s.heap.FunFrames base l)(p:TrD s.heap base e cls dd fl)
  (go:∀c,base.StaysIn c->c.FunFrames base l->TrD c base e cls dd .none->s.heap.UpToSlots c->Q () {s with heap:=c}):wpAny M A (jv (.ref e) none) Q E s:=by
 obtain⟨ob,y,T,x,r,h,t,hd,i,j,k,m,d,dT,u⟩:=p;have sz:=(gh.mp u).1;refine ac (gf h i j ?_);refine j4 d dT sz ?_;generalize w:(λv:Array Value=>v.setIfInBounds 3 ((none:Option Addr).elim Value.none λf=>kt f))=g;have pF:∀b,b≠T->(s.heap.update T (Obj.mapFields g)).get? b=s.heap.get? b:=λb n=>er _ _ (Ne.symm n);have a:∀b o,s.heap.get? b=some o->(∀y,o.data≠.fields y)->b≠T:=λb o q n z=>by rw[z,d]at q;cases q;exact n r dT
 refine go _ (λb o q=>(pF b λz=>by rw[z,k]at q;cases q).trans (st b o q)) (ff.of_keeps λb o q n=>⟨o,(pF b (a b o q n)).trans q,rfl⟩) ⟨ob,y,T,_,_,(pF e (Ne.symm m)).trans h,t,hd,i,j,k,m,gj _ d (Obj.isFreed_of_fields (Obj.data_mapFields dT _)),Obj.data_mapFields dT _,by rw[<-w];simp[sz]⟩ λb o q n=>⟨o.slots,(pF b (a b o q n)).trans q⟩
theorem zao (fr:A.frames=some (env::outer))(b:env.frame=some L)(fl:FlD base (env::outer) e cls dd s.heap)
  (go:∀a,HQ base (env::outer) e cls dd L a->s.heap.UpToSlots a->Q () {s with heap:=a}):wpAny M A (iy (.ref e) env) Q E s:=by
 obtain⟨f1,f2,f3,c⟩:=fl;exact zkt fr f3 b c f1 f2 λa f g h d=>go a ⟨f,f2,g,h⟩ d
theorem HR (x:HQ base l e cls dd L s.heap)(go:∀a,FlD base l e cls dd a->s.heap.UpToSlots a->Q () {s with heap:=a}):wpAny M A (jv (.ref e) none) Q E s:=by obtain⟨f1,f2,f3,b⟩:=x;exact zeu f1 f3 b λa d f g c=>go a ⟨d,f2,f,g⟩ c
theorem P2 (x:FlD base l e cls dd s.heap)(go:∀a,FlD base l e cls dd a->s.heap.UpToSlots a->Q () {s with heap:=a}):wpAny M A (jv (.ref e) none) Q E s:=by obtain⟨f1,f2,f3,b⟩:=x;exact zeu f1 f3 b λa d f g c=>go a ⟨d,f2,f,g⟩ c
theorem zg1 (fr:A.frames=some (env::outer))(b:env.frame=some L)(fl:FlD base (env::outer) e cls dd s.heap)
  (go:∀a,FlD base outer e cls dd a->s.heap.UpToSlots a->Q () {s with heap:=a}):wpAny M A (qs env (.ref e)) Q E s:=by
 refine ac (zao fr b fl λh i c=>HR i λd j f=>?_);obtain⟨f1,f2,⟨_,_,f3⟩,g⟩:=j;exact go d ⟨f1,f2,f3,g⟩ (c.trans f)
theorem zfc (fr:A.frames=some (env::outer))(ff:s.heap.FunFrames base (env::outer))(b:env.frame=some L)(c:s.heap.get? e=some ob)(st:base.StaysIn s.heap)(be:base.get? e=none)(d:ob.data=.fields n)(f:n[1]?=some .none)
  (go:∀a,FlD base outer e ob.cls ob.dict a->s.heap.UpToSlots a->Q () {s with heap:=a}):wpAny M A (qs env (.ref e)) Q E s:=by
 refine ac (zh8 fr ff b c st be d f λm o p q g=>zeu o p q λh i j k l=>?_);obtain⟨_,_,f3⟩:=j;exact go h ⟨i,be,f3,k⟩ (g.trans l)
end
structure Fly (P:cj)(w:World)(base:Heap)(outer:List Env)(H:Hp)(s:bc)(C a:Addr)(H':Hp)(s':bc)(dd:Option Addr):Prop where
 os:s'.os=s.os
 bare:kz s'.gens
 cK:∀b xs,H b=some (.tup xs)->H' b=some (.tup xs)
 cE:∀b o u,H b=some (.fD o u)->H' b=some (.fD o u)
 cL:∀b ps,H b=some (.lN ps)->∃more,H' b=some (.lN (ps++more))
 free:∀b o,s.heap.get? b=some o->H b=none->H' b=none
 hh:∃B,base.StaysIn B/\HOk P w H' B/\(∀b o,s.heap.get? b=some o->b∉frs outer->∃o',B.get? b=some o'/\(H b=none->o'=o))/\FlD B outer a (.ref C) dd s'.heap
 slot:∀b o,s.heap.get? b=some o->H b=none->b∈frs outer->∃sl,s'.heap.get? b=some {o with slots:=sl}
def CXE (P:cj)(w:World)(base:Heap):CXT:=λouter H s E e s'=>∃a C dd H',e=.ref a/\Fly P w base outer H s C a H' s' dd/\E (.ref C) dd H'
theorem HS (x:z16 P w H h a o):∃ob,h.get? a=some ob:=by
 cases o with
 |lst b=>obtain⟨_,_,_,_,e⟩:=x;exact⟨_,e⟩
 |tup b=>obtain⟨_,_,_,_,e⟩:=x;exact⟨_,e⟩
 |dK kvs=>obtain⟨_,_,_,_,o,_,_,e,_⟩:=x;exact⟨_,e⟩
 |dT kvs=>obtain⟨_,_,_,_,o,_,_,e,_⟩:=x;exact⟨_,e⟩
 |set S n=>obtain⟨o,_,_,_,e,_⟩:=x;exact⟨_,e⟩
 |ins C dx fs=>obtain⟨_,_,_,e,_⟩:=x;exact⟨_,e⟩
 |own y=>exact x
 |xd fs=>obtain⟨_,⟨_,_,_,e,_⟩,_⟩:=x;exact⟨_,e⟩
 |fD ob u=>exact⟨_,x.1⟩
 |lN ps=>exact⟨_,x⟩
 |ext c=>exact x.2.1
section
variable {P:cj}{w:World}{base:Heap}{outer:List Env}{H H':Hp}{s s':bc}{C a:Addr}{dd:Option Addr}
theorem Fly.hok (f:Fly P w base outer H s C a H' s' dd):HOk P w H' s'.heap:=by obtain⟨B,_,b,_,fl⟩:=f.hh;exact b.kept fl.1
theorem Fly.un (f:Fly P w base outer H s C a H' s' dd):Un (frs outer) [] H H' s.heap s'.heap:=by
 obtain⟨B,_,l,d,fl⟩:=f.hh;refine⟨λb o e n c _=>?_,λb o e n c _=>f.slot b o e n c,λb o e n _=>f.free b o e n,λb o e _=>?_,f.cK,f.cE,f.cL⟩
 ·obtain⟨h,g,i⟩:=d b o e c;rw[i n]at g;exact fl.1 b o g
 ·by_cases c:b∈frs outer
  ·obtain⟨_,j,k,_⟩:=fl.2.2.1.mem c;exact⟨j,k⟩
  ·obtain⟨h,g,_⟩:=d b o e c;exact⟨h,fl.1 b h g⟩
end
section
variable {X:Cx}{pins:List (Addr×Obj)}{σ:L2.St}{H H':Hp}{s s':bc}{C a:Addr}{dd:Option Addr}
theorem Fly.inv (f:Fly X.prog X.w X.base X.stack H s C a H' s' dd)(I:Inv X pins σ H s):Inv X pins σ H' s':=by obtain⟨c,g,d,t,o⟩:=s';obtain rfl:o=s.os:=f.os;exact I.call f.un f.hok f.bare λb z=>nomatch z
theorem Fly.leave {M:Model}{outer:List Env}{Q:Unit->bc->Prop}{E:Value->bc->Prop}(f:Fly X.prog X.w X.base X.stack H s C a H' s' dd)(I:Inv X pins σ H s)(hs:X.stack=X.env::X.outer)(hf:X.env.frame=some X.env.locals)(hx:X.ex=[])
  (hQ:∀sP,Fly X.prog X.w X.base X.outer X.hI X.s₀ C a H' sP dd->Q () sP):wpAny M X.A (qs X.env (.ref a)) Q E s':=by
 obtain⟨B,hb,hB,P4,fl⟩:=f.hh;rw[hs]at fl;have P5:X.A.frames=some (X.env::X.outer):=by rw[<-hs];exact I.ok.frames
 have u0:=I.base
 have CP:∀b o,X.s₀.heap.get? b=some o->b∉frs X.outer->b∉frs X.stack:=λb o e hn z=>by
  rw[hs]at z;unfold frs at z hn;rw[du,hf]at z;rcases az.mp z with z|z
  ·exact absurd (bg e) (by rw[z];exact Nat.not_lt.mpr I.ok.above)
  ·exact hn z
 have slot:∀h',s'.heap.UpToSlots h'->∀b o,X.s₀.heap.get? b=some o->X.hI b=none->b∈frs X.outer->∃sl,h'.get? b=some {o with slots:=sl}:=λh' up b o e n hn=>by
  have nx:b∉X.ex:=by rw[hx];simp
  obtain⟨sl,e1⟩:=I.base.slot b o e n hn nx;have P6:b∈frs X.stack:=by rw[hs];unfold frs;rw[du,hf];exact ba _ hn
  obtain⟨VX,e2⟩:=f.slot b _ e1 (I.base.free b o e n nx) P6;obtain⟨_,o3,e3,nd⟩:=I.ok.cF.mem hn;rw[e]at e3;cases e3;obtain⟨P7,e4⟩:=up b _ e2 nd;exact⟨P7,e4⟩
 refine zg1 P5 hf fl λh' P8 up=>hQ _ ⟨f.os.trans I.os,f.bare,λb xs e=>f.cK b xs (u0.cK b xs e),λb o u e=>f.cE b o u (u0.cE b o u e),λb ps e=>?_,λb o e n=>?_,⟨B,hb,hB,λb o e hn=>?_,P8⟩,slot h' up⟩
 ·obtain⟨m1,e1⟩:=u0.cL b ps e;obtain⟨m2,e2⟩:=f.cL b _ e1;exact⟨m1++m2,by rw[e2,pf]⟩
 ·have nx:b∉X.ex:=by rw[hx];simp
  obtain⟨o',e'⟩:=I.base.there b o e nx;exact f.free b o' e' (I.base.free b o e n nx)
 ·have nx:b∉X.ex:=by rw[hx];simp
  obtain⟨o1,e1⟩:=I.base.there b o e nx;obtain⟨o2,e2,e3⟩:=P4 b o1 e1 (CP b o e hn);refine⟨o2,e2,λn=>?_⟩;rw[e3 (I.base.free b o e n nx)];have:=I.base.keep b o e n hn nx;rw[this]at e1;cases e1;rfl
theorem P9 (x:HOk P w H h)(n:∀b∈l,H b=none):HOk P w H (W.hideAll h l):=λb o e=>by
 refine(x b o e).stay (λc u a q=>W.hideAll_get _ q λz=>?_) (λ_ q=>q) λ_ _ q=>q;rcases a with rfl|a
 ·rw[n c z]at e;cases e
 ·rw[n c z]at a;cases a
theorem zci (I:Inv X pins σ H s)(h0:X.s₀.heap.get? a=none)(r:H a=none)(t:s.heap.get? a=some ob)(u:ob.cls=.ref C)(v:ob.data=.fields N)(x:N[1]?=some .none)(hs:X.stack=X.env::X.outer)(hf:X.env.frame=some X.env.locals)(y:X.ex=[])
  (B:∀g,Fly X.prog X.w X.base X.outer X.hI X.s₀ C a H g ob.dict->Q () g):wpAny M X.A (qs X.env (.ref a)) Q E s:=by
 have k:X.A.frames=some (X.env::X.outer):=hs▸I.ok.frames;have nx:∀b,b∉X.ex:=λb=>by rw[y];simp
 have h:=I.stack;rw[hs]at h
 have d:∀b∈a::frs (X.env::X.outer),H b=none:=λb i=>by
  rcases az.mp i with rfl|i
  ·exact r
  ·exact I.gC b (hs▸i)
 have l:∀env∈X.env::X.outer,∀b,env.frame=some b->b∈a::frs (X.env::X.outer):=λenv D b i=>ba _ (ij.mpr ⟨env,D,i⟩)
 have c:∀b o,X.s₀.heap.get? b=some o->b∉frs X.outer->b∉a::frs (X.env::X.outer):=λb o e hn z=>by
  rcases az.mp z with rfl|z
  ·rw[h0]at e;cases e
  unfold frs at z hn;rw[du,hf]at z;rcases az.mp z with z|z
  ·exact absurd (bg e) (z▸Nat.not_lt.mpr I.ok.above)
  ·exact hn z
 have f:=λb o e=>W.hideAll_get _ (I.bk b o e) (c b o (I.ok.bs b o e).1 (I.ok.vt e));have F:(W.hideAll s.heap (a::frs (X.env::X.outer))).get? a=none:=W.hideAll_none _ bh;refine zfc (base:=W.hideAll s.heap (a::frs (X.env::X.outer))) k (W.funFrames_hide h l) hf t (λb o q=>W.of_hideAll _ q) F v x λK fl up=>B _ ⟨I.os,I.bare,I.base.cK,I.base.cE,I.base.cL,λb o e n=>I.base.free b o e n (nx b),⟨_,f,P9 I.hok d,λb o e hn=>?_,by rw[u]at fl;exact fl⟩,λb o e n hn=>?_⟩
 ·obtain⟨G,j⟩:=I.base.there b o e (nx b);refine⟨G,W.hideAll_get _ j (c b o e hn),λn=>?_⟩;rw[I.base.keep b o e n hn (nx b)]at j;cases j;rfl
 obtain⟨sl,j⟩:=I.base.slot b o e n hn (nx b);obtain⟨_,L,p,nd⟩:=I.ok.cF.mem hn;rw[e]at p;cases p;obtain⟨m,J⟩:=up b _ j nd;exact⟨m,J⟩
end
structure Lv (X:Cx)(H0:Hp)(c:Str):Prop where
 made:∀pins σ H s a C args h',Inv X pins σ H s->X.mg c=some (.ref C)->Same H0 H->li s.heap h' a (.ref C) args->X.xe (.ref a) {s with heap:=h'}
 VY:∀pins σ H s a C H' s',Inv X pins σ H s->X.mg c=some (.ref C)->Same H0 H'->Fly X.prog X.w X.base X.stack H s C a H' s' none->X.xe (.ref a) s'
def Rz (X:Cx)(f:Rho->Option Str)(σ:L2.St)(H:Hp):Prop:=∃ρ F c,StOk X.K F H σ ρ/\f ρ=some c/\Lv X F.H0 c
def HU (K:W.Frag)(mg:Str->Option Value)(n:Nat)(m:Fn):Sp:=λvs H _ E=>∃A ds c,vs.length=n/\Reps K H A vs ds/\excOf (m ds)=some c/\∀C H',mg c=some (.ref C)->Same H H'->E (.ref C) none H'
def mQ (P:cj)(w:World)(K:W.Frag)(mg:Str->Option Value)(base:Heap)(k:Nat)(x:Str)(ps:List Str)(n:Nat)(m:Fn):Prop:=∃f fd,FnOk P w K mg base (CXE P w base) k f fd ps (HU K mg n m)/\mg x=some (.ref f)/\W.keepIn K (.ref f)=true/\Binds K fd ps []
def iZ (X:Cx)(i:Nat)(n:Str)(a:Addr)(oe:Obj):Cx:={X with A:=X.A.mark (some (.ref a)),N:=X.N.set i "",calm:=false,pn:=(a,oe)::X.pn,xe:=λ_ _=>False,fx:=some (n,.ref a)}
section
variable {X:Cx}{a:Addr}{oe:Obj}
theorem P' (ok:X.Ok)(nd:X.N.Nodup)(f:X.N[i]?=some n)(d:X.env.scope.names.lookup ("":Str)=none)(c:X.env.scope.names.lookup n=some .local):(iZ X i n a oe).Ok:=by
 refine⟨ok.mod,ok.kind,ok.glob,ok.blt,ok.above,ok.inj,ok.has,ok.qM,λz=>(by cases z),ok.frames,ok.sy,ok.jF,ok.bs,ok.jG,ok.hJ,ok.hP,ok.cF,ok.nT,λx u z=>?_⟩;cases z;refine⟨λhm=>?_,c⟩;obtain⟨j,b⟩:=cb.mp hm;have b:(X.N.set i "")[j]?=some n:=b;by_cases e:i=j
 ·subst e;rw[ce (aw.mp f).1]at b;cases b;rw[d]at c;cases c
 ·rw[bv e]at b;exact e (yB nd f b)
theorem zsa (I:Inv X pins σ H s)(nd:X.N.Nodup)(C:X.N[i]?=some n)(l:X.env.scope.names.lookup ("":Str)=none)(f:X.env.scope.names.lookup n=some .local)(g:σ[i]?=some (some (.ref a)))
  (o:s.heap.get? a=some oe) (t:H a=none) (w:a≠X.env.locals) (y:a∉X.fs) (A:∀v,oe.data≠.cell v):Inv (iZ X i n a oe) pins (σ.set i none) H s:=by
 obtain⟨m,hn,b⟩:=I.loc;refine⟨P' I.ok nd C l f,I.os,I.bare,I.base,⟨m,hn,λj x v c d B=>?_⟩,I.cell,I.free,I.bA,λp h=>?_,I.hok,?_,λx u z=>?_⟩
 ·have c:(X.N.set i "")[j]?=some x:=c;by_cases e:i=j
  ·subst e;rw[ce (I.len▸(aw.mp C).1)]at d;cases d
  ·rw[bv e]at c d;exact b j x v c d B
 ·rcases az.mp h with rfl|h
  ·exact⟨o,t,w,y,A⟩
  ·exact I.pin p h
 ·show(σ.set i none).length=(X.N.set i "").length;rw[cn,cn];exact I.len
 ·cases z;obtain⟨u,r,q⟩:=b i n (.ref a) C g (.inl f);cases r;rcases q with⟨_,q⟩|⟨k,_⟩
  ·exact⟨m,hn,q⟩
  ·have k:X.env.scope.names.lookup n=some .cell\/X.env.scope.names.lookup n=some .free:=k;rcases k with k|k<;>(rw[f]at k;cases k)
theorem Qa (ok:X.Ok)(f:X.fx=none)(q:X.N[i]?=some n)(I:Inv (iZ X i n a oe) l o H s):Inv X l (o.set i none) H s:=by
 obtain⟨m,hn,d⟩:=I.loc;have b:o.length=(X.N.set i "").length:=I.len;rw[cn]at b;refine⟨ok,I.os,I.bare,I.base,⟨m,hn,λj x v g c h=>?_⟩,I.cell,I.free,I.bA,λp k=>I.pin p (ba _ k),I.hok,by rw[cn];exact b,λx u z=>by rw[f]at z;cases z⟩;by_cases e:i=j
 ·subst e;rw[ce (b▸(aw.mp q).1)]at c;cases c
 ·rw[bv e]at c;exact d j x v (show(X.N.set i "")[j]?=some x by rw[bv e];exact g) c h
theorem zo4 (I:Inv X pins σ H s)(a:X.fx=none)(nd:X.N.Nodup)(hi:X.N[i]?=some n)(t:X.env.scope.names.lookup n=some .local)(B:σ[i]?=some (some v))
  (h:∀s',Inv X pins (σ.set i none) H s'->Q () s'):wpAny M A (ko X.env n pos) Q E s:=by
 obtain⟨m,hn,f⟩:=id I.loc;have kU:=I.kU;obtain⟨u,r,q⟩:=f i n v hi B (.inl t)
 have K:m n=some u:=by
  rcases q with⟨_,q⟩|⟨k,_⟩
  ·exact q
  ·have k:X.env.scope.names.lookup n=some .cell\/X.env.scope.names.lookup n=some .free:=k;rcases k with k|k<;>(rw[t]at k;cases k)
 have g:(X.env.scope.kind==.class||(X.env.scope.kind==.module&&X.env.locals != X.env.globals))=false:=by rw[I.ok.kind];rfl
 refine wpAny_onRaise (wpAny_unbindName_local t hn K g λY Z C hs=>h _ ?_);obtain⟨oL,_,_,L,_⟩:=id hn;have old:∀b o,X.s₀.heap.get? b=some o->b≠X.env.locals:=λb o e=>cc (b8 (bg e) I.ok.above);refine⟨I.ok,I.os,I.bare,⟨λb o e z D a=>(hs.2 b (old b o e)).trans (I.base.keep b o e z D a),λb o e z D a=>?_,I.base.free,λb o e a=>?_,I.base.cK,I.base.cE,I.base.cL⟩,⟨_,C,λj y w d l O=>?_⟩,λy c e=>?_,I.free,I.bA,λp P=>?_,λb ob e=>?_,by rw[cn];exact I.len,λx u z=>by rw[a]at z;cases z⟩
 ·obtain⟨sl,d⟩:=I.base.slot b o e z D a;exact⟨sl,(hs.2 b (old b o e)).trans d⟩
 ·obtain⟨R,d⟩:=I.base.there b o e a;exact⟨R,(hs.2 b (old b o e)).trans d⟩
 ·by_cases F:i=j
  ·subst F;rw[ce (I.len▸(aw.mp hi).1)]at l;cases l
  ·rw[bv F]at l;obtain⟨S,T,G⟩:=f j y w d l O;refine⟨S,T,?_⟩;have U:y≠n:=λz=>F (yB nd hi (z▸d));rcases G with⟨k,G⟩|⟨k,c,e,z⟩
   ·exact .inl ⟨k,by simp only[rq U];exact G⟩
   ·exact .inr ⟨k,c,e,z.sameBut hs (kU y c e)⟩
 ·obtain⟨w,z⟩:=I.cell y c e;exact⟨w,z.sameBut hs (kU y c e)⟩
 ·obtain⟨e,V,ne,nf,dd⟩:=I.pin p P;exact⟨(hs.2 p.1 ne).trans e,V,ne,nf,dd⟩
 ·have J:∀c w,H c=some w->c≠X.env.locals:=λc w q z=>by rw[z,I.free]at q;cases q
  exact(I.hok b ob e).stay (λc w W q=>(hs.2 c (W.elim (λz=>by rw[z];exact J b _ e) λz=>J c _ z)).trans q) (λ_ q=>q) λ_ _ q=>q
theorem ze7 (ok:X.Ok)(m:X.fx=none)(nd:X.N.Nodup)(D:X.N[i]?=some n)(e:X.env.scope.names.lookup n=some .local)(g:∀b z,D2.nx b z->o.nx (b.set i none) z)(j:∀v z,D2.rt v z->o.rt v z)(t:∀b z,¬D2.bk b z)(w:∀b z,¬D2.ct b z)
  (h:SP (iZ X i n a oe) B D2 f s):wpAny M X.A (do bindName X.env n .none;ko X.env n F) (λ_ c=>SP X B o f c) E s:=by
 have C:∀{b:L2.St} {z:Hp} {Q:Unit->bc->Prop},Inv (iZ X i n a oe) B b z s->(∀c,Inv X B (b.set i none) z c->Q () c)->wpAny M X.A (do bindName X.env n .none;ko X.env n F) Q E s:=λ{b z Q} I k=>by have p:=Qa ok m D I;refine ac (wpAny_bindName (z4f p nd D (.inl e) (v:=.aK) rfl (λy x _=>?_) (.inr e)));have l:i<(b.set i none).length:=p.len▸(aw.mp D).1;refine zo4 x m nd D e (ce l) λc d=>k c ?_;rw[qg,qg]at d;exact d
 cases f with
 |next=>obtain⟨b,z,I,q⟩:=h;exact C I λc d=>⟨_,z,d,g b z q⟩
 |ret u=>obtain⟨v,b,z,I,r,q⟩:=h;exact C I λc d=>⟨v,_,z,d,r,j v z q⟩
 |brk=>obtain⟨b,z,_,q⟩:=h;simp_all
 |cont=>obtain⟨b,z,_,q⟩:=h;simp_all
theorem HV {C:Addr}(f:Fly P w base outer H s C a c d g):c a=none:=by
 obtain⟨B,_,b,_,fl⟩:=f.hh;cases e:c a with
 |none=>rfl
 |some u=>obtain⟨o,q⟩:=HS (b a u e);rw[fl.2.1]at q;cases q
theorem zfl {C D:Addr}(inv:∀m,FlD B0 (X.env::X.outer) a (.ref C) dd m->s'.heap.UpToSlots m->Inv X pins σ H' {s' with heap:=m})(w0:FlD B0 (X.env::X.outer) a (.ref C) dd s'.heap)(H:H' a=none)(hs:X.stack=X.env::X.outer)(hf:X.env.frame=some X.env.locals)(hx:X.fx=none)(nd:X.N.Nodup)(Z:X.N[i]?=some n)(hv:X.env.scope.names.lookup ("":Str)=none)(G:X.env.scope.names.lookup n=some .local)
  (hB:X.mg B=some (.ref D)) (hm:∀(A:fz) (E:Value->bc->Prop) (Q:Bool->bc->Prop) s6 oe,X.K.In s6.heap->s6.heap.get? a=some oe->oe.cls=.ref C->Q true s6->wpAny (model X.prog X.w) A (rg (.ref a) (.ref D)) Q E s6) (I:Gl X B) (J:Wl B)
  (hQ:∀f s,SP X pins Dn f s->Q f s) (L:∀oe ws,oe.cls=.ref C->oe.dict=dd->oe.data=.fields ws->PSs (iZ X i n a oe) (b0::hX) T) (q:T ⟨λc d=>Dn.nx (c.set i none) d,Dn.rt,λ_ _=>False,λ_ _=>False⟩ (σ.set i none) H'):
  wpAny (model X.prog X.w) X.A (iy (.ref a) X.env) (λ_ s2=>wpAny (model X.prog X.w) X.A (jv (.ref a) none) (λ_ s3=>wpAny (model X.prog X.w) X.A (on (.ref a) X.env [.ExceptHandler (some (.Name B np)) (some n) (b0::hX) hp]) Q X.xe s3) X.xe s2) X.xe s':=by
 have ok:=(inv _ w0 (Heap.UpToSlots.refl _)).ok;have M:X.A.frames=some (X.env::X.outer):=hs▸ok.frames;refine zao M hf w0 λh4 o p=>?_;refine HR o λO P r=>?_;have t:=inv O P (p.trans r);refine wpAny_handleBy_cons (codeAny_handlers_test ?_) (by intro z;cases z);refine i6 t.ok.kind I (mi (t.ok.glob▸t.mod.glob.keeps t.bk) hB ?_) J;obtain⟨ob,_,R,u,_⟩:=P.first;refine hm _ _ _ _ ob t.cM R u ?_;refine codeAny_handlers_suite_as (P2 P λm w6 S=>?_);have x:=inv m w6 ((p.trans r).trans S);obtain⟨oe,ws,e,y,F,b⟩:=w6.first;refine z4f x nd Z (.inl G) (v:=.ref a) rfl (λs7 I7 ch=>?_) (.inr G);obtain⟨ad,U,V⟩:=ch;have nL:a≠X.env.locals:=λz=>by obtain⟨_,o3,l,j⟩:=x.stack.mem (by rw[hs,du,hf];exact bh);rw[<-z]at l;rw[e]at l;cases l;exact j ws b
 have nF:a∉X.fs:=λz=>by obtain⟨_,o3,l,j⟩:=x.cF.mem z;rw[e]at l;cases l;exact j ws b
 have nA:a≠ad:=λz=>by
  rcases V with h|h
  ·exact nL (z.trans h)
  ·obtain⟨v,oc,k,g⟩:=x.cell n ad h;rw[<-z]at k;rw[e]at k;cases k;rw[b]at g;cases g
 have W:=(U.2 a nA).trans e;have Y:i<σ.length:=x.len▸(aw.mp Z).1;have I8:=zsa I7 nd Z hv G (ce Y) W H nL nF (λv z=>by rw[b]at z;cases z);rw[qg]at I8;refine ek (L oe ws y F b pins s7 _ H' ⟨λc d=>Dn.nx (c.set i none) d,Dn.rt,λ_ _=>False,λ_ _=>False⟩ I8 q) (λVZ s9 h9=>?_) λ_ _ z=>z.elim;refine ek (ze7 (D2:=⟨λc d=>Dn.nx (c.set i none) d,Dn.rt,λ_ _=>False,λ_ _=>False⟩) ok hx nd Z G (λ_ _ z=>z) (λ_ _ z=>z) (λ_ _ z=>z) (λ_ _ z=>z) h9) (λ_ s5 O=>hQ _ s5 O) λ_ _ z=>z
theorem Fly.land {C:Addr}(I:Inv X s x t s1)(fl:Fly X.prog X.w X.base X.stack t s1 C a u v y)(d:X.base.StaysIn c)(f:HOk X.prog X.w u c)(g:∀b o,s1.heap.get? b=some o->b∉frs X.stack->∃j,c.get? b=some j/\(t b=none->j=o))(n:FlD c X.stack a (.ref C) y k)(up:v.heap.UpToSlots k):Inv X s x u {v with heap:=k}:=by refine Fly.inv ⟨fl.os,fl.bare,fl.cK,fl.cE,fl.cL,fl.free,⟨c,d,f,g,n⟩,λb o e z l=>?_⟩ I;obtain⟨sl,p⟩:=fl.slot b o e z l;obtain⟨_,r,m,h⟩:=I.stack.mem l;rw[e]at m;cases m;obtain⟨i,q⟩:=up b _ p h;exact⟨i,q⟩
theorem wQ {C D:Addr}(xC:fU X.K C=true)(d:fU X.K D=true)(f:W.subIn X.K (.ref C) (.ref D)=some true)(A:fz)(E:Value->bc->Prop)(Q:Bool->bc->Prop)(b:bc)(oe:Obj)(k:X.K.In b.heap)(e:b.heap.get? a=some oe)(c:oe.cls=.ref C)(q:Q true b):wpAny (model X.prog X.w) A (rg (.ref a) (.ref D)) Q E b:=by obtain⟨g,h,i⟩:=XC.mk k xC;obtain⟨j,l,_⟩:=XC.mk k d;exact PY h l e c (i _ _ f) q
end
section
variable {X:Cx}{n x:Str}{p p1 p2 pos:Pos}{a C:Addr}{oe:Obj}{v:V}{u:Value}{b:Bool}
theorem HW (b:X.fx=some (n,.ref a))(c:X.env.scope.names.lookup n=some .local)(hd:Wl n):PE X (.Name n p) (λ_ H Q=>Q (.ref a) H):=by intro d s e H Q I h;obtain⟨m,hn,hm⟩:=I.fx n _ b;exact ph (nz I.ok.kind c hn hm ⟨.ref a,H,I,rfl,h⟩) hd
theorem Qb (a:Gl X x)(hm:X.mg x=some u\/(X.mg x=none/\c9 x=some u/\x≠"__name__"))(r:RelV v u)(hd:Wl x):PE X (.Name x p) (λ_ H Q=>Q v H):=by
 intro e s f H Q I h;rcases hm with hm|⟨b,c,d⟩
 ·exact z4w I a hm ⟨v,H,I,r,h⟩ hd
 ·exact z2l I a b c ⟨v,H,I,r,h⟩ d hd
def Xh (X:Cx)(a:Addr)(oe:Obj):Prop:=∀pins σ H s,Inv X pins σ H s->s.heap.get? a=some oe
theorem zvr (hm:X.mg "isinstance"=none)(h:Gl X "isinstance")(i:X.fx=some (n,.ref a))(j:X.env.scope.names.lookup n=some .local)(hd:Wl n)(k:Xh X a oe)(l:oe.cls=.ref C)
  (c:Gl X x) (d:X.mg x=some u\/(X.mg x=none/\c9 x=some u/\x≠"__name__")) (r:RelV v u) (m:∀w,RelV v w->w=u) (f:Wl x) (xa:XA X.K C) (o:XV X.K u) (hs:W.subIn X.K (.ref C) u=some b):
  PE X (.Call (.Name "isinstance" p) [.Name n p1,.Name x p2] [] pos) (tD X.K λ_=>.ok (.fr,.bool b)):=by
 intro P s T H Q I t;obtain⟨U,F,z,N,e,q⟩:=t;cases e;refine ik (z2l (u:=.builtin "isinstance") I h hm (by decide+kernel) ?_ dc dc);have y:=yF (HW (p:=p1) i j hd) (yF (Qb (p:=p2) c d r f) kX);refine PyProof.Rows.callWith_builtin1 (aI (y pos P s T H (λS R=>S=[.ref a,v]/\R=H) I ⟨rfl,rfl⟩) λV s1 A=>?_) rfl rfl;obtain⟨S,R,g,B,rfl,rfl⟩:=A;cases B with
 |cons D rt=>
  cases rt with
  |cons E G=>cases G;rename_i J L;obtain rfl:J=Value.ref a:=D;have M:=m L E;subst M;refine zwl g.cM xa (k _ _ _ _ g) l o hs λO=>?_;exact⟨.bl b,R,g.tok _,rfl,q _ R (Same.refl R) rfl⟩
end
section
theorem aC (h:(a&&b)=true):a=true/\b=true:=au.mp h
theorem aQ (h:(a&&b&&c)=true):a=true/\b=true/\c=true:=⟨(aC (aC h).1).1,(aC (aC h).1).2,(aC h).2⟩
theorem bH (h:(a&&b&&c&&d)=true):a=true/\b=true/\c=true/\d=true:=⟨(aQ (aC h).1).1,(aQ (aC h).1).2.1,(aQ (aC h).1).2.2,(aC h).2⟩
theorem dE (h:(a&&b&&c&&d&&e)=true):a=true/\b=true/\c=true/\d=true/\e=true:=⟨(bH (aC h).1).1,(bH (aC h).1).2.1,(bH (aC h).1).2.2.1,(bH (aC h).1).2.2.2,(aC h).2⟩
theorem cU (h:(!b)=true):b=false:=by cases b<;>first|rfl|cases h
theorem ff {p:Prop}(h:b=false)(z:b=true):p:=by rw[h]at z;cases z
theorem eW (h:l.isEmpty=true):l=[]:=by cases l<;>first|rfl|cases h
theorem rM (h:(!l.isEmpty)=true):∃x r,l=x::r:=by cases l<;>first|exact⟨_,_,rfl⟩|cases h
theorem aH (h:o.any f=true):∃v,o=some v/\f v=true:=by
 cases o with
 |none=>cases h
 |some v=>exact⟨v,rfl,h⟩
theorem bS {a:Type}{o:Option a}{v:a}{q:a->Prop}(h:o=some v)(d:o=none\/∃u,o=some u/\q u):q v:=by grind
theorem tO (h:yV e=some v):∃p,e=.Name v p:=bS (q:=λv=>∃p,e=.Name v p) h (by cases e<;>first|exact .inl rfl|exact .inr ⟨_,rfl,_,rfl⟩)
theorem tP (h:fN e=some v):∃k p,e=.Constant v k p:=bS (q:=λv=>∃k p,e=.Constant v k p) h (by cases e<;>first|exact .inl rfl|exact .inr ⟨_,rfl,_,_,rfl⟩)
theorem Qc (h:wj e=some v):∃p,e=.BinOp v.1 v.2.1 v.2.2 p:=bS (q:=λv=>∃p,e=.BinOp v.1 v.2.1 v.2.2 p) h (by cases e<;>first|exact .inl rfl|exact .inr ⟨_,rfl,_,rfl⟩)
theorem pG (h:wm e=some v):∃p,e=.UnaryOp v.1 v.2 p:=bS (q:=λv=>∃p,e=.UnaryOp v.1 v.2 p) h (by cases e<;>first|exact .inl rfl|exact .inr ⟨_,rfl,_,rfl⟩)
theorem mR (h:nY e=some v):∃p,e=.Compare v.1 v.2.1 v.2.2 p:=bS (q:=λv=>∃p,e=.Compare v.1 v.2.1 v.2.2 p) h (by cases e<;>first|exact .inl rfl|exact .inr ⟨_,rfl,_,rfl⟩)
theorem i' (h:qZ e=some v):e=.BoolOp v.1 v.2.1 v.2.2:=bS (q:=λv=>e=.BoolOp v.1 v.2.1 v.2.2) h (by cases e<;>first|exact .inl rfl|exact .inr ⟨_,rfl,rfl⟩)
theorem Qd (h:wo e=some v):∃p,e=.IfExp v.1 v.2.1 v.2.2 p:=bS (q:=λv=>∃p,e=.IfExp v.1 v.2.1 v.2.2 p) h (by cases e<;>first|exact .inl rfl|exact .inr ⟨_,rfl,_,rfl⟩)
theorem zi (h:oW e=some v):∃k p,e=.Tuple v k p:=bS (q:=λv=>∃k p,e=.Tuple v k p) h (by cases e<;>first|exact .inl rfl|exact .inr ⟨_,rfl,_,_,rfl⟩)
theorem HX (h:tE e=some v):∃p,e=.List v p:=bS (q:=λv=>∃p,e=.List v p) h (by cases e<;>first|exact .inl rfl|exact .inr ⟨_,rfl,_,rfl⟩)
theorem tQ (h:yW e=some v):∃p,e=.Dict v.1 v.2 p:=bS (q:=λv=>∃p,e=.Dict v.1 v.2 p) h (by cases e<;>first|exact .inl rfl|exact .inr ⟨_,rfl,_,rfl⟩)
theorem uK (h:iX e=some v):∃p,e=.Subscript v.1 v.2 p:=bS (q:=λv=>∃p,e=.Subscript v.1 v.2 p) h (by cases e<;>first|exact .inl rfl|exact .inr ⟨_,rfl,_,rfl⟩)
theorem Qe (h:wq e=some v):∃p,e=.Slice v.1 v.2.1 v.2.2 p:=bS (q:=λv=>∃p,e=.Slice v.1 v.2.1 v.2.2 p) h (by cases e<;>first|exact .inl rfl|exact .inr ⟨_,rfl,_,rfl⟩)
theorem wR (h:BH e=some v):e=.Call v.1 v.2.1 v.2.2.1 v.2.2.2:=bS (q:=λv=>e=.Call v.1 v.2.1 v.2.2.1 v.2.2.2) h (by cases e<;>first|exact .inl rfl|exact .inr ⟨_,rfl,rfl⟩)
theorem mT (h:uz e=some v):e=.Attribute v.1 v.2.1 v.2.2:=bS (q:=λv=>e=.Attribute v.1 v.2.1 v.2.2) h (by cases e<;>first|exact .inl rfl|exact .inr ⟨_,rfl,rfl⟩)
theorem wU (h:BJ e=some v):∃p,e=.ListComp v.1 v.2.1 v.2.2 p:=bS (q:=λv=>∃p,e=.ListComp v.1 v.2.1 v.2.2 p) h (by cases e<;>first|exact .inl rfl|exact .inr ⟨_,rfl,_,rfl⟩)
theorem fV (h:bI l=some v):l=[v]:=by rcases l with _|⟨x,_|⟨y,l⟩⟩<;>cases h;rfl
theorem CQ (h:oX l=some v):l=[v.1,v.2]:=by rcases l with _|⟨x,_|⟨y,_|⟨z,l⟩⟩⟩<;>cases h;rfl
theorem jQ (h:jM e=some v):∃q p,e=.Call (.Name v.1 q) v.2 [] p:=by
 obtain⟨u,hu,h⟩:=ig.mp h;cases hk:u.2.2.1.isEmpty with
 |false=>rw[hk]at h;simp_all
 |true=>rw[hk]at h;obtain⟨x,a,rfl⟩:=bn.mp h;obtain⟨q,b⟩:=tO a;exact⟨q,_,by rw[wR hu,b,eW hk]⟩
theorem jz (h:rA e=some v):∃a b,e=.Call (.Attribute v.1 v.2.1 a) v.2.2.1 [] b/\v.2.2.2=(a.endLine==b.line):=by
 obtain⟨u,hu,h⟩:=ig.mp h;cases hk:u.2.2.1.isEmpty with
 |false=>rw[hk]at h;simp_all
 |true=>rw[hk]at h;obtain⟨x,c,rfl⟩:=bn.mp h;exact⟨_,_,by rw[wR hu,mT c,eW hk],rfl⟩
theorem jR (h:kF f e=true):∃x p,e=.Name x p/\f x=true:=by obtain⟨x,a,h⟩:=aH h;obtain⟨p,b⟩:=tO a;exact⟨x,p,b,h⟩
def Qf (K:W.Frag)(mg:Str->Option Value)(c C:Str)(b:Bool):Prop:=∃A v u,mg c=some (.ref A)/\XA K A/\XV K u/\W.subIn K (.ref A) u=some b/\RelV v u/\(∀w,RelV v w->w=u)/\(mg C=some u\/(mg C=none/\c9 C=some u/\C≠"__name__"))
def CS (K:W.Frag)(mg:Str->Option Value)(c:Str):Prop:=∃C,mg c=some (.ref C)/\exV K C=true
def Qg (K:W.Frag)(mg:Str->Option Value)(c B:Str):Prop:=∃C D,mg c=some (.ref C)/\mg B=some (.ref D)/\fU K C=true/\fU K D=true/\W.subIn K (.ref C) (.ref D)=some true
structure rN (Γ:Gm)(K:W.Frag)(mg:Str->Option Value):Prop where
 sub:∀c C b,Γ.sub.contains (c,C,b)=true->Qf K mg c C b
 rs:∀c,Γ.rs.contains c=true->CS K mg c
 gQ:∀c B,Γ.gQ.contains (c,B)=true->Qg K mg c B
structure Cok (Γ:Gm)(Κ:List D)(Φ:List Fn)(X:Cx)(r:Nat):Prop where
 hN:X.N=Γ.N
 hs:X.env.scope=Γ.sc
 nd:Γ.N.Nodup
 fn:Γ.blk=false->∀x,X.fn x=true
 kind:Γ.sc.kind=.function
 free:∀x,Γ.free.contains x=true->X.mg x=none
 fns:∀(j:Nat) f n,Γ.fns[j]?=some (f,n)->∃m k ps,Φ[j]?=some m/\k<=r/\Cal X.prog X.w X.K X.mg X.base k f ps (spD X.K n m)
 cst:∀(j:Nat) x,Γ.cst[j]?=some x->∃d a,Κ[j]?=some d/\X.mg x=some (.ref a)/\∀H B,B none->Rep X.K H B (.ref a) d
 pH:∀(j:Nat) f n,Γ.fns[j]?=some (f,n)->∃m k ps,Φ[j]?=some m/\k<=r/\mQ X.prog X.w X.K X.mg X.base k f ps n m
 room:Γ.cm=true->Room r X.A
 calm:Γ.cm=true->X.calm=true
 hu:X.A.units+64<cLine
 mU:Γ.blk=false->X.stack=X.env::X.outer/\X.env.frame=some X.env.locals
 zj:Γ.xc=none->X.fx=none
 xc:∀n c,Γ.xc=some (n,c)->∃a oe C,X.fx=some (n,.ref a)/\Xh X a oe/\oe.cls=.ref C/\X.mg c=some (.ref C)
 xk:rN Γ X.K X.mg
theorem Cok.gl (k:Cok a Κ Φ X r)(h:mD a x=true):Gl X x/\Wl x:=by unfold mD at h;rw[bt]at h;refine⟨?_,by simpa using h.2⟩;show X.env.scope.names.lookup x=_;rw[k.hs];simpa using h.1
theorem Cok.aM (k:Cok b Κ Φ X r)(h:mC b i x=true):X.N[i]?=some x/\Vis X.env.scope x/\Wl x/\(x==("__classdict__":Str))=false:=by
 unfold mC at h;simp at h;have⟨⟨⟨h1,a⟩,h3⟩,h4⟩:=h;refine⟨by rw[k.hN];exact h1,?_,by simpa using h3,by simpa using h4⟩;rw[k.hs];rcases a with(a|a)|a
 ·exact .inl a
 ·exact .inr (.inl a)
 ·exact .inr (.inr a)
theorem Cok.loc (k:Cok c Κ Φ X r)(h:mE c i x=true):X.N[i]?=some x/\Loc X.env.scope x/\(X.fn x=true\/X.env.scope.names.lookup x=some .local):=by
 unfold mE at h;simp at h;obtain⟨b,a⟩:=h;refine⟨by rw[k.hN];exact b,?_,?_⟩
 ·unfold L2.Loc;rw[k.hs];rcases a with a|⟨_,a⟩
  ·exact .inl a
  ·exact .inr a
 ·rcases a with a|⟨a,_⟩
  ·exact .inr (k.hs▸a)
  ·exact .inl (k.fn a x)
theorem Cok.blt (k:Cok e Κ Φ X r)(h:dI e x=true):Gl X x/\X.mg x=none/\Wl x/\x≠"__name__":=by unfold dI at h;simp only[au]at h;obtain⟨⟨a,b⟩,c⟩:=h;obtain⟨d,g2⟩:=k.gl a;exact⟨d,k.free x b,g2,by simpa using c⟩
theorem Qh {C:Addr}:(blk X scope a C b s H).env.scope=yU scope X.env.scope:=rfl
theorem Cok.blk (k:Cok c Κ Φ X r)(hk:scope.kind=.function)(nd:a.Nodup)(C:Addr)(b:List Addr)(s:bc)(H:Hp):Cok {c with N:=a,sc:=yU scope c.sc,blk:=true,xc:=none} Κ Φ (blk X scope a C b s H) r where
 hN:=rfl
 hs:=by rw[Qh,k.hs]
 nd:=nd
 fn:=λz=>by cases z
 kind:=hk
 free:=k.free
 fns:=k.fns
 cst:=k.cst
 pH:=k.pH
 room:=k.room
 calm:=k.calm
 hu:=k.hu
 mU:=λz=>by cases z
 zj:=λ_=>rfl
 xc:=λ_ _ z=>by cases z
 xk:=⟨k.xk.sub,k.xk.rs,k.xk.gQ⟩
theorem Qi (k:Cok n Κ Φ X r)(all:List Nat):∀{m:List Expr},BK n is m=true->PGs X m (mK X.K all is)/\(d7 m X.env).length=is.length/\(d7 m X.env).findIdx? (·.1)=none:=by
 induction is with
 |nil=>intro m h;cases eW h;exact⟨OD,rfl,rfl⟩
 |cons i is a=>
  intro m h;cases m with
  |nil=>cases h
  |cons e m=>
   obtain⟨h0,b⟩:=aC h;obtain⟨x,p,rfl,h0⟩:=jR h0;obtain⟨c,d,f⟩:=k.loc h0;obtain⟨g,j,l⟩:=a b;refine⟨OE (k.hN▸k.nd) c d f g,?_,?_⟩
   ·show(d7 m X.env).length+1=_;rw[j];rfl
   ·show((false,pi (.Name x p) X.env)::d7 m X.env).findIdx? (·.1)=none;rw[jo,l];rfl
theorem uL (k:Cok m Κ Φ X r)(h:oY m t e=true):PG X e (tDG X.K t):=by
 cases t with
 |nm i=>obtain⟨x,p,rfl,a⟩:=jR h;obtain⟨b,c,d⟩:=k.loc a;exact OC (k.hN▸k.nd) b c d
 |tp is=>obtain⟨h0,h⟩:=aC h;obtain⟨v,f,a⟩:=aH h;obtain⟨_,_,rfl⟩:=zi f;obtain⟨g,j,l⟩:=Qi k is a;exact OF (k.calm h0) g rfl l j.symm
theorem HY (h:plainT e=true)(env:Env):∀a,ql e env a=(do let v <-a;standAt e.pos;holding [v] (truthy v)):=by
 intro a;cases e<;>first|(cases h;done)|rfl|skip
 rename_i b x p;cases b<;>first|(cases h;done)|rfl
theorem uM (h:qY e=true)(env:Env):∀x,fq e env x=pure x:=by intro x;cases e<;>first|(cases h;done)|rfl
variable (Κ:List D)(Φ:List Fn)
theorem Qj (c:C):∀b es d f,eC b c es=true->dU Κ Φ c d=.ok f->f.length=es.length/\(es.all λe=>!isStar e)=true:=by
 induction c with
 |nil=>intro b es d f h e;cases eW h;cases e;exact⟨rfl,rfl⟩
 |cons a r _ i=>
  intro b es d f h e;cases es with
  |nil=>cases h
  |cons x es=>obtain⟨j,_,k⟩:=aQ h;obtain⟨y,_,e⟩:=Res.aA e;obtain⟨g,l,e⟩:=Res.aA e;cases e;obtain⟨m,n⟩:=i b es d g k l;exact⟨by rw[bd,bd,m],by rw[cx,n,j];rfl⟩
 |_=>exact λ_ _ _ _ h=>ff rfl h
end
section
theorem Qk (h:tyB d T t=true):∃x p,t=.Name x p/\x=Str.ofString T/\dI d x=true/\T∈tysB:=by obtain⟨x,p,e,h⟩:=jR h;obtain⟨a,b,c⟩:=aQ h;exact⟨x,p,e,sj a,b,cg.mp c⟩
theorem CT (h:(a||b)=true)(n:b=false):a=true:=by rw[n,Bool.or_false]at h;exact h
theorem Ql (h:T∈tysB):c9 (Str.ofString T)=some (.type T):=by simp only[tysB,az,eh,or_false]at h;rcases h with rfl|rfl|rfl|rfl|rfl<;>decide+kernel
variable (Κ:List D)(Φ:List Fn)
theorem rO:∀{c:C} {g:List Expr},eC i c g=true->(g.all λe=>!isStar e)=true:=by
 intro c
 induction c with
 |nil=>intro g h;cases eW h;rfl
 |cons a r _ b=>
  intro g h;cases g with
  |nil=>rfl
  |cons e g=>obtain⟨d,_,f⟩:=aQ h;rw[cx,b f,d];rfl
 |_=>exact λh=>ff rfl h
theorem zl (h:eC f c d=true):∀b a,dU Κ Φ c b=.ok a->a.length=d.length:=λb a e=>(Qj Κ Φ c f d b a h e).1
structure Sd (c:C):Prop where
 E:∀(Γ:Gm) (X:Cx) (r:Nat) (e:Expr),Cok Γ Κ Φ X r->chkE Γ c e=true->PE X e (tD X.K (aJ Κ Φ c))
 T:∀(Γ:Gm) (X:Cx) (r:Nat) (e:Expr),Cok Γ Κ Φ X r->eB Γ c e=true->PT X e (dJ X.K (dG Κ Φ c))/\((∃o l p,e=.BoolOp o l p)->PW X e (dJ X.K (dG Κ Φ c)))
 Q:∀(Γ:Gm) (X:Cx) (r:Nat) (l:Expr) (ops:List CmpOp) (rs:List Expr) (pos:Pos),Cok Γ Κ Φ X r->chkE Γ c (.Compare l ops rs pos)=true->PT X (.Compare l ops rs pos) (dJ X.K λρ=>aJ Κ Φ c ρ>>=λx=>jK x.2)
 A:∀(Γ:Gm) (X:Cx) (r:Nat) (es:List Expr),Cok Γ Κ Φ X r->eC Γ c es=true->PA X es (tDA X.K (dU Κ Φ c))
 O:∀(Γ:Gm) (X:Cx) (r:Nat) (e:Option Expr),Cok Γ Κ Φ X r->oZ Γ c e=true->PO X e (tDO X.K (tu Κ Φ c))
 W:∀(Γ:Gm) (X:Cx) (r:Nat) (e tg:Expr),Cok Γ Κ Φ X r->yX c tg=true->kG Γ c e=true->PI X tg e (tDW X.K (evW Κ Φ c))
 G:∀(Γ:Gm) (X:Cx) (r:Nat) (e:Expr),Cok Γ Κ Φ X r->tF Γ c e=true->∃a,c=.tv a/\PE X e (tD X.K (aJ Κ Φ a))
def pI:C->Nat
 |.and _ _|.or _ _|.not _|.tv _|.nil|.cons _ _|.eN _|.enum _=>2
 |.cmp _ _ _|.oQ _ _=>1
 |_=>0
variable {Κ:List D}{Φ:List Fn}
theorem Qm (h:pI c<2):eB a c e=false:=by cases c<;>first|rfl|exact absurd h (cq 2)
theorem Qn (h:pI c<2):eC a c b=false:=by cases c<;>first|rfl|exact absurd h (cq 2)
theorem Qo (h:pI c<2):oZ a c o=false:=by cases c<;>first|rfl|exact absurd h (cq 2)
theorem Qp (h:pI c<2):kG a c e=false:=by cases c<;>first|rfl|exact absurd h (cq 2)
theorem Qq (h:pI c<2):tF a c e=false:=by cases c<;>first|rfl|exact absurd h (cq 2)
theorem Sd.q (d:∀Γ X r e,Cok Γ Κ Φ X r->chkE Γ c e=true->PE X e (tD X.K (aJ Κ Φ c)))(f:∀Γ X r l a rs pos,Cok Γ Κ Φ X r->chkE Γ c (.Compare l a rs pos)=true->PT X (.Compare l a rs pos) (dJ X.K λρ=>aJ Κ Φ c ρ>>=λx=>jK x.2))(b:pI c<2):Sd Κ Φ c:=⟨d,λ_ _ _ _ _ h=>ff (Qm b) h,f,λ_ _ _ _ _ h=>ff (Qn b) h,λ_ _ _ _ _ h=>ff (Qo b) h,λ_ _ _ _ _ _ _ h=>ff (Qp b) h,λ_ _ _ _ _ h=>ff (Qq b) h⟩
theorem Qr (h:pI c=0):chkE d c (.Compare l a rs b)=false:=by cases c<;>first|rfl|(cases h;done)
theorem Sd.x (b:∀Γ X r e,Cok Γ Κ Φ X r->chkE Γ c e=true->PE X e (tD X.K (aJ Κ Φ c)))(a:pI c=0):Sd Κ Φ c:=Sd.q b (λ_ _ _ _ _ _ _ _ h=>ff (Qr a) h) (a▸Nat.zero_lt_two)
theorem Qs:Sd Κ Φ (.var i):=Sd.x (λf X r e k h=>by obtain⟨x,p,rfl,h⟩:=jR h;obtain⟨a,b,c,d⟩:=k.aM h;exact N1 a b c d) rfl
theorem Qt:Sd Κ Φ .aK:=Sd.x (λa X r e k h=>by obtain⟨_,_,rfl⟩:=tP (sg h);exact y6 LI λ_ _=>rfl) rfl
theorem CU {b:Bool}:Sd Κ Φ (.bl b):=Sd.x (λa X r e k h=>by obtain⟨_,_,rfl⟩:=tP (sg h);exact y6 LH λ_ _=>rfl) rfl
theorem Qu {b:Int}:Sd Κ Φ (.int b):=Sd.x (λa X r e k h=>by obtain⟨_,_,rfl⟩:=tP (sg h);exact y6 LG λ_ _=>rfl) rfl
theorem Qv {b:Str}:Sd Κ Φ (.str b):=Sd.x (λd X r e k h=>by obtain⟨a,c⟩:=aC h;obtain⟨_,_,rfl⟩:=tP (sg a);exact y6 Fb λ_ _=>⟨rfl,c⟩) rfl
theorem Qw (c:Sd Κ Φ a)(d:Sd Κ Φ b):Sd Κ Φ (.bin n a b):=Sd.x (λo X r e k h=>by obtain⟨v,f,g⟩:=aH h;obtain⟨p,rfl⟩:=Qc f;obtain⟨i,j,l,m⟩:=bH g;cases sg i;exact N2 j (c.E o X r _ k l) (d.E o X r _ k m)) rfl
theorem Qx (b:Sd Κ Φ a):Sd Κ Φ (.neg a):=Sd.x (λi X r e k h=>by obtain⟨⟨o,x⟩,c,d⟩:=aH h;obtain⟨p,rfl⟩:=pG c;obtain⟨f,g⟩:=aC d;cases sg f;exact N3 (b.E i X r _ k g)) rfl
theorem HZ (h:chkE q (.cmp c a b) e=true):∃l r p,e=.Compare l [c] [r] p/\z52 c=true/\dt c r=false/\chkE q a l=true/\chkE q b r=true:=by obtain⟨⟨l,o,rs⟩,g,i⟩:=aH h;obtain⟨p,rfl⟩:=mR g;obtain⟨j,d⟩:=aC i;obtain⟨r,k,f⟩:=aH d;cases sg j;cases fV k;obtain⟨d,f,m,n⟩:=bH f;exact⟨l,r,p,rfl,d,cU f,m,n⟩
theorem Qy (i:Sd Κ Φ a)(j:Sd Κ Φ b):Sd Κ Φ (.cmp o a b):=Sd.q (λs X r e k h=>by
 obtain⟨_,_,_,rfl,c,d,f,g⟩:=HZ h;exact zuv k.hu c d (i.E s X r _ k f) (j.E s X r _ k g)) (λs X r l m rs p k h=>by
 obtain⟨_,_,_,n,c,d,f,g⟩:=HZ h;cases n;exact zwa k.hu c d (i.E s X r _ k f) (j.E s X r _ k g)) Nat.one_lt_two
theorem Ia (h:((nY e).any λv=>decide (v.2.1=[o])&&(bI v.2.2).any λr=>decide (fN r=some w)&&chkE n a v.1)=true):∃l k q p,e=.Compare l [o] [.Constant w k q] p/\chkE n a l=true:=by obtain⟨⟨l,o,rs⟩,b,c⟩:=aH h;obtain⟨p,rfl⟩:=mR b;obtain⟨d,f⟩:=aC c;obtain⟨r,g,i⟩:=aH f;obtain⟨j,m⟩:=aC i;cases sg d;cases fV g;obtain⟨_,_,rfl⟩:=tP (sg j);exact⟨_,_,_,_,rfl,m⟩
theorem Qz (c:Sd Κ Φ a):Sd Κ Φ (.oQ g a):=Sd.q (λi X r e k h=>by
 obtain⟨_,_,_,_,rfl,b⟩:=Ia h;exact N5 rfl (c.E i X r _ k b)) (λi X r l d rs p k h=>by
 obtain⟨_,_,_,_,f,b⟩:=Ia h;cases f;exact N6 rfl (c.E i X r _ k b)) Nat.one_lt_two
theorem tR (h:rB f g o p a=true):(∃x y,a=[x,y]/\f x=true/\g y=true)\/∃x y z r,a=x::y::z::r/\f x=true/\g (.BoolOp o (y::z::r) p)=true:=by
 rcases a with _|⟨x,_|⟨y,_|⟨z,a⟩⟩⟩
 ·cases h
 ·cases h
 ·exact .inl ⟨x,y,rfl,(aC h).1,(aC h).2⟩
 ·exact .inr ⟨x,y,z,a,rfl,(aC h).1,(aC h).2⟩
theorem QA (f:Sd Κ Φ a)(g:Sd Κ Φ b):Sd Κ Φ (.and a b) where
 E:=λq X r e k h=>by
  obtain⟨⟨o,n,p⟩,i,j⟩:=aH h;cases i' i;obtain⟨l,m⟩:=aC j;cases sg l;rcases tR m with⟨x,y,rfl,c,d⟩|⟨x,y,z,t,rfl,c,d⟩
  ·exact GS (f.E q X r _ k c) (AF (g.E q X r _ k d))
  ·exact GS (f.E q X r _ k c) (g.E q X r _ k d)
 T:=λq X r e k h=>by
  obtain⟨⟨o,n,p⟩,i,j⟩:=aH h;cases i' i;obtain⟨l,m⟩:=aC j;cases sg l;rcases tR m with⟨x,y,rfl,c,d⟩|⟨x,y,z,t,rfl,c,d⟩
  ·have w:=w_and (pos:=p) (f.T q X r _ k c).1 (Fh (g.T q X r _ k d).1);exact⟨w.pt,λ_=>w⟩
  ·have w:=w_and (f.T q X r _ k c).1 ((g.T q X r _ k d).2 ⟨_,_,_,rfl⟩);exact⟨w.pt,λ_=>w⟩
 Q:=λ_ _ _ _ _ _ _ _ h=>ff rfl h
 A:=λ_ _ _ _ _ h=>ff rfl h
 O:=λ_ _ _ _ _ h=>ff rfl h
 W:=λ_ _ _ _ _ _ _ h=>ff rfl h
 G:=λ_ _ _ _ _ h=>ff rfl h
theorem CV (f:Sd Κ Φ a)(g:Sd Κ Φ b):Sd Κ Φ (.or a b) where
 E:=λq X r e k h=>by
  obtain⟨⟨o,n,p⟩,i,j⟩:=aH h;cases i' i;obtain⟨l,m⟩:=aC j;cases sg l;rcases tR m with⟨x,y,rfl,c,d⟩|⟨x,y,z,t,rfl,c,d⟩
  ·exact wG (f.E q X r _ k c) (AF (g.E q X r _ k d))
  ·exact wG (f.E q X r _ k c) (g.E q X r _ k d)
 T:=λq X r e k h=>by
  obtain⟨⟨o,n,p⟩,i,j⟩:=aH h;cases i' i;obtain⟨l,m⟩:=aC j;cases sg l;rcases tR m with⟨x,y,rfl,c,d⟩|⟨x,y,z,t,rfl,c,d⟩
  ·have w:=w_or (pos:=p) (f.T q X r _ k c).1 (Fi (g.T q X r _ k d).1);exact⟨w.pt,λ_=>w⟩
  ·have w:=w_or (f.T q X r _ k c).1 ((g.T q X r _ k d).2 ⟨_,_,_,rfl⟩);exact⟨w.pt,λ_=>w⟩
 Q:=λ_ _ _ _ _ _ _ _ h=>ff rfl h
 A:=λ_ _ _ _ _ h=>ff rfl h
 O:=λ_ _ _ _ _ h=>ff rfl h
 W:=λ_ _ _ _ _ _ _ h=>ff rfl h
 G:=λ_ _ _ _ _ h=>ff rfl h
theorem QB (g:Sd Κ Φ a):Sd Κ Φ (.not a) where
 E:=λi X r e k h=>by obtain⟨⟨o,x⟩,b,c⟩:=aH h;obtain⟨p,rfl⟩:=pG b;obtain⟨d,f⟩:=aC c;cases sg d;exact N8 (g.E i X r _ k f)
 T:=λi X r e k h=>by obtain⟨⟨o,x⟩,b,c⟩:=aH h;obtain⟨p,rfl⟩:=pG b;obtain⟨d,f⟩:=aC c;cases sg d;exact⟨mH (g.T i X r _ k f).1,λ⟨_,_,_,z⟩=>by cases z⟩
 Q:=λ_ _ _ _ _ _ _ _ h=>ff rfl h
 A:=λ_ _ _ _ _ h=>ff rfl h
 O:=λ_ _ _ _ _ h=>ff rfl h
 W:=λ_ _ _ _ _ _ _ h=>ff rfl h
 G:=λ_ _ _ _ _ h=>ff rfl h
theorem QC (h:GJ e=true):∃l o r p,e=.Compare l o r p:=by cases e<;>first|exact ff rfl h|exact⟨_,_,_,_,rfl⟩
theorem CW (c:Sd Κ Φ a):Sd Κ Φ (.tv a) where
 E:=λ_ _ _ _ _ h=>ff rfl h
 T:=λg X r e k h=>by
  obtain⟨b,d⟩:=aC h;rcases dz.mp b with b|b
  ·exact⟨N9 (c.E g X r _ k d) (HY b _),λ⟨_,_,_,z⟩=>by subst z;cases b⟩
  ·obtain⟨_,_,_,_,rfl⟩:=QC b;exact⟨c.Q g X r _ _ _ _ k d,λ⟨_,_,_,z⟩=>by cases z⟩
 Q:=λ_ _ _ _ _ _ _ _ h=>ff rfl h
 A:=λ_ _ _ _ _ h=>ff rfl h
 O:=λg X r e k h=>by obtain⟨v,rfl,h⟩:=aH h;exact Ol (c.E g X r _ k h)
 W:=λg X r e f k _ h=>gR (c.E g X r _ k (aC h).2)
 G:=λg X r e k h=>⟨a,rfl,c.E g X r _ k h⟩
theorem QD (f:Sd Κ Φ c)(g:Sd Κ Φ a)(i:Sd Κ Φ b):Sd Κ Φ (.tf c a b):=Sd.x (λd X r e k h=>by obtain⟨v,j,l⟩:=aH h;obtain⟨p,rfl⟩:=Qd j;obtain⟨m,n,o⟩:=aQ l;exact Oa (f.T d X r _ k m).1 (g.E d X r _ k n) (i.E d X r _ k o)) rfl
theorem QE (c:Sd Κ Φ a):Sd Κ Φ (.tup a):=Sd.x (λj X r e k h=>by obtain⟨v,d,f⟩:=aH h;obtain⟨_,_,rfl⟩:=zi d;obtain⟨g,b⟩:=aC f;exact Ob (c.A j X r _ k b) λl i e=>by rw[zl Κ Φ b l i e];exact GH (sg g)) rfl
theorem QF (c:Sd Κ Φ a):Sd Κ Φ (.lst a):=Sd.x (λj X r e k h=>by obtain⟨v,d,f⟩:=aH h;obtain⟨_,rfl⟩:=HX d;obtain⟨g,b⟩:=aC f;exact Oc (c.A j X r _ k b) λl i e=>by rw[zl Κ Φ b l i e];exact GH (sg g)) rfl
theorem QG:Sd Κ Φ .gO:=Sd.x (λi X r e k h=>by obtain⟨⟨a,b⟩,c,d⟩:=aH h;obtain⟨_,rfl⟩:=tQ c;obtain⟨f,g⟩:=aC d;cases eW f;cases eW g;exact Od) rfl
theorem CY (c:Sd Κ Φ a)(d:Sd Κ Φ b):Sd Κ Φ (.ix a b):=Sd.x (λm X r e k h=>by obtain⟨v,f,g⟩:=aH h;obtain⟨_,rfl⟩:=uK f;obtain⟨i,j,l⟩:=aQ g;exact d_ix k.hu i (c.E m X r _ k j) (d.E m X r _ k l)) rfl
theorem CZ {t:C}(b:Sd Κ Φ a)(c:Sd Κ Φ t)(d:Sd Κ Φ v):Sd Κ Φ (.sl a t v):=Sd.x (λq X r e k h=>by obtain⟨⟨x,i⟩,f,g⟩:=aH h;obtain⟨_,rfl⟩:=uK f;obtain⟨⟨l,u,s⟩,hs,j⟩:=aH g;obtain⟨_,rfl⟩:=Qe hs;obtain⟨m,n,o,p⟩:=bH j;cases ez.mp m;exact d_sl (b.E q X r _ k n) (c.O q X r _ k o) (d.O q X r _ k p)) rfl
theorem QH (g:Sd Κ Φ args):Sd Κ Φ (.call j f args):=Sd.x (λz X r e k h=>by
 obtain⟨⟨x,B⟩,i,l⟩:=aH h;obtain⟨_,_,rfl⟩:=jQ i;obtain⟨a,n,o,b,p⟩:=dE l;obtain⟨y,B,rfl⟩:=rM p;obtain⟨h0,a⟩:=aC a;cases sj a;obtain⟨q,g2⟩:=k.gl n;obtain⟨m,kk,ps,s,t,u⟩:=k.fns j _ _ (sj o);refine PE.imp (zqj u (k.room h0) t (g.A z X r _ k b) (rO b) q g2 (zl Κ Φ b)) λC H Q d=>?_
 have v:aJ Κ Φ (.call j x args)=λw=>dU Κ Φ args w>>=λc=>m (c.map (·.2))>>=λr=>.ok (gJ r.2 (jL r.1),r.2):=by
  funext w
  show(dU Κ Φ args w>>=λc=>match Φ[j]? with|some m=>m (c.map (·.2))>>=λr=>.ok (gJ r.2 (jL r.1),r.2)|none=>.no)=_;rw[s]
 rw[v]at d;exact d) rfl
theorem C1 (n:Sd Κ Φ args):Sd Κ Φ (.bi f args):=Sd.x (λo X r e k h=>by
 obtain⟨⟨x,es⟩,p,q⟩:=aH h;obtain⟨_,_,rfl⟩:=jQ p;obtain⟨a,s,c,b,t⟩:=dE q;obtain⟨y,es,rfl⟩:=rM t;have a:=sj a;obtain⟨d,g,i,j⟩:=k.blt s;obtain⟨c,l⟩:=aC c;have hf:=cg.mp c;have m:=n.A o X r _ k b;simp only[az,eh,or_false]at hf;rcases hf with rfl|rfl|rfl
 ·exact d_cB G0 g (by rw[a];decide+kernel) m (rO b) d j i
 ·exact d_cB (Oq (k.calm (CT l rfl))) g (by rw[a];decide+kernel) m (rO b) d j i
 ·exact zu5 PL g (by rw[a];decide+kernel) m (rO b) d j i) rfl
theorem QI (o:Sd Κ Φ a):Sd Κ Φ (.jJ f a):=Sd.x (λp X r e k h=>by
 obtain⟨⟨x,es⟩,q,s⟩:=aH h;obtain⟨_,_,rfl⟩:=jQ q;obtain⟨t,u,b,v⟩:=bH s;obtain⟨y,w,z⟩:=aH v;obtain⟨A,B⟩:=aC z;cases fV w;have c:=sj t;obtain⟨d,g,i,j⟩:=k.blt u;obtain⟨a,rfl,l⟩:=o.G p X r _ k B;have m:=cU A;obtain⟨b,n⟩:=aC b;have hf:=cg.mp b;simp only[wx,az,eh,or_false]at hf;rcases hf with rfl|rfl|rfl
 ·exact zj4 O9 g (by rw[c];decide+kernel) m l d j i
 ·exact znu (PJ k.hu) g (by rw[c];decide+kernel) m l d j i
 ·exact zj4 (Pp (k.calm n)) g (by rw[c];decide+kernel) m l d j i) rfl
theorem QJ (c:Sd Κ Φ a):Sd Κ Φ (.gL a A):=Sd.x (λF X r e k h=>by obtain⟨⟨x,I⟩,d,f⟩:=aH h;obtain⟨_,_,rfl⟩:=jQ d;obtain⟨g,i,j⟩:=aQ f;obtain⟨⟨y,t⟩,l,G⟩:=aH j;obtain⟨m,n,H⟩:=aQ G;obtain⟨T,o,p⟩:=aH H;cases CQ l;cases fV o;cases sj g;obtain⟨q,g2,B,C⟩:=k.blt i;obtain⟨D,p2,rfl,rfl,s,b⟩:=Qk p;obtain⟨u,v,w,z⟩:=k.blt s;exact zu2 g2 q v (Ql b) u z w b (cU m) (c.E F X r _ k n)) rfl
theorem C3 (o:Sd Κ Φ a)(p:Sd Κ Φ args):Sd Κ Φ (.mt m a args):=Sd.x (λd X r e k h=>by
 obtain⟨⟨x,n,es,b⟩,q,s⟩:=aH h;obtain⟨C,D,rfl,t⟩:=jz q;obtain⟨h0,u,c,v⟩:=bH s;obtain⟨w,z,f,B,g⟩:=dE h0;obtain⟨y,es,rfl⟩:=rM v;cases sj w;have i:=t.symm.trans B;have j:=o.E d X r _ k u;have l:=p.A d X r _ k c;have hm:=cg.mp z;simp at hm;rcases hm with rfl|rfl
 ·exact d_mt PySem.F.plainAttrs_dict PySem.F.slot_dict_get PySem.F.type_dict_get (OM k.hu) (λ_ _ _ _ _ _ r e=>ON r e) j l f (rO c) (sg g) i
 ·exact d_mt PySem.F.plainAttrs_str PySem.F.slot_str_join PySem.F.type_str_join OQ (λ_ _ _ _ _ _ r e=>OR r e) j l f (rO c) (sg g) i) rfl
theorem QK (d:Sd Κ Φ c)(k:Cok l Κ Φ X n)(h:wt (wu c) (λt=>eB l c t) a=true):oN X a (dJ X.K (dG Κ Φ c)):=by
 cases a with
 |nil=>
  have:c=.nil:=by cases c<;>first|exact ff rfl h|rfl
  subst this;refine λj s m H Q I q=>GB j s m H Q I ?_;obtain⟨o,F,b,i,e,q⟩:=q;cases e;exact q H (Same.refl H)
 |cons t r=>obtain⟨f,g⟩:=aC h;cases eW f;exact GC (d.T l X n t k g).1
theorem sC {c:C}(z:Sd Κ Φ q)(A:Sd Κ Φ c)(B:Sd Κ Φ f)(k:Cok N Κ Φ X r)(h:chkE N (.comp u O j v q c f) e=true):
  ∃l t i d a pos,e=.ListComp l [⟨t,i,d,0⟩] a pos/\BlkScope X a j u O/\(∀i∈tgIx v,i<u)/\PI X t i (tDW X.K (evW Κ Φ q))/\(∀C b s H,PG (blk X a j C b s H) t (tDG X.K v))/\(∀C b s H,oN (blk X a j C b s H) d (dJ X.K (dG Κ Φ c)))/\(∀C b s H,PE (blk X a j C b s H) l (tD X.K (aJ Κ Φ f)))/\(∀x,fq i X.env x=pure x)/\N.cm=true:=by
 obtain⟨⟨l,Q,a⟩,D,g⟩:=aH h;obtain⟨pos,rfl⟩:=wU D;obtain⟨⟨t,i,d,kk⟩,F,g⟩:=aH g;cases fV F;obtain⟨h0,w,G,I,g⟩:=dE g;obtain⟨m,n,J,L,M⟩:=dE h0;obtain⟨o,m⟩:=aC m;cases sj m;have n:=bx.mp n;have y:=GA k.hN k.hs J;have p:=λC b s H=>k.blk y.kind (sg M) C b s H;exact⟨l,t,i,d,a,pos,rfl,y,λi P=>sg (n i P),z.W N X r _ t k (aC w).2 G,λC b s H=>uL (p C b s H) (aC w).1,λC b s H=>QK A (p C b s H) I,λC b s H=>B.E _ _ r _ (p C b s H) g,uM L _,o⟩
theorem QL {a:C}(f:Sd Κ Φ g)(j:Sd Κ Φ a)(l:Sd Κ Φ b):Sd Κ Φ (.comp u v w y g a b):=Sd.x (λD X r e k h=>by obtain⟨z,t,i,m,c,A,rfl,n,o,B,p,q,s,hs,d⟩:=sC f j l k h;exact(zjr (k.calm d) n o B p q s hs).1) rfl
theorem QM {b:Bool}:Sd Κ Φ (.tj b x):=Sd.x (λΓ X r e k h=>by obtain⟨⟨f,es⟩,j,l⟩:=aH h;obtain⟨_,_,rfl⟩:=jQ j;obtain⟨m,o,p⟩:=aQ l;obtain⟨⟨S,T⟩,q,s⟩:=aH p;cases CQ q;obtain⟨⟨n,c⟩,t,w⟩:=aH s;obtain⟨d,g⟩:=aC w;obtain⟨U,p1,hn,d⟩:=jR d;obtain⟨C,p2,y,g⟩:=jR g;cases hn;cases y;obtain⟨z,B,D,V⟩:=bH d;obtain⟨E,F,G⟩:=aQ g;cases sj m;cases sj z;cases sj E;obtain⟨H,g2,W,Y⟩:=k.blt o;obtain⟨I,J⟩:=k.gl F;obtain⟨a,oe,Z,K,L,M,i⟩:=k.xc n c t;obtain⟨A,v,u,m1,xa,N,O,P,Q,R⟩:=k.xk.sub c x b G;rw[m1]at i;cases i;exact zvr g2 H K (k.hs▸sj B) (cU D) L M I R P Q J xa N O) rfl
theorem QN:Sd Κ Φ .nil where
 E:=λ_ _ _ _ _ h=>ff rfl h
 T:=λ_ _ _ _ _ h=>ff rfl h
 Q:=λ_ _ _ _ _ _ _ _ h=>ff rfl h
 A:=λa X r b k h=>by cases eW h;exact GW
 O:=λa X r e k h=>by cases ez.mp h;exact tJ
 W:=λ_ _ _ _ _ _ _ h=>ff rfl h
 G:=λ_ _ _ _ _ h=>ff rfl h
theorem QO (c:Sd Κ Φ a)(d:Sd Κ Φ b):Sd Κ Φ (.cons a b) where
 E:=λ_ _ _ _ _ h=>ff rfl h
 T:=λ_ _ _ _ _ h=>ff rfl h
 Q:=λ_ _ _ _ _ _ _ _ h=>ff rfl h
 A:=λj X r l k h=>by
  cases l with
  |nil=>cases h
  |cons e l=>obtain⟨f,g,i⟩:=aQ h;exact GX (cU f) (c.E j X r _ k g) (d.A j X r _ k i)
 O:=λ_ _ _ _ _ h=>ff rfl h
 W:=λ_ _ _ _ _ _ _ h=>ff rfl h
 G:=λ_ _ _ _ _ h=>ff rfl h
theorem QP (j:Sd Κ Φ a):Sd Κ Φ (.eN a) where
 E:=λ_ _ _ _ _ h=>ff rfl h
 T:=λ_ _ _ _ _ h=>ff rfl h
 Q:=λ_ _ _ _ _ _ _ _ h=>ff rfl h
 A:=λ_ _ _ _ _ h=>ff rfl h
 O:=λ_ _ _ _ _ h=>ff rfl h
 W:=λl X r e s k _ h=>by
  obtain⟨⟨x,es⟩,m,n⟩:=aH h;obtain⟨_,_,rfl⟩:=jQ m;obtain⟨o,p,b,c⟩:=bH n;obtain⟨c,q⟩:=aC c;cases sj o;obtain⟨d,f,t,u⟩:=k.blt p;have hs:=bx.mp (rO b);have g:=zl Κ Φ b;have i:=j.A l X r _ k b;rcases es with _|⟨x,_|⟨y,_|⟨z,es⟩⟩⟩
  ·cases c
  ·exact OA f d (cU (hs x (.head _))) i g
  ·exact OB f d (cU (hs x (.head _))) (cU (hs y (.tail _ (.head _)))) i g
  ·exact absurd (sg q) (Nat.not_le.mpr (Nat.succ_lt_succ (Nat.succ_lt_succ (Nat.succ_pos _))))
 G:=λ_ _ _ _ _ h=>ff rfl h
theorem C4 (h:isTup e=true):∃a b c,e=.Tuple a b c:=by cases e<;>first|exact ff rfl h|exact⟨_,_,_,rfl⟩
theorem Ib (h:kG j (.enum a) e=true):∃y q p,e=.Call (.Name "enumerate" q) [y] [] p/\dI j "enumerate"=true/\isStar y=false/\chkE j a y=true:=by obtain⟨⟨x,k⟩,c,d⟩:=aH h;obtain⟨q,p,rfl⟩:=jQ c;obtain⟨f,g,b⟩:=aQ d;obtain⟨y,i,b⟩:=aH b;cases fV i;cases sj f;exact⟨y,q,p,rfl,g,cU (aC b).1,(aC b).2⟩
theorem QQ (b:Sd Κ Φ a):Sd Κ Φ (.enum a) where
 E:=λ_ _ _ _ _ h=>ff rfl h
 T:=λ_ _ _ _ _ h=>ff rfl h
 Q:=λ_ _ _ _ _ _ _ _ h=>ff rfl h
 A:=λ_ _ _ _ _ h=>ff rfl h
 O:=λ_ _ _ _ _ h=>ff rfl h
 W:=λn X r e j k c h=>by obtain⟨y,q,p,rfl,d,f,g⟩:=Ib h;obtain⟨_,_,_,rfl⟩:=C4 c;obtain⟨i,g2,l,m⟩:=k.blt d;exact PV g2 i f (b.E n X r _ k g)
 G:=λ_ _ _ _ _ h=>ff rfl h
theorem QR (b:pI c=0)(hn:∀a e,chkE a c e=false):Sd Κ Φ c:=Sd.x (λa X r e k h=>ff (hn a e) h) b
theorem all (c:C):Sd Κ Φ c:=by
 induction c with
 |var=>exact Qs
 |aK=>exact Qt
 |bl=>exact CU
 |int=>exact Qu
 |str=>exact Qv
 |bin _ _ _ a b=>exact Qw a b
 |neg _ a=>exact Qx a
 |cmp _ _ _ a b=>exact Qy a b
 |oQ _ _ a=>exact Qz a
 |and _ _ a b=>exact QA a b
 |or _ _ a b=>exact CV a b
 |not _ a=>exact QB a
 |tf _ _ _ d a b=>exact QD d a b
 |tup _ a=>exact QE a
 |lst _ a=>exact QF a
 |gO=>exact QG
 |ix _ _ a b=>exact CY a b
 |sl _ _ _ a b d=>exact CZ a b d
 |call _ _ _ a=>exact QH a
 |bi _ _ a=>exact C1 a
 |jJ _ _ a=>exact QI a
 |gL _ _ a=>exact QJ a
 |mt _ _ _ a b=>exact C3 a b
 |comp _ _ _ _ _ _ _ a b d=>exact QL a b d
 |eN _ a=>exact QP a
 |enum _ a=>exact QQ a
 |tv _ a=>exact CW a
 |tj=>exact QM
 |nil=>exact QN
 |cons _ _ a b=>exact QO a b
 |_=>exact QR rfl λ_ _=>rfl
end
section
variable (Κ:List D)(Φ:List Fn)
theorem Ic:i8 (.ListComp a b s p) (some (.Name t px)) n env=pure (env.blockKind==.function&&env.kindOf t==some .local&&px.line==p.line&& !(s.names.any λ(n,k)=>n==t&&(k==.local||k==.cell))):=rfl
theorem QS (hn:tG c=false)(h:chkE k c (.ListComp j l s p)=true):∃d e f g i a b,c=.comp d e f g i a b:=by cases c<;>first|exact ff rfl h|exact⟨_,_,_,_,_,_,_,rfl⟩|(cases hn;done)
theorem QT (h:chkE b c (.SetComp a d s p)=true):False:=by cases c<;>exact ff rfl h
theorem QU (h:chkE d c (.DictComp b a e s p)=true):False:=by cases c<;>exact ff rfl h
theorem C5 (k:Cok R Κ Φ X r)(A:mE R i x=true)(hn:tG c=false)(a:chkE R c v=true):PS X (.Assign [.Name x px] v pos) (tDS X.K λT=>aJ Κ Φ c T>>=λx=>.ok (.nx (T.set i (some (z1n x))))):=by
 obtain⟨l1,l2,j⟩:=k.loc A;have nd:X.N.Nodup:=k.hN▸k.nd;cases l:kZ v with
 |false=>exact zqb nd l1 l2 j (sV l _ _ _) ((all c).E R X r _ k a)
 |true=>
  cases v<;>first|(cases l;done)|skip
  ·rename_i I V s p;cases f:(X.env.blockKind==.function&&X.env.kindOf x==some .local&&px.line==p.line&& !(s.names.any λ(n,k)=>n==x&&(k==.local||k==.cell)))with
   |false=>exact zqb nd l1 l2 j (by rw[Ic,f]) ((all c).E R X r _ k a)
   |true=>
    obtain⟨J,L,M,O,B,b,g,rfl⟩:=QS hn a;obtain⟨C,t,P,F,h,m,e,o,h0,U,u,w,y,hs,d⟩:=sC (all B) (all b) (all g) k a;cases e;have G:X.env.scope.names.lookup x=some .local:=by simp at f;exact f.1.1.2
    refine PS.imp (zig (k.calm d) nd l1 G o U u w y (by rw[Ic,f]) hs) λD S H q=>?_;exact G9 (λS H Q z=>(zjr (pos:=p) (k.calm d) o h0 U u w y hs).2 S H Q z) D S H q
  ·exact(QT a).elim
  ·exact(QU a).elim
theorem QV (k:Cok d Κ Φ X r)(hh:wy d c g e=true):PI X g e (tDF X.K (evF Κ Φ c))/\qY e=true:=by
 obtain⟨j,h⟩:=aC hh;have l:=(all c).W d X r e g k j h;cases c with
 |tv a=>
  have b:=PI.Hb (k:=λm=>l' Κ Φ (.tv a) m) (Cn ((all a).E d X r _ k (aC h).2)) (G' l);refine⟨?_,(aC h).1⟩;cases a with
  |var i=>obtain⟨x,p,rfl,f⟩:=jR (aC h).2;obtain⟨n,o,s,t⟩:=k.aM f;exact PI.Hb (O2 n o s t) b
  |_=>exact b
 |enum a=>obtain⟨y,q,p,rfl,f,u,w⟩:=Ib h;obtain⟨_,_,_,rfl⟩:=C4 j;obtain⟨z,A,C,D⟩:=k.blt f;exact⟨PX A z u ((all a).E d X r _ k w),rfl⟩
 |eN a=>refine⟨G' l,?_⟩;obtain⟨v,B,_⟩:=aH h;obtain⟨_,_,rfl⟩:=jQ B;rfl
 |_=>exact ff rfl h
theorem QW (h:isTup v=false):pb [.Tuple a b c] v env=pure none:=by cases v<;>first|rfl|(cases h;done)
theorem mV (h:uA s=some v):∃p,s=.Assign v.1 v.2 p:=bS (q:=λv=>∃p,s=.Assign v.1 v.2 p) h (by cases s<;>first|exact .inl rfl|exact .inr ⟨_,rfl,_,rfl⟩)
theorem mW (h:uB s=some v):∃p,s=.Expr v p:=bS (q:=λv=>∃p,s=.Expr v p) h (by cases s<;>first|exact .inl rfl|exact .inr ⟨_,rfl,_,rfl⟩)
theorem wV (h:BO s=some v):∃p,s=.Return v p:=bS (q:=λv=>∃p,s=.Return v p) h (by cases s<;>first|exact .inl rfl|exact .inr ⟨_,rfl,_,rfl⟩)
theorem wW (h:BP s=some v):∃p,s=.If v.1 v.2.1 v.2.2 p:=bS (q:=λv=>∃p,s=.If v.1 v.2.1 v.2.2 p) h (by cases s<;>first|exact .inl rfl|exact .inr ⟨_,rfl,_,rfl⟩)
theorem pJ (h:wz s=some v):∃p,s=.For v.1 v.2.1 v.2.2.1 v.2.2.2 p:=bS (q:=λv=>∃p,s=.For v.1 v.2.1 v.2.2.1 v.2.2.2 p) h (by cases s<;>first|exact .inl rfl|exact .inr ⟨_,rfl,_,rfl⟩)
theorem wY (h:BQ s=some v):∃p,s=.While v.1 v.2.1 v.2.2 p:=bS (q:=λv=>∃p,s=.While v.1 v.2.1 v.2.2 p) h (by cases s<;>first|exact .inl rfl|exact .inr ⟨_,rfl,_,rfl⟩)
structure Ss (s:S):Prop where
 R:∀(Γ:Gm) (X:Cx) (r:Nat) (st:Stmt),Cok Γ Κ Φ X r->fm (model X.prog X.w) X.A X.env X.xe->tH Γ s st=true->PS X st (tDS X.K (aP Κ Φ s))
 L:∀(Γ:Gm) (X:Cx) (r:Nat) (st:List Stmt),Cok Γ Κ Φ X r->fm (model X.prog X.w) X.A X.env X.xe->chkL Γ s st=true->PSs X st (tDS X.K (aP Κ Φ s))
def C6:S->Bool
 |.nil=>false
 |.seq _ _=>false
 |_=>true
variable {Κ:List D}{Φ:List Fn}
theorem Ss.x (h:∀Γ X r st,Cok Γ Κ Φ X r->fm (model X.prog X.w) X.A X.env X.xe->tH Γ s st=true->PS X st (tDS X.K (aP Κ Φ s)))(a:C6 s=true):Ss Κ Φ s:=⟨h,by cases s<;>first|(cases a;done)|exact λ_ _ _ _ _ _ h=>ff rfl h⟩
theorem QX:Ss Κ Φ (.asg t e):=Ss.x (λu X r st k o h=>by
 obtain⟨⟨s,v⟩,d,f⟩:=aH h;obtain⟨p,rfl⟩:=mV d;obtain⟨x,g,j⟩:=aH f;cases fV g;obtain⟨a,l,m,c⟩:=bH j;cases t with
 |nm i=>obtain⟨y,q,rfl,n⟩:=jR a;exact C5 Κ Φ k n (cU l) c
 |tp is=>obtain⟨w,z⟩:=aC m;obtain⟨A,b,_⟩:=aH (aC a).2;obtain⟨_,_,rfl⟩:=zi b;exact zph (uL k a) ((all e).E u X r _ k c) ((show pa [_] _ _ _=i8 _ _ _ _ from rfl).trans (sV (cU w) _ _ _)) (QW (cU z)) rfl) rfl
theorem zwj:Ss Κ Φ (.mut m i args):=Ss.x (λG X r st k D h=>by obtain⟨c,d,e⟩:=aH h;obtain⟨p,rfl⟩:=mW d;obtain⟨⟨x,n,H,b⟩,hm,f⟩:=aH e;obtain⟨E,F,rfl,g⟩:=jz hm;obtain⟨h0,j,a⟩:=aQ f;obtain⟨l,o,s,t,u⟩:=dE h0;obtain⟨z,q,rfl,I⟩:=jR l;obtain⟨y,H,rfl⟩:=rM j;cases sj o;have hm:=cg.mp s;simp at hm;obtain⟨v,w,B,C⟩:=k.aM I;subst hm;exact zih v w B C ((all args).A G X r _ k a) (rO a) (sg u) (g.symm.trans t)) rfl
theorem QY:Ss Κ Φ (.drop e):=Ss.x (λa X r st k g h=>by obtain⟨v,b,c⟩:=aH h;obtain⟨p,rfl⟩:=mW b;obtain⟨d,f⟩:=aC c;exact OX (cU d) ((all e).E a X r _ k f)) rfl
theorem QZ:Ss Κ Φ (.ret e):=Ss.x (λs X r st k n h=>by
 obtain⟨o,b,c⟩:=aH h;obtain⟨p,rfl⟩:=wV b;obtain⟨v,rfl,a⟩:=aH c;have g:=(all e).E s X r _ k a;cases e with
 |var i=>obtain⟨x,q,rfl,d⟩:=jR a;obtain⟨f,j,l,m⟩:=k.aM d;exact z7e f j l m
 |_=>exact OW g) rfl
theorem C7 (e:Ss Κ Φ a)(f:Ss Κ Φ b):Ss Κ Φ (.bU c a b):=Ss.x (λn X r st k d h=>by obtain⟨v,g,i⟩:=aH h;obtain⟨p,rfl⟩:=wW g;obtain⟨j,l,m⟩:=aQ i;exact Cg ((all c).T n X r _ k j).1 (e.L n X r _ k d l) (f.L n X r _ k d m)) rfl
theorem Q0 (d:Ss Κ Φ b):Ss Κ Φ (.bJ t n b):=Ss.x (λq X r st k c h=>by obtain⟨a,h⟩:=aC h;obtain⟨⟨t,i,B,o⟩,e,f⟩:=aH h;obtain⟨p,rfl⟩:=pJ e;obtain⟨g,j,l,m⟩:=bH f;cases eW m;obtain⟨hf,hn⟩:=QV Κ Φ k j;exact zth c (k.calm a) hf (uL k g) (d.L q X r _ k c l) (uM hn _)) rfl
theorem tS (d:Ss Κ Φ b):Ss Κ Φ (.wh n c b):=Ss.x (λl X r st k a h=>by obtain⟨⟨t,B,o⟩,e,f⟩:=aH h;obtain⟨p,rfl⟩:=wY e;obtain⟨g,i,j⟩:=aQ f;cases eW j;exact O8 a ((all c).T l X r _ k g).1 (d.L l X r _ k a i)) rfl
theorem Cok.iZ {C:Addr}(k:Cok h Κ Φ X r)(nd:(h.N.set i "").Nodup)(b:l.cls=.ref C)(hm:X.mg c=some (.ref C)):Cok {h with N:=h.N.set i "",cm:=false,xc:=some (n,c),fns:=[]} Κ Φ (Mi.iZ X i n a l) r where
 hN:=by show X.N.set i ""=h.N.set i "";rw[k.hN]
 hs:=k.hs
 nd:=nd
 fn:=k.fn
 kind:=k.kind
 free:=k.free
 fns:=λj f n e=>by simp at e
 cst:=k.cst
 pH:=λj f n e=>by simp at e
 room:=λz=>by cases z
 calm:=λz=>by cases z
 hu:=k.hu
 mU:=k.mU
 zj:=λz=>by cases z
 xc:=λd g z=>by cases z;exact⟨a,l,C,rfl,λ_ _ _ _ I=>(I.pin (a,l) (ee _ bh)).1,b,hm⟩
 xk:=⟨k.xk.sub,k.xk.rs,k.xk.gQ⟩
theorem C8 (e:BU h=some v):∃a b,h=.ExceptHandler (some (.Name v.1 a)) (some v.2.1) v.2.2 b:=by
 unfold BU at e;split at e
 ·obtain⟨x,c,rfl⟩:=bn.mp e;obtain⟨p,rfl⟩:=tO c;exact⟨_,_,rfl⟩
 ·cases e
theorem wZ (e:wB s=some v):∃a b c,s=.Raise (some (.Call (.Name v.1 a) v.2 [] b)) none c:=by
 unfold wB at e;split at e
 ·obtain⟨q,p,rfl⟩:=jQ e;exact⟨_,_,_,rfl⟩
 ·cases e
theorem Q1 (s:S):Ss Κ Φ s:=by
 induction s with
 |nil=>exact⟨λ_ _ _ _ _ _ h=>ff rfl h,λd X r st k f h=>by cases eW h;exact OT⟩
 |seq a b i c=>
  refine⟨λ_ _ _ _ _ _ h=>ff rfl h,λd X r st k f h=>?_⟩;cases st with
  |nil=>cases h
  |cons s st=>exact OU (i.R d X r _ k f (aC h).1) (c.L d X r _ k f (aC h).2)
 |bad=>
  refine Ss.x (λd X r st k f h=>?_) rfl
  rintro g s l H D I ⟨m,F,j,so,e,_⟩
  cases e
 |asg=>exact QX
 |kA=>
  refine Ss.x (λd X r st k f h=>?_) rfl
  rintro g s l H D I ⟨m,F,j,so,e,_⟩
  cases e
 | «mut»=>exact zwj
 |drop=>exact QY
 |ret=>exact QZ
 |bU _ _ _ i c=>exact C7 i c
 |bJ _ _ _ c=>exact Q0 c
 |wh _ _ _ c=>exact tS c
theorem sL (Κ:List D)(Φ:List Fn)(s:S):∀a X r st,Cok a Κ Φ X r->fm (model X.prog X.w) X.A X.env X.xe->chkL a s st=true->PSs X st (tDS X.K (aP Κ Φ s)):=(Q1 s).L
end
section
variable (Κ:List D)(Φ:List Fn)
variable {Κ Φ}
theorem Q3 (h:BS e=true):∃z k p,e=.Constant (.str z) k p:=by obtain⟨c,a,h⟩:=aH h;obtain⟨k,p,rfl⟩:=tP a;cases c<;>first|(cases h;done)|exact⟨_,_,_,rfl⟩
end
section
variable {P:cj}{w:World}{K:W.Frag}{mg:Str->Option Value}{base:Heap}
structure Dok (Γ:Gm)(Κ:List D)(Φ:List Fn)(P:cj)(w:World)(K:W.Frag)(mg:Str->Option Value)(base:Heap)(k:Nat):Prop where
 free:∀x,Γ.free.contains x=true->mg x=none
 fns:∀(j:Nat) f n,Γ.fns[j]?=some (f,n)->∃m k' ps,Φ[j]?=some m/\k'<=k/\Cal P w K mg base k' f ps (spD K n m)
 cst:∀(j:Nat) x,Γ.cst[j]?=some x->∃d a,Κ[j]?=some d/\mg x=some (.ref a)/\∀H B,B none->Rep K H B (.ref a) d
 pH:∀(j:Nat) f n,Γ.fns[j]?=some (f,n)->∃m k' ps,Φ[j]?=some m/\k'<=k/\mQ P w K mg base k' f ps n m
 xk:rN Γ K mg
theorem Q4 (r:Reps K H A l b):StOk K ⟨H,λa=>H a=none\/A (some a),λ_=>none,A none⟩ H (l.map some++ax (n-l.length) none) (b.map (λd=>some (.od,d))++ax (n-b.length) none) where
 ext:=Same.refl H
 aM:=λa e=>.inl e
 own:=λa i e=>by cases e
 len:=by have:=r.length;simp;omega
 sl:=λi g d e=>by
  rw[km]at e;split at e
  ·rename_i m;rw[ar]at e;cases c:b[i]? with
   |none=>rw[c]at e;cases e
   |some k=>
    rw[c]at e;cases e;obtain⟨v,f,j⟩:=Reps.get r c;refine⟨v,?_,?_⟩
    ·rw[km,rj (by rw[am,r.length];rw[am]at m;exact m),ar,f];rfl
    ·refine(Rep.there _ j).weak λa h=>?_;cases a with
     |none=>exact h.1
     |some a=>exact⟨λz=>h.2 z,.inr h.1⟩
  ·rw[cr]at e;split at e<;>cases e
theorem d_fn {st:Stmt}(C:Fun K x x st f fd)(i:FnScope Γ.N ps (z08 st))(hs:Γ.sc=z08 st)(L:Γ.blk=false)(j:Γ.xc=none)(c:Dok Γ Κ Φ P w K mg base k)(D:chkL Γ s (z0f st)=true):
  FnOk P w K mg base lS (k+1) f fd ps (spD K ps.length (aT Κ Φ Γ.N.length s)):=by
 refine C.ok i (λT H Q E h=>h.choose_spec.choose_spec.choose_spec.1) λl A outer s1 H T Q E t m=>?_;obtain⟨B,u,r,M,rs,e,q⟩:=m;refine⟨_,sL Κ Φ s Γ (hT lS P w K mg base Γ.N x (z08 st) f l A outer s1 H E).vA k _ ⟨rfl,hs.symm,i.nd,λ_ _=>rfl,by rw[hs];exact i.kind,c.free,c.fns,c.cst,c.pH,λ_=>t,λ_=>rfl,t.units,λ_=>⟨rfl,rfl⟩,λ_=>rfl,λ_ _ z=>(by rw[j]at z;cases z),c.xk⟩ PassesOwn.never D,?_⟩;unfold aT at e;have y:=Q4 (n:=Γ.N.length) rs;generalize b:aP Κ Φ s (u.map (λd=>some (.od,d))++ax (Γ.N.length-u.length) none)=p at e
 match p,b,e with
 |.ok (.nx F),b,e=>cases e;refine⟨_,_,_,y,b,λG S O I R fr=>q .aK S (λa o e=>(fr a o e rfl).1) rfl⟩
 |.ok (.rt g d),b,e=>
  cases e;refine⟨_,_,_,y,b,λv S hk J=>q v S hk (J.weak λa h=>?_)⟩;cases g with
  |fr=>cases a<;>exact h
  |nu=>cases a<;>exact h
  |od=>cases a with
   |none=>exact .inr h
   |some a=>exact h.elim .inl λz=>.inr z
  |al=>cases a with
   |none=>exact .inr h
   |some a=>exact h.elim .inl λz=>.inr z
 |.exc _,b,e=>cases e
 |.no,b,e=>cases e
theorem zvx {st:Stmt}(d:Fun K x x st f fd)(g:FnScope y.N ps (z08 st))(hs:y.sc=z08 st)(n:y.blk=false)(i:y.xc=none)(o:Dok y Κ Φ P w K mg base k)(p:chkL y s (z0f st)=true):
  FnOk P w K mg base (CXE P w base) (k+1) f fd ps (HU K mg ps.length (aT Κ Φ y.N.length s)):=by
 obtain⟨oc,od,kV,j,r,an,l,ct,m,rfl,lk,a⟩:=d.ex;refine zmg lk a g (λz H Q E h=>h.choose_spec.choose_spec.choose_spec.1) λA outer s1 H z Q E t b=>?_;obtain⟨B,u,c,v,rs,e,q⟩:=b;unfold aT at e;split at e<;>cases e
theorem Q5 {ns:List Int}(h:SqL K H a (ns.map V.int)):Reps K H (λ_=>True) [.ref a] [.list (ns.map .int)]:=by
 refine⟨_,_,rfl,⟨a,ns.map V.int,rfl,?_,?_⟩,rfl⟩
 ·rcases h with(h|h)|h
  ·exact .inl ⟨h,trivial⟩
  ·exact .inr ⟨.inl h,trivial⟩
  ·exact .inr ⟨.inr h,trivial⟩
 ·clear h
  induction ns with
  |nil=>rfl
  |cons n ns b=>exact⟨_,_,rfl,rfl,b⟩
end
abbrev hld (o:Obj):HO:=.fD o (.own 0)
def Hs (mg:Str->Option Value)(c:Str)(j:Nat)(σ:L2.St)(H:Hp):Prop:=∃a oe C,σ[j]?=some (some (.ref a))/\H a=some (hld oe)/\oe.cls=.ref C/\mg c=some (.ref C)
structure Gd where
 kf:Nat
 args:C
 c:Str
 i:Nat
 j:Nat
 g:Str
 r:Bool
structure XR where
 c:Str
 cs:List (Str×Bool)
 B:Str
def XR.subs (r:XR):List (Str×Str×Bool):=(r.c,"ValueError",true)::r.cs.map λy=>(r.c,y.1,y.2)
def zm (K:W.Frag)(A:Addr):List (Str×Bool)->Prop
 | []=>True
 |y::l=>(∃D dd cd sl,W.nsIn K bp y.1=some (some (.ref D))/\K.lookup D=some ⟨.type "type",dd,.cls cd,sl⟩/\W.subIn K (.ref A) (.ref D)=some y.2)/\zm K A l
structure Kx (K:W.Frag)(r:XR)(A D:Addr):Prop where
 a:W.nsIn K bp r.c=some (some (.ref A))
 l:∃dd cd sl,K.lookup A=some ⟨.type "type",dd,.cls cd,sl⟩
 e:exV K A=true
 cl:W.findIn K (.ref A) "__class__"=some (some (.builtin "object.__class__"))
 ga:W.findIn K (.ref A) "__getattribute__"=some (some (.builtin "BaseException.__getattribute__"))
 gt:W.findIn K (.ref A) "__getattr__"=some none
 ob:W.subIn K (.ref A) (.type "object")=some true
 be:W.subIn K (.ref A) (.type "BaseException")=some true
 v:W.subIn K (.ref A) (.type "ValueError")=some true
 b:W.nsIn K bp r.B=some (some (.ref D))
 f:exV K D=true
 s:W.subIn K (.ref A) (.ref D)=some true
 cs:zm K A r.cs
def kxs (K:W.Frag):List XR->Prop
 | []=>True
 |r::l=>(∃A D,Kx K r A D)/\kxs K l
theorem zo {K:W.Frag}:∀{l:List XR} {r:XR},kxs K l->r∈l->∃A D,Kx K r A D
 | [],_,_,z=>nomatch z
 |_::_,_,h,.head _=>h.1
 |_::_,_,h,.tail _ z=>zo h.2 z
theorem Ie {K:W.Frag}:∀{l:List (Str×Bool)} {y:Str×Bool},zm K A l->y∈l->∃D a cd sl,W.nsIn K bp y.1=some (some (.ref D))/\K.lookup D=some ⟨.type "type",a,.cls cd,sl⟩/\W.subIn K (.ref A) (.ref D)=some y.2
 | [],_,_,z=>nomatch z
 |_::_,_,h,.head _=>h.1
 |_::_,_,h,.tail _ z=>Ie h.2 z
theorem zp {K:W.Frag}{D:Addr}(l:K.lookup D=some ⟨.type "type",a,.cls cd,sl⟩):W.typeIn K (.ref D)=some (.type "type")/\(W.clsIn K D).isSome=true:=by
 constructor
 ·show(K.lookup D).map (·.cls)=_;rw[l];rfl
 ·unfold W.clsIn;rw[l];rfl
theorem Q6 {K:W.Frag}(X:K.In h)(G:h.Ns bp mg)(g:kxs K d)(o:d≠[]->mg "ValueError"=none)(p:i.sub=(d.map XR.subs).flatten)(t:i.rs=d.map (·.c))(u:i.gQ=d.map λr=>(r.c,r.B)):rN i K mg:=by
 refine⟨λc C b z=>?_,λc z=>?_,λc B z=>?_⟩
 ·rw[p]at z;obtain⟨l,x,z⟩:=mn.mp (cg.mp z);obtain⟨r,hr,rfl⟩:=cf.mp x;obtain⟨A,D,k⟩:=zo g hr;obtain⟨M,cd,sl,j⟩:=k.l;have xa:XA K A:=⟨k.cl,k.ga,k.gt,k.ob,k.be,(zp j).1,(zp j).2,(zg k.e).1⟩;rcases az.mp z with e|z
  ·cases e;exact⟨A,.ty "ValueError",.type "ValueError",W.mg_of X G k.a,xa,XV.val,k.v,rfl,λw q=>q,.inr ⟨o (λq=>by rw[q]at hr;cases hr),by decide+kernel,by decide⟩⟩
  ·obtain⟨y,E,e⟩:=cf.mp z;cases e;obtain⟨m,F,H,I,J,n,L⟩:=Ie k.cs E;exact⟨A,.ref m,.ref m,W.mg_of X G k.a,xa,XV.own (zp n).1 (zp n).2,L,rfl,λw q=>q,.inl (W.mg_of X G J)⟩
 ·rw[t]at z;obtain⟨r,hr,rfl⟩:=cf.mp (cg.mp z);obtain⟨A,D,k⟩:=zo g hr;exact⟨A,W.mg_of X G k.a,k.e⟩
 ·rw[u]at z;obtain⟨r,hr,e⟩:=cf.mp (cg.mp z);cases e;obtain⟨A,D,k⟩:=zo g hr;exact⟨A,D,W.mg_of X G k.a,W.mg_of X G k.b,(zg k.e).1,(zg k.f).1,k.s⟩
inductive Kd where
 |n
 |e (c:Str) (r:Bool)
 |g (d:Gd) (je:Nat)
structure DRow where
 nm:Str
 st:Stmt
 N:List Str
 ps:List Str
 free:List Str
 fns:List Nat
 s:S
 F:Fn
 kd:Kd
 kc:List (Str×List Str):=[]
def cD (y:Str×List Str):D:=.tuple (y.2.map .str)
def sig (Rs:List DRow)(j:Nat):Str×Nat:=match Rs[j]? with
 |some c=>(c.nm,c.ps.length)
 |none=>("",0)
def fnAt (Rs:List DRow)(j:Nat):Fn:=match Rs[j]? with
 |some c=>c.F
 |none=>λ_=>.no
def DRow.G (Rs:List DRow)(xt:List XR)(r:DRow):Gm:={N:=r.N,sc:=z08 r.st,free:=r.free,fns:=r.fns.map (sig Rs),cst:=r.kc.map (·.1),sub:=(xt.map XR.subs).flatten,rs:=xt.map (·.c),gQ:=xt.map λr=>(r.c,r.B)}
def Kd.tj:Kd->Bool
 |.e _ _=>true
 |_=>false
def nE (Rs:List DRow)(j:Nat):Bool:=match Rs[j]? with
 |some c=>!c.kd.tj
 |none=>true
def DRow.part (Rs:List DRow)(xt:List XR)(i:Nat)(r:DRow):Bool:=match r.kd with
 |.n=>chkL (r.G Rs xt) r.s (z0f r.st)
 |.e _ _=>false
 |.g _ _=>false
def DRow.ok (Rs:List DRow)(xt:List XR)(fr:List Str)(i:Nat)(r:DRow):Bool:=
 (decide ((z08 r.st).kind=.function)&& !(z08 r.st).isCoroutine&& !(z08 r.st).isGenerator&&decide r.N.Nodup&&decide (r.N.take r.ps.length=r.ps))&&
 (r.ps.all (λx=>(z08 r.st).names.lookup x==some .local||(z08 r.st).names.lookup x==some .cell)&&(z08 r.st).names.all (λy=>!(y.2==.free))&&r.free.all (λx=>fr.contains x)&&r.fns.all (λj=>decide (j<i)&&nE Rs j)&&r.part Rs xt i)
def uN (Rs:List DRow)(xt:List XR)(fr:List Str):Nat->List DRow->Bool
 |_,[]=>true
 |i,r::l=>r.ok Rs xt fr i&&uN Rs xt fr (i+1) l
def DRow.C9 (Rs:List DRow)(r:DRow):Prop:=match r.kd with
 |.n=>r.F=aT (r.kc.map cD) (r.fns.map (fnAt Rs)) r.N.length r.s
 |.e _ _=>True
 |.g _ _=>True
def pK (Rs:List DRow):List DRow->Prop
 | []=>True
 |r::l=>r.C9 Rs/\pK Rs l
theorem Dc:∀{l:List DRow} {k i:Nat} {r:DRow},uN Rs a fr k l=true->l[i]?=some r->r.ok Rs a fr (k+i)=true
 | [],_,i,_,_,e=>by simp at e
 |r::l,k,0,_,h,e=>by cases e;exact(aC h).1
 |r::l,k,i+1,_,h,e=>by
  have:=Dc (aC h).2 e
  rwa [show k+(i+1)=k+1+i by omega]
theorem Ig:∀{l:List DRow} {i:Nat} {r:DRow},pK a l->l[i]?=some r->r.C9 a
 | [],i,_,_,e=>by simp at e
 |r::l,0,_,h,e=>by cases e;exact h.1
 |r::l,i+1,_,h,e=>Ig h.2 e
section
variable {P:cj}{w:World}{K:W.Frag}{mg:Str->Option Value}{base:Heap}{Rs:List DRow}{xt:List XR}{fr:List Str}
theorem xb {r:DRow}(h:r.ok Rs xt fr i=true):FnScope (r.G Rs xt).N r.ps (z08 r.st)/\(∀x,r.free.contains x=true->fr.contains x=true)/\(∀j∈r.fns,j<i/\nE Rs j=true)/\r.part Rs xt i=true:=by
 obtain⟨d,e⟩:=aC h;obtain⟨f,g,k,l,m⟩:=dE d;obtain⟨n,o,p,b,s⟩:=dE e;refine⟨⟨sg f,cU g,cU k,sg l,sg m,λx a=>?_,λy t z=>?_⟩,λx a=>?_,λj c=>⟨sg (aC (bx.mp b j c)).1,(aC (bx.mp b j c)).2⟩,s⟩
 ·rcases dz.mp (bx.mp n x a)with q|q
  ·exact .inl (sj q)
  ·exact .inr (sj q)
 ·have :=cU (bx.mp o y t);rw[z]at this;cases this
 ·exact bx.mp p x (cg.mp a)
def mX (P:cj)(w:World)(K:W.Frag)(mg:Str->Option Value)(base:Heap)(i:Nat)(r:DRow):Prop:=match r.kd with
 |.e _ _=>True
 |_=>Cal P w K mg base (i+1) r.nm r.ps (spD K r.ps.length r.F)/\mQ P w K mg base (i+1) r.nm r.ps r.ps.length r.F
theorem xg (h:mX P w K mg base j c)(e:Rs[j]?=some c)(n:nE Rs j=true):Cal P w K mg base (j+1) c.nm c.ps (spD K c.ps.length c.F)/\mQ P w K mg base (j+1) c.nm c.ps c.ps.length c.F:=by
 unfold nE at n;rw[e]at n;have n:(!c.kd.tj)=true:=n;unfold mX at h;cases hk:c.kd with
 |n=>rw[hk]at h;exact h
 |g d a=>rw[hk]at h;exact h
 |e x b=>rw[hk]at n;cases n
def Dd (K:W.Frag)(mg:Str->Option Value)(y:Str×List Str):Prop:=∃a,mg y.1=some (.ref a)/\∀H B,B none->Rep K H B (.ref a) (cD y)
theorem Q7 (o:Rs[i]?=some r)(h:r.ok Rs xt fr i=true)(T:∀x∈fr,mg x=none)(xk:∀Γ:Gm,Γ.sub=(xt.map XR.subs).flatten->Γ.rs=xt.map (·.c)->(Γ.gQ=xt.map λr=>(r.c,r.B))->rN Γ K mg)(s:∀y∈r.kc,Dd K mg y)(p:∀j c,j<i->Rs[j]?=some c->mX P w K mg base j c):Dok (r.G Rs xt) (r.kc.map cD) (r.fns.map (fnAt Rs)) P w K mg base i where
 free:=λx t=>T x (cg.mp ((xb h).2.1 x t))
 fns:=λj f n e=>by
  have e:(r.fns.map (sig Rs))[j]?=some (f,n):=e;rw[ar]at e;obtain⟨b,l,e⟩:=bn.mp e;obtain⟨d,k⟩:=(xb h).2.2.1 b (aq l);have m:=(aw.mp o).1;have g:=ae (k7 d m);unfold sig at e;rw[g]at e;cases e;refine⟨fnAt Rs b,b+1,Rs[b].ps,by rw[ar,l];rfl,d,?_⟩;have:fnAt Rs b=Rs[b].F:=by unfold fnAt;rw[g]
  rw[this];exact(xg (p b _ d g) g k).1
 cst:=λj x e=>by have e:(r.kc.map (·.1))[j]?=some x:=e;rw[ar]at e;obtain⟨y,q,rfl⟩:=bn.mp e;obtain⟨a,u,v⟩:=s y (aq q);exact⟨cD y,a,by rw[ar,q];rfl,u,v⟩
 pH:=λj f n e=>by
  have e:(r.fns.map (sig Rs))[j]?=some (f,n):=e;rw[ar]at e;obtain⟨b,l,e⟩:=bn.mp e;obtain⟨d,k⟩:=(xb h).2.2.1 b (aq l);have m:=(aw.mp o).1;have g:=ae (k7 d m);unfold sig at e;rw[g]at e;cases e;refine⟨fnAt Rs b,b+1,Rs[b].ps,by rw[ar,l];rfl,d,?_⟩;have:fnAt Rs b=Rs[b].F:=by unfold fnAt;rw[g]
  rw[this];exact(xg (p b _ d g) g k).2
 xk:=xk _ rfl rfl rfl
theorem Q8 (hok:uN Rs xt fr 0 Rs=true)(s:pK Rs Rs)(T:∀x∈fr,mg x=none)(xk:∀Γ:Gm,Γ.sub=(xt.map XR.subs).flatten->Γ.rs=xt.map (·.c)->(Γ.gQ=xt.map λr=>(r.c,r.B))->rN Γ K mg)(n:Nat)(t:∀r∈Rs,∀y∈r.kc,Dd K mg y)(O:∀i r,i<n->Rs[i]?=some r->Own K mg r.nm r.st r.ps):∀i r,i<n->Rs[i]?=some r->mX P w K mg base i r:=by
 intro i
 induction i using Nat.strongRecOn with
 |ind i k=>
  intro r C h
  have l:r.ok Rs xt fr i=true:=by
   have:=Dc hok h
   rwa [Nat.zero_add]at this
  have k:=λj c o u=>k j o c (k7 o C) u;have D:=Q7 h l T xk (t r (aq h)) k;obtain⟨p,v,_,a⟩:=xb l;have hf:=Ig s h;obtain⟨f,fd,q,m,kp,b⟩:=O i r C h;unfold DRow.C9 at hf;unfold DRow.part at a;unfold mX;cases hk:r.kd with
  |n=>rw[hk]at hf a;rw[hf];exact⟨⟨f,fd,d_fn (Γ:=r.G Rs xt) q p rfl rfl rfl D a,m,kp,b⟩,⟨f,fd,zvx q p rfl rfl rfl D a,m,kp,b⟩⟩
  |e c z=>rw[hk]at a;cases a
  |g d A=>rw[hk]at a;cases a
end
def Kf (K:W.Frag)(r:DRow)(f:Addr)(fd:dn):Prop:=W.nsIn K bp r.nm=some (some (.ref f))/\∃(oc:Value) (od an:Option Addr) (sl:Array (Option Value)) (kV dc pm cd ct:Value),fd=W.fnOf r.nm r.nm (z0p r.st) (z0f r.st) (z08 r.st) .none kV dc pm an cd ct/\K.lookup f=some ⟨oc,od,.func fd,sl⟩/\W.codeIn K cd r.nm=true/\W.keepIn K (.ref f)=true
def De (r:DRow):Prop:=∀(kV doc pm:Value) (an:Option Addr) (cdv ct:Value) (us:List Value),us.length=r.ps.length->n0 (W.fnOf r.nm r.nm (z0p r.st) (z0f r.st) (z08 r.st) .none kV doc pm an cdv ct) ⟨us,[]⟩=pure (r.ps.zip us)
theorem jA (h:b.length=n+1):∃a l,b=a::l/\l.length=n:=by
 cases b with
 |nil=>cases h
 |cons a l=>exact⟨a,l,rfl,Nat.succ.inj h⟩
theorem zr {P:List Value->Prop}(h:∀a,P [a])(b:List Value)(z:b.length=1):P b:=by obtain⟨a,l,rfl,y⟩:=jA z;cases List.eq_nil_of_length_eq_zero y;exact h a
theorem dX {P:List Value->Prop}(h:∀a b,P [a,b])(c:List Value)(z:c.length=2):P c:=by obtain⟨a,l,rfl,y⟩:=jA z;exact zr (P:=λl=>P (a::l)) (h a) l y
theorem pL {P:List Value->Prop}(h:∀a b c,P [a,b,c])(d:List Value)(z:d.length=3):P d:=by obtain⟨a,l,rfl,y⟩:=jA z;exact dX (P:=λl=>P (a::l)) (h a) l y
theorem by4 {P:List Value->Prop}(h:∀a b c d,P [a,b,c,d])(e:List Value)(z:e.length=4):P e:=by obtain⟨a,l,rfl,y⟩:=jA z;exact pL (P:=λl=>P (a::l)) (h a) l y
theorem Df {P:List Value->Prop}(h:∀a b c d e,P [a,b,c,d,e])(f:List Value)(z:f.length=5):P f:=by obtain⟨a,l,rfl,y⟩:=jA z;exact by4 (P:=λl=>P (a::l)) (h a) l y
theorem Ih {P:List Value->Prop}(h:∀a b c d e f,P [a,b,c,d,e,f])(g:List Value)(z:g.length=6):P g:=by obtain⟨a,l,rfl,y⟩:=jA z;exact Df (P:=λl=>P (a::l)) (h a) l y
def kOks (K:W.Frag):List DRow->Prop
 | []=>True
 |r::l=>((∃f fd,Kf K r f fd)/\De r)/\kOks K l
theorem Ii {K:W.Frag}:∀{l:List DRow} {i:Nat} {r:DRow},kOks K l->l[i]?=some r->(∃f fd,Kf K r f fd)/\De r
 | [],i,_,_,e=>by simp at e
 |r::l,0,_,h,e=>by cases e;exact h.1
 |r::l,i+1,_,h,e=>Ii h.2 e
def strOf:Value->Option Str
 |.str x _=>if PyData.strOk x then some x else none
 |_=>none
def Ij (K:W.Frag)(y:Str×List Str):Bool:=match W.nsIn K bp y.1 with
 |some (some (.ref a))=>(match K.lookup a with
  |some ⟨.type "tuple",none,.seq eM _,_⟩=>decide (eM.toList.map strOf=y.2.map some)&&decide (y.2.length<=1000)
  |_=>false)
 |_=>false
def rP (K:W.Frag)(r:DRow):Option (dn×Bool):=match W.nsIn K bp r.nm with
 |some (some (.ref f))=>(match K.lookup f with
  |some ⟨_,_,.func fd,_⟩=>some (fd,W.codeIn K fd.code r.nm&&W.keepIn K (.ref f))
  |_=>none)
 |_=>none
def Ik (r:DRow)(x:dn×Bool):dn×Bool:=(W.fnOf r.nm r.nm (z0p r.st) (z0f r.st) (z08 r.st) .none x.1.kwdefaults x.1.doc x.1.pyModule x.1.annotations x.1.code x.1.closureTuple,true)
def xh (K:W.Frag)(A:Addr):Bool:=match K.lookup A with
 |some ⟨.type "type",_,.cls _,_⟩=>true
 |_=>false
def Dg (K:W.Frag)(r:XR):Option (Bool×Bool×Option (Option Value)×Option (Option Value)×Option (Option Value)×Option Bool×Option Bool×Option Bool×Bool×Option Bool×List (Bool×Option Bool)):=match W.nsIn K bp r.c,W.nsIn K bp r.B with
 |some (some (.ref A)),some (some (.ref D))=>some (xh K A,exV K A,W.findIn K (.ref A) "__class__",W.findIn K (.ref A) "__getattribute__",W.findIn K (.ref A) "__getattr__",W.subIn K (.ref A) (.type "object"),W.subIn K (.ref A) (.type "BaseException"),W.subIn K (.ref A) (.type "ValueError"),exV K D,W.subIn K (.ref A) (.ref D),r.cs.map λy=>match W.nsIn K bp y.1 with
  |some (some (.ref E))=>(xh K E,W.subIn K (.ref A) (.ref E))
  |_=>(false,none))
 |_,_=>none
def Dh (r:XR):Option (Bool×Bool×Option (Option Value)×Option (Option Value)×Option (Option Value)×Option Bool×Option Bool×Option Bool×Bool×Option Bool×List (Bool×Option Bool)):=some (true,true,some (some (.builtin "object.__class__")),some (some (.builtin "BaseException.__getattribute__")),some none,some true,some true,some true,true,some true,r.cs.map λy=>(true,some y.2))
theorem Il {K:W.Frag}(h:xh K A=true):∃a cd sl,K.lookup A=some ⟨.type "type",a,.cls cd,sl⟩:=by
 unfold xh at h;split at h
 ·rename_i a cd sl e;simp_all
 ·cases h
theorem zck {K:W.Frag}:∀{l:List (Str×Bool)},(l.map fun y=>match W.nsIn K bp y.1 with
  |some (some (.ref E))=>(xh K E,W.subIn K (.ref A) (.ref E))
  |_=>(false,none))=(l.map λy=>(true,some y.2))->zm K A l
 | [],_=>trivial
 |y::l,h=>by
  have h:=List.cons.inj h;refine⟨?_,zck h.2⟩;have e:=h.1
  dsimp only at e
  split at e
  ·rename_i E a;have e:=sf e;obtain⟨b,cd,sl,q⟩:=Il e.1;exact⟨E,b,cd,sl,a,q,e.2⟩
  ·cases(sf e).1
theorem Q9 {K:W.Frag}(h:Dg K r=Dh r):∃A D,Kx K r A D:=by
 unfold Dg Dh at h;split at h
 ·rename_i A D k l;have h:=sf (se h);have b:=sf h.2;have c:=sf b.2;have d:=sf c.2;have e:=sf d.2;have f:=sf e.2;have g:=sf f.2;have i:=sf g.2;have j:=sf i.2;have a:=sf j.2;exact⟨A,D,k,Il h.1,b.1,c.1,d.1,e.1,f.1,g.1,i.1,l,j.1,a.1,zck a.2⟩
 ·cases h
theorem Im {K:W.Frag}:∀{l:List XR},(∀r∈l,∃A D,Kx K r A D)->kxs K l
 | [],_=>trivial
 |r::_,h=>⟨h r (.head _),Im λr a=>h r (.tail _ a)⟩
def KEq (K:d8->W.Frag)(Rs:List DRow)(fr:List Str)(xt:List XR):Prop:=∀P,(Rs.map λr=>(rP (K P) r).isSome,Rs.map λr=>rP (K P) r,fr.map λn=>W.nsIn (K P) bp n,xt.map λr=>Dg (K P) r,Rs.map λr=>r.kc.map λy=>Ij (K P) y)=(Rs.map λ_=>true,Rs.map λr=>(rP (K P) r).map (Ik r),fr.map λ_=>some none,xt.map Dh,Rs.map λr=>r.kc.map λ_=>true)
theorem KEq_r:KEq=KEq:=rfl
theorem Ra {K:W.Frag}(h:(rP K r).isSome=true)(e:rP K r=(rP K r).map (Ik r)):∃f fd,Kf K r f fd:=by
 cases z:rP K r with
 |none=>rw[z]at h;cases h
 |some x=>
  rw[z]at e;have e:=se e;unfold rP at z;split at z
  ·rename_i f hf;split at z
   ·rename_i oc od fd sl c;have z:=se z;have d:=congrArg mw z;have a:=congrArg rh z;have g:=congrArg mw e;have i:=congrArg rh e;rw[i]at a;have b:=au.mp a;subst d;exact⟨f,x.1,hf,oc,od,x.1.annotations,sl,x.1.kwdefaults,x.1.doc,x.1.pyModule,x.1.code,x.1.closureTuple,g,c,b.1,b.2⟩
   ·cases z
  ·cases z
theorem zt {K:d8->W.Frag}(h:KEq K g fr i)(P:d8):(∀r∈g,∃f fd,Kf (K P) r f fd)/\(∀n∈fr,W.nsIn (K P) bp n=some none)/\kxs (K P) i/\∀r∈g,∀y∈r.kc,Ij (K P) y=true:=by have a:=sf (h P);have b:=sf a.2;have c:=sf b.2;have d:=sf c.2;exact⟨λr e=>Ra (c7.mp a.1 r e) (c7.mp b.1 r e),λn hn=>c7.mp c.1 n hn,Im λr e=>Q9 (c7.mp d.1 r e),λr e=>c7.mp (c7.mp d.2 r e)⟩
def tT:List DRow->Prop
 | []=>True
 |r::l=>De r/\tT l
theorem Io {K:W.Frag}:∀{l:List DRow},(∀r∈l,∃f fd,Kf K r f fd)->tT l->kOks K l
 | [],_,_=>trivial
 |r::_,h,b=>⟨⟨h r (.head _),b.1⟩,Io (λr a=>h r (.tail _ a)) b.2⟩
end Mi
name_quick tkeq for Mi.KEq by Mi.KEq_r
namespace Mk
open Mi
section
open PySem
abbrev P:=List (Str×Int)
def pr (p:Str×Int):D:=.tuple [.str p.1,.int p.2]
def pk (l:P):D:=.tuple (l.map pr)
def ep (p:Str×Int):D×D:=(.str p.1,.int p.2)
def en (l:P):aY:=l.map ep
def iK:P->Str->Option Int
 | [],_=>none
 |p::l,n=>if p.1=n then some p.2 else iK l n
def look (l:P)(n:Str):Int:=(iK l n).getD 0
def ks (l:P):List Str:=l.map (·.1)
def put:P->Str->Int->P
 | [],n,v=>[(n,v)]
 |p::l,n,v=>if p.1=n then(p.1,v)::l else p::put l n v
def sl (a b:Str):Prop:=a.cps.toList<b.cps.toList
theorem Rb (a:Str):¬sl a a:=List.lt_irrefl _
theorem Rc (h:sl a b)(k:sl b c):sl a c:=List.lt_trans h k
theorem Ip {b:Str}(h:a.cps.toList=b.cps.toList):a=b:=by cases a;cases b;simp at h;subst h;rfl
theorem Rf (h:a≠b):sl a b\/sl b a:=by
 by_cases c:sl a b
 ·exact .inl c
 ·by_cases d:sl b a
  ·exact .inr d
  ·exact(h (Ip (List.le_antisymm (List.not_lt.mp d) (List.not_lt.mp c)))).elim
theorem Rg (h:sl a b):a≠b:=λe=>Rb b (e▸h)
theorem Iq:∀{l:P},n∉ks l->iK l n=none
 | [],_=>rfl
 |p::l,h=>by simp only[ks,bj,az,not_or]at h;rw[iK,rq (λe=>h.1 e.symm)];exact Iq h.2
theorem Di:∀{l:P},iK l n=some v->(n,v)∈l
 | [],h=>by cases h
 |p::l,h=>by
  rw[iK]at h;split at h
  ·rename_i e;cases h;subst e;exact bh
  ·exact ba _ (Di h)
theorem Ir:∀{l:P} {p:Str×Int},(ks l).Nodup->p∈l->iK l p.1=some p.2
 |q::l,p,nd,h=>by
  rw[ks,bj,dr]at nd;rw[iK];rcases(az.mp h)with rfl|h
  ·rw[rj rfl]
  ·rw[rq λe:q.1=p.1=>nd.1 (cf.mpr ⟨p,h,e.symm⟩)];exact Ir nd.2 h
theorem Rh (h:n∈ks l):∃v,iK l n=some v:=by
 cases e:iK l n with
 |some v=>exact⟨v,rfl⟩
 |none=>
  exfalso
  induction l with
  |nil=>cases h
  |cons p l a=>
   rw[iK]at e;split at e
   ·cases e
   ·rename_i hn;rcases az.mp h with h|h
    ·exact hn h.symm
    ·exact a h e
theorem zu (a b:Str):eqK (.str a) (.str b)=decide (a=b):=by simp only[eqK]
theorem Dj (a:Str):iH (.str a)=true:=by simp only[iH]
theorem Iu (n:Str):∀l,z0d (en l) (.str n)=(iK l n).map .int
 | []=>rfl
 |p::l=>by
  have a:=Iu n l;unfold z0d at a ⊢;rw[iK];show Option.map _ (match eqK (.str p.1) (.str n)with|true=>_|false=>_)=_;rw[zu];by_cases h:p.1=n
  ·rw[rj h];simp[h,ep]
  ·rw[rq h];simp only[h,decide_false];exact a
theorem Dk (n:Str):∀l,((en l).any λe=>eqK e.1 (.str n))=true↔n∈ks l
 | []=>by simp[en,ks]
 |p::l=>by show(eqK (.str p.1) (.str n)||_)=true↔_;rw[zu,ku,ks];have:=Dk n l;rw[en,ks]at this;rw[this];simp[eq_comm]
theorem Iv:∀{l:P},(ks l).Nodup->n∈ks l->(en l).map (λe=>if eqK e.1 (.str n)then(e.1,.int v)else e)=en (put l n v)
 |p::l,nd,h=>by
  rw[ks,bj,dr]at nd;rw[put];show(if eqK (.str p.1) (.str n)=true then _ else _)::_=_;rw[zu];by_cases e:p.1=n
  ·have hn:∀q∈l,¬q.1=n:=λq a z=>nd.1 (cf.mpr ⟨q,a,z.trans e.symm⟩);rw[rj e,rj (by simpa using e)]
   congr 1
   rw[ge];apply ox;intro q a;show(if eqK (.str q.1) (.str n)=true then _ else _)=ep q;rw[zu,rq (by simpa using hn q a)]
  ·rw[rq e,rq (by simpa using e)]
   congr 1
   refine Iv nd.2 ?_;rcases az.mp h with h|h
   ·exact(e h.symm).elim
   ·exact h
theorem Dl:∀{l:P},n∉ks l->put l n v=l++[(n,v)]
 | [],_=>rfl
 |p::l,h=>by simp only[ks,bj,az,not_or]at h;rw[put,rq λe=>h.1 e.symm,Dl h.2];rfl
theorem Ri (nd:(ks l).Nodup):dput (en l) (.str n) (.int v)=en (put l n v):=by
 unfold dput;by_cases h:n∈ks l
 ·rw[rj ((Dk n l).mpr h)];exact Iv nd h
 ·rw[rq λz=>h ((Dk n l).mp z),Dl h];simp[en,ep]
theorem Iw:∀l a,(ks (a++l)).Nodup->iI (en a) (l.map pr)=some (en (a++l))
 | [],a,_=>by simp[iI]
 |p::l,a,nd=>by
  have b:=nd;rw[ks,cv]at nd;have c:=λz=>by rw[gx]at nd;exact nd.2.2 _ z _ bh rfl
  show(if iH (.str p.1)then iI (dput (en a) (.str p.1) (.int p.2)) (l.map pr)else none)=_;rw[rj (Dj _),Ri (by rw[gx]at nd;exact nd.1),Dl c,Iw l (a++[(p.1,p.2)]) (by rw[i0];exact b),i0];rfl
theorem Rj (nd:(ks l).Nodup):iI [] (l.map pr)=some (en l):=by have:=Iw l [] (by simpa using nd);simpa[en]using this
theorem Dm (l:P):cI (en l)=true:=by unfold cI;rw[bx];intro e a;obtain⟨p,_,rfl⟩:=cf.mp a;rfl
theorem uO (p:Str×Int):imm (pr p)=true:=rfl
theorem Iy (l:P):imms (l.map pr)=true:=yN.mpr λx a=>by obtain⟨p,_,rfl⟩:=cf.mp a;rfl
theorem fW (l:P):imm (pk l)=true:=Iy l
theorem Rk (n:Nat)(p:Str×Int):bE (n+1) (pr p)=true:=by cases n<;>rfl
theorem Iz (n:Nat)(l:P):bE (n+2) (pk l)=true:=by exact sZ.mpr λx a=>by obtain⟨p,_,rfl⟩:=cf.mp a;exact Rk n p
theorem Rl (l:P):yP (l.map pr)=true:=by
 cases l with
 |nil=>rfl
 |cons p l=>
  unfold yP;have:((p::l).map pr).all (zbu ([PyData.str p.1,PyData.int p.2].map uy))=true:=by rw[bx];intro x a;obtain⟨q,_,rfl⟩:=cf.mp a;rfl
  rw[ku];right;exact au.mpr ⟨rfl,this⟩
theorem Rm (l:P):yQ (l.map pr)=true:=by unfold yQ;rw[Rl];rfl
def lp (p q:Str×Int):Bool:=cO (pr p) (pr q)
def hY (x:Str×Int):P->P
 | []=>[x]
 |y::ys=>if lp y x then y::hY x ys else x::y::ys
def pM:P->P
 | []=>[]
 |x::xs=>hY x (pM xs)
theorem IA (x:Str×Int):∀l,hU (pr x) (l.map pr)=(hY x l).map pr
 | []=>rfl
 |y::l=>by
  rw[bj,hU,hY,lp];split
  ·rw[IA x l];rfl
  ·rfl
theorem IB:∀l,lX (l.map pr)=(pM l).map pr
 | []=>rfl
 |x::l=>by rw[bj,lX,IB l,IA,pM]
theorem Dp (x:Str×Int):∀l,(hY x l).Perm (x::l)
 | []=>.refl _
 |y::l=>by
  rw[hY];split
  ·exact((Dp x l).cons y).trans (.swap x y l)
  ·exact .refl _
theorem Dq:∀l,(pM l).Perm l
 | []=>.refl _
 |x::l=>(Dp x (pM l)).trans ((Dq l).cons x)
theorem IC (h:p.1≠q.1):lp p q=true↔sl p.1 q.1:=by
 show cO (.tuple [.str p.1,.int p.2]) (.tuple [.str q.1,.int q.2])=true↔_;simp only[cO,bR];have:dZ (.str p.1) (.str q.1)=false:=by simp[dZ,PyData.eqv,h]
 rw[this];simp[sl]
def Sd (l:P):Prop:=l.Pairwise λp q=>sl p.1 q.1
theorem ID:∀{l:P},Sd l->x.1∉ks l->Sd (hY x l)
 | [],_,_=>mv _ _
 |y::l,h,b=>by
  have d:=d9.1 h;simp only[ks,bj,az,not_or]at b;rw[hY];split
  ·rename_i f;have c:=(IC (λe=>b.1 e.symm)).mp f;refine d9.mpr ⟨λz a=>?_,ID d.2 b.2⟩;rcases az.mp ((Dp x l).mem_iff.mp a)with rfl|a
   ·exact c
   ·exact d.1 z a
  ·rename_i f
   have c:sl x.1 y.1:=by
    rcases Rf b.1 with z|z
    ·exact z
    ·exact(f ((IC (λe=>b.1 e.symm)).mpr z)).elim
   refine d9.mpr ⟨λz a=>?_,h⟩;rcases(az.mp a)with rfl|a
   ·exact c
   ·exact Rc c (d.1 z a)
theorem IE:∀{l:P},(ks l).Nodup->Sd (pM l)
 | [],_=>List.Pairwise.nil
 |x::l,nd=>by rw[ks,bj,dr]at nd;exact ID (IE nd.2) λz=>nd.1 (((Dq l).map (·.1)).mem_iff.mp z)
theorem Rn (h:Sd l):(ks l).Nodup:=by unfold ks List.Nodup;rw[j3];exact List.Pairwise.imp (λz=>Rg z) h
structure PK (l:P):Prop where
 sd:Sd l
 pos:∀p∈l,0<p.2
theorem PK.nd (h:PK l):(ks l).Nodup:=Rn h.sd
theorem PK.pN (h:PK l)(n:Str):0<=look l n:=by
 unfold look;cases e:iK l n with
 |none=>exact qr _
 |some v=>exact Int.le_of_lt (h.pos _ (Di e))
theorem PK.hZ (h:PK l)(a:p∈l):look l p.1=p.2:=by unfold look;rw[Ir h.nd a];rfl
end
section
open PySem
theorem IF:aP Κ Φ (.seq p q) a=oS (aP Κ Φ p a) (aP Κ Φ q):=rfl
theorem Dr:aP Κ Φ (.asg (.nm i) t) a=(aJ Κ Φ t a>>=λx=>.ok (.nx (a.set i (some (z1n x))))):=rfl
theorem Ds:aP Κ Φ (.bU c p q) a=(dG Κ Φ c a>>=λk=>if k then aP Κ Φ p a else aP Κ Φ q a):=rfl
theorem IG:aP Κ Φ (.ret (.var i)) ρ=(match ρ[i]? with|some (some (g,d))=>.ok (.rt (if imm d then .fr else jL g) d)|_=>.no):=rfl
theorem Ro:aP Κ Φ (.mut m i a) e=(dU Κ Φ a e>>=λc=>match e[i]? with
 |some (some (.fr,.list d))=>lY m d c>>=λb=>.ok (.nx ((e.set i (some (.fr,.list b))).map nX))
 |_=>.no):=rfl
theorem Rp:aP Κ Φ (.bJ d a p) e=(evF Κ Φ a e>>=λw=>dD (λx b=>fF d (gJ x w.1,x) b>>=λc=>aP Κ Φ p c) w.2.1 w.2.2):=rfl
theorem Rq:dD f (x::xs) ρ=(match f x ρ with
 |.ok (.nx a)=>dD f xs a
 |.ok (.rt g d)=>.ok (.rt g d)
 |.exc e=>.exc e
 |.no=>.no):=rfl
theorem Rr:dU Κ Φ .nil a=.ok []:=rfl
theorem zv:dU Κ Φ (.cons a b) d=(aJ Κ Φ a d>>=λx=>dU Κ Φ b d>>=λc=>.ok (x::c)):=rfl
theorem Du:tu Κ Φ (.tv a) ρ=(aJ Κ Φ a ρ>>=λx=>tm x.2):=rfl
theorem xl:BD Κ Φ (.tv a) b=(aJ Κ Φ a b>>=λx=>z5c x.2>>=λp=>.ok (x.1,p)):=rfl
theorem Dv:dG Κ Φ (.tv a) b=(aJ Κ Φ a b>>=λx=>jK x.2):=rfl
theorem Rt:dG Κ Φ (.and a b) d=(dG Κ Φ a d>>=λc=>if c then dG Κ Φ b d else .ok false):=rfl
theorem Dw:dG Κ Φ (.or a b) d=(dG Κ Φ a d>>=λc=>if c then .ok true else dG Κ Φ b d):=rfl
theorem Ru:dG Κ Φ (.not a) b=(dG Κ Φ a b>>=λc=>.ok (!c)):=rfl
theorem Dx:evW Κ Φ (.tv a) ρ=(aJ Κ Φ a ρ>>=λx=>z5s x.2>>=λb=>.ok (x.1,b)):=rfl
theorem Rv:evW Κ Φ (.eN a) d=(dU Κ Φ a d>>=λb=>iV (b.map (·.2))>>=λc=>.ok (.fr,c)):=rfl
theorem Rw:evF Κ Φ (.tv (.var i)) a=(if oT a i then yS i a else if l' Κ Φ (.tv (.var i)) a then aJ Κ Φ (.var i) a>>=λx=>lZ x a else tx Κ Φ (.tv (.var i)) a):=rfl
theorem fG (h:aP Κ Φ a ρ=.ok (.nx c))(k:aP Κ Φ b c=r):aP Κ Φ (.seq a b) ρ=r:=by rw[IF,h];exact k
theorem cC (h:aP Κ Φ a ρ=.ok (.rt g d)):aP Κ Φ (.seq a b) ρ=.ok (.rt g d):=by rw[IF,h];rfl
theorem eD (h:aP Κ Φ s (a.map (λd=>some (.od,d))++ax (n-a.length) none)=.ok (.rt g d)):aT Κ Φ n s a=.ok (g,d):=by unfold aT;rw[h]
theorem IH {g:Type}{m:g->D}(I:List g->Rho->Prop):∀(d pre:List g) (q:Rho),(∀a x b q,pre++d=a++x::b->I a q->∃c,f (m x) q=.ok (.nx c)/\I (a++[x]) c)->I pre q->∃c,dD f (d.map m) q=.ok (.nx c)/\I (pre++d) c
 | [],pre,q,_,h=>⟨q,rfl,by rw[dm];exact h⟩
 |x::d,pre,q,hf,h=>by
  obtain⟨i,e,l⟩:=hf pre x d q rfl h;have k:pre++[x]++d=pre++x::d:=by rw[i0];rfl
  obtain⟨j,n,o⟩:=IH I d (pre++[x]) i (λa y b q p=>hf a y b q (k▸p)) l;exact⟨j,by rw[bj,Rq,e];exact n,k▸o⟩
theorem II {b:Type}{m:b->D}(g:b->Option D):∀(a:List b),(∀x∈a,f (m x)=.ok ((g x).map λd=>(.fr,d)))->kE f (a.map m)=.ok ((a.filterMap g).map λd=>(.fr,d))
 | [],_=>rfl
 |x::a,h=>by
  rw[bj,kE,h x bh,Res.aB,II g a λy c=>h y (ba _ c),Res.aB];cases e:g x with
  |none=>rw[ma e];rfl
  |some d=>rw[mf e];rfl
theorem Rx (a:List D):qU (a.map λd=>(G.fr,d))=.fr:=by unfold qU;rw[rj];rw[qh];exact bx.mpr λ_ _=>rfl
theorem Ry (a:List D):cH (a.map λd=>(G.fr,d))=.fr:=by unfold cH;rw[rj];rw[bx];intro x b;obtain⟨d,_,rfl⟩:=cf.mp b;rfl
theorem Dy (a:List D):(a.map λd=>(G.fr,d)).map (λx=>x.2)=a:=by rw[ge];exact List.map_id _
theorem RA (a b:Int):kB "min" [.int a,.int b]=.ok (.int (min a b)):=rfl
theorem RB (l:P)(n:Str)(v:Int):mtD "get" (.dict (en l)) [.str n,.int v]=.ok (.int ((iK l n).getD v)):=by have:mtD "get" (.dict (en l)) [.str n,.int v]=.ok ((z0d (en l) (.str n)).getD (.int v)):=rfl;rw[this,Iu];cases iK l n<;>rfl
theorem Dz (l:P)(n:Str):mtD "get" (.dict (en l)) [.str n,.int 0]=.ok (.int (look l n)):=RB l n 0
theorem DA (b:Bool)(nd:(ks l).Nodup):aggD "dict" b (l.map pr)=.ok (.dict (en l)):=by show Res.dQ ((iI [] (l.map pr)).map PyData.dict)=_;rw[Rj nd];rfl
def chr (z:Str)(i:Int):Str:=⟨#[z.cps.toList.getD i.toNat 0]⟩
theorem RC (a b:Str):(a++b).length=a.length+b.length:=by show Array.size (a.cps++b.cps)=_;rw[Array.size_append];rfl
theorem zw {b:Type}(a:List b)(i:Int)(d:b)(h0:0<=i)(c:i<a.length):bW a i=some (a.getD i.toNat d):=by
 unfold bW iG;rw[rj h0,rj c];show a[i.toNat]?=_;have:i.toNat<a.length:=by omega
 rw[aa,ae this];rfl
theorem A6 (h0:0<=i)(a:i<z.length)(b:z.length<=1000):eO (.str z) (.int i)=.ok (.str (chr z i)):=by show(if z.length<=aS then Res.dQ ((bW z.cps.toList i).map λc=>PyData.str ⟨#[c]⟩)else .no)=_;rw[rj (by unfold aS;omega),zw _ i 0 h0 (jb▸a)];rfl
theorem pO {ns:List Str}{i:Int}(h0:0<=i)(a:i<ns.length):eO (.list (ns.map .str)) (.int i)=.ok (.str (ns.getD i.toNat ⟨#[]⟩)):=by
 show Res.dQ (bW (ns.map PyData.str) i)=_;rw[zw _ i (.str ⟨#[]⟩) h0 (by rw[am];exact a)]
 congr 1
 have:i.toNat<ns.length:=by omega
 rw[aa,aa,ar,ae this];rfl
theorem DB {ns:List Int}{i:Int}(h0:0<=i)(a:i<ns.length):eO (.list (ns.map .int)) (.int i)=.ok (.int (ns.getD i.toNat 0)):=by
 show Res.dQ (bW (ns.map PyData.int) i)=_;rw[zw _ i (.int 0) h0 (by rw[am];exact a)]
 congr 1
 have:i.toNat<ns.length:=by omega
 rw[aa,aa,ar,ae this];rfl
theorem getD_mem {a:Type}{ns:List a}{i:Int}{d:a}(h0:0<=i)(b:i<ns.length):ns.getD i.toNat d∈ns:=by grind
theorem add_str (h:a.length+b.length<=1000):dH .Add (.str a) (.str b)=.ok (.str (a++b)):=by show(if _ then _ else _)=_;rw[rj (by unfold aS;omega)]
theorem add_list (h:a.length+b.length<=1000):dH .Add (.list a) (.list b)=.ok (.list (a++b)):=by show(if _ then _ else _)=_;rw[rj (by unfold aS;omega)]
theorem xm (h:-(2 ^ 64)<b/\b<2 ^ 64):dH .Mult (.int a) (.int b)=.ok (.int (a*b)):=by show(if _ then _ else _)=_;rw[rj (.inr h)]
theorem DC (h:-(2 ^ 64)<a/\a<2 ^ 64):dH .Mult (.int a) (.int b)=.ok (.int (a*b)):=by show(if _ then _ else _)=_;rw[rj (.inl h)]
theorem gS (h:0<b):dH .Mod (.int a) (.int b)=.ok (.int (a%b)):=by show(if _ then _ else _)=_;rw[rj h]
theorem RD:dH .Pow (.int 10) (.int 30)=.ok (.int 1000000000000000000000000000000):=rfl
theorem uP (h0:0<=n)(a:n<=1000):iV [.int n]=.ok ((bu n.toNat).map λ(i:Nat)=>.int i):=by show(if _ then _ else _)=_;rw[rj (by unfold aS;omega)]
theorem yL (h:z.length<=1000):qW (.str z) i j=.ok (.str (lB z i j)):=by show(if _ then _ else _)=_;rw[rj (by unfold aS;omega)]
theorem IJ (z:Str)(i j:Option Int):(lB z i j).length<=z.length:=by show(ip (cut z.cps.toList i j)).size<=z.cps.size;unfold cut;rw[bz,dw,ml,jb];omega
theorem IK:∀ns,hV (ns.map .str)=some ns
 | []=>rfl
 |n::ns=>by rw[bj,hV,IK ns];rfl
theorem RE:∀a,(∀s∈a,s.length=1)->(qX "" a).length=a.length
 | [],_=>rfl
 |x::r,h=>by
  show(ip (x.cps.toList++(r.map λp=>([]:List Nat)++p.cps.toList).flatten)).size=_;have b:=h x bh
  have c:∀(r:List Str),(∀s∈r,s.length=1)->((r.map λp=>([]:List Nat)++p.cps.toList).flatten).length=r.length:=by
   intro r
   induction r with
   |nil=>intro _;rfl
   |cons y r d=>intro h;have e:=h y bh;rw[bj,qc,av,d λs hs=>h s (ba _ hs)];have:(([]:List Nat)++y.cps.toList).length=1:=e;rw[bd];omega
  rw[bz,av,c r λs hs=>h s (ba _ hs)];have:x.cps.toList.length=1:=b;rw[bd];omega
theorem RF (h:∀s∈a,s.length=1)(d:a.length<=1000):mtD "join" (.str "") [.list (a.map .str)]=.ok (.str (qX "" a)):=by
 have:mtD "join" (.str "") [.list (a.map .str)]=(match hV (a.map .str)with|some a=>if BB "" a<=aS then .ok (.str (qX "" a))else .no|none=>.no):=rfl;rw[this,IK]
 dsimp only
 rw[rj];unfold BB;have h0:("":Str).length=0:=rfl
 have b:∀(r:List Str),(∀s∈r,s.length=1)->(r.map (·.length)).sum=r.length:=by
  intro r
  induction r with
  |nil=>intro _;rfl
  |cons y r c=>intro h;rw[bj,List.sum_cons,h y bh,c λs hs=>h s (ba _ hs),bd];omega
 rw[b a h,h0];unfold aS;omega
theorem DD (a b:Int):dZ (.int a) (.int b)=decide (a=b):=by rfl
theorem xn:aJ Κ Φ (.var i) ρ=(vZ ρ[i]?):=rfl
theorem RG:aJ Κ Φ (.aK) a=(.ok (.fr,.none)):=rfl
theorem DE:aJ Κ Φ (.bl b) a=(.ok (.fr,.bool b)):=rfl
theorem RH:aJ Κ Φ (.int i) a=(.ok (.fr,.int i)):=rfl
theorem RI:aJ Κ Φ (.str x) a=(.ok (.fr,.str x)):=rfl
theorem IL:aJ Κ Φ (.bin c a b) e=(aJ Κ Φ a e>>=λx=>aJ Κ Φ b e>>=λy=>dH c x.2 y.2>>=λd=>.ok (gN d (cH [x,y]),d)):=rfl
theorem RJ:aJ Κ Φ (.cmp c a b) ρ=(aJ Κ Φ a ρ>>=λx=>aJ Κ Φ b ρ>>=λy=>cmpD c x.2 y.2>>=λb=>.ok (.fr,.bool b)):=rfl
theorem RK:aJ Κ Φ (.oQ b a) c=(aJ Κ Φ a c>>=λx=>.ok (.fr,.bool (match x.2 with|.none=>!b|_=>b))):=rfl
theorem RL:aJ Κ Φ (.and a b) d=(aJ Κ Φ a d>>=λx=>match x.2 with|.bool c=>if c then aJ Κ Φ b d else .ok (.fr,.bool false)|_=>.no):=rfl
theorem IM:aJ Κ Φ (.tf c a b) ρ=(dG Κ Φ c ρ>>=λk=>if k then aJ Κ Φ a ρ else aJ Κ Φ b ρ):=rfl
theorem IP:aJ Κ Φ (.tup b) ρ=(dU Κ Φ b ρ>>=λa=>.ok (gJ (.tuple (a.map (·.2))) (cH a),.tuple (a.map (·.2)))):=rfl
theorem RM:aJ Κ Φ (.lst b) c=(dU Κ Φ b c>>=λa=>.ok (cH a,.list (a.map (·.2)))):=rfl
theorem xo:aJ Κ Φ (.ix a b) c=(aJ Κ Φ a c>>=λx=>aJ Κ Φ b c>>=λy=>eO x.2 y.2>>=λd=>.ok (gJ d x.1,d)):=rfl
theorem xp:aJ Κ Φ (.sl a c e) b=(aJ Κ Φ a b>>=λx=>tu Κ Φ c b>>=λl=>tu Κ Φ e b>>=λh=>qW x.2 l h>>=λd=>.ok (gN d (cH [x]),d)):=rfl
theorem DF:aJ Κ Φ (.call k b args) c=(dU Κ Φ args c>>=λa=>match Φ[k]? with|some m=>m (a.map (·.2))>>=λr=>.ok (gJ r.2 (jL r.1),r.2)|none=>.no):=rfl
theorem DG:aJ Κ Φ (.bi f args) b=(dU Κ Φ args b>>=λa=>kB f (a.map (·.2))>>=λd=>.ok (gJ d .al,d)):=rfl
theorem IQ:aJ Κ Φ (.jJ f a) ρ=(BD Κ Φ a ρ>>=λw=>aggD f w.2.1 w.2.2>>=λd=>.ok (gJ d (if imms w.2.2 then .fr else agG w.1),d)):=rfl
theorem RN:aJ Κ Φ (.gL a b) c=(aJ Κ Φ a c>>=λx=>.ok (.fr,.bool (b.any λT=>iU (gP x.2) T))):=rfl
theorem DH:aJ Κ Φ (.mt m o args) b=(aJ Κ Φ o b>>=λx=>dU Κ Φ args b>>=λa=>mtD m x.2 (a.map (·.2))>>=λd=>.ok (gJ d .al,d)):=rfl
theorem RO {a:C}:aJ Κ Φ (.comp e f i g h a c) l=(evW Κ Φ h l>>=λw=>kE (λx=>fF g (gJ x w.1,x) (ax e none++f.map λj=>iT (l.getD j none))>>=λb=>dG Κ Φ a b>>=λk=>if k then aJ Κ Φ c b>>=λy=>.ok (some y)else .ok none) w.2>>=λd=>.ok (qU d,.list (d.map (·.2)))):=rfl
def Ev (Κ:List D)(Φ:List Fn)(c:C)(ρ:Rho)(d:D):Prop:=∃g,aJ Κ Φ c ρ=.ok (g,d)
def Vv (Κ:List D)(Φ:List Fn)(c:C)(ρ:Rho)(d:D):Prop:=aJ Κ Φ c ρ=.ok (.fr,d)/\imm d=true
def Aa (Κ:List D)(Φ:List Fn)(c:C)(ρ:Rho)(ds:List D):Prop:=∃ys,dU Κ Φ c ρ=.ok ys/\ys.map (·.2)=ds
def Av (Κ:List D)(Φ:List Fn)(c:C)(ρ:Rho)(ds:List D):Prop:=dU Κ Φ c ρ=.ok (ds.map λd=>(.fr,d))/\imms ds=true
def Tt (Κ:List D)(Φ:List Fn)(c:C)(ρ:Rho)(k:Bool):Prop:=dG Κ Φ c ρ=.ok k
theorem Vv.e (h:Vv Κ Φ c ρ d):Ev Κ Φ c ρ d:=⟨_,h.1⟩
theorem Ev.of (h:aJ Κ Φ c ρ=.ok (g,d)):Ev Κ Φ c ρ d:=⟨_,h⟩
theorem aD (h:ρ[i]?=some (some (g,d))):Ev Κ Φ (.var i) ρ d:=⟨_,by rw[xn];rw[h];rfl⟩
theorem v_var (h:ρ[i]?=some (some (g,d)))(hi:imm d=true):Vv Κ Φ (.var i) ρ d:=⟨by rw[xn];rw[h];show Res.ok (if imm d=true then _ else _,d)=_;rw[rj hi],hi⟩
theorem aN:Vv Κ Φ (.int i) ρ (.int i):=⟨by rw[RH],rfl⟩
theorem dM:Vv Κ Φ (.str i) ρ (.str i):=⟨by rw[RI],rfl⟩
theorem kK:Vv Κ Φ (.bl i) ρ (.bool i):=⟨by rw[DE],rfl⟩
theorem DI:Vv Κ Φ .aK a .none:=⟨by rw[RG],rfl⟩
theorem mY (a:imm d=true):gJ d g=.fr:=by unfold gJ;rw[rj a]
theorem IS (hi:imm d=true):gN d g=.fr:=by cases d<;>first|exact mY hi|cases hi
theorem bM (c:Ev Κ Φ a ρ x)(e:Ev Κ Φ b ρ y)(h:dH op x y=.ok d)(g:imm d=true):Vv Κ Φ (.bin op a b) ρ d:=by obtain⟨f,c⟩:=c;obtain⟨g2,e⟩:=e;refine⟨?_,g⟩;rw[IL];rw[c,Res.aB,e,Res.aB];dsimp only;rw[h,Res.aB,IS g]
theorem IT (c:Ev Κ Φ a ρ x)(d:Ev Κ Φ b ρ y)(h:dH e x y=.ok (.list xs))(g:imms xs=true):aJ Κ Φ (.bin e a b) ρ=.ok (.fr,.list xs):=by obtain⟨f,c⟩:=c;obtain⟨g2,d⟩:=d;rw[IL];rw[c,Res.aB,d,Res.aB];dsimp only;rw[h,Res.aB];show Res.ok (if imms xs=true then _ else _,_)=_;rw[rj g]
theorem eJ (c:Ev Κ Φ a ρ x)(d:Ev Κ Φ b ρ y)(h:cmpD op x y=.ok k):Vv Κ Φ (.cmp op a b) ρ (.bool k):=by obtain⟨e,c⟩:=c;obtain⟨g2,d⟩:=d;refine⟨?_,rfl⟩;rw[RJ];rw[c,Res.aB,d,Res.aB];dsimp only;rw[h];rfl
def DJ:D->Bool
 |.none=>true
 |_=>false
theorem DK (b:Ev Κ Φ a e x):Vv Κ Φ (.oQ c a) e (.bool (if DJ x then !c else c)):=by obtain⟨d,b⟩:=b;refine⟨?_,rfl⟩;rw[RK];rw[b];cases x<;>rfl
theorem v_and (c:Ev Κ Φ a ρ (.bool k))(d:k=true->Vv Κ Φ b ρ (.bool e)):Vv Κ Φ (.and a b) ρ (.bool (k&&e)):=by
 obtain⟨f,c⟩:=c;refine⟨?_,rfl⟩;rw[RL];rw[c];cases k with
 |true=>exact(d rfl).1
 |false=>rfl
theorem IU (d:Tt Κ Φ c ρ k)(e:k=true->Vv Κ Φ a ρ x)(f:k=false->Vv Κ Φ b ρ y):Vv Κ Φ (.tf c a b) ρ (if k then x else y):=by
 cases k with
 |true=>exact⟨by rw[IM];rw[d];exact(e rfl).1,(e rfl).2⟩
 |false=>exact⟨by rw[IM];rw[d];exact(f rfl).1,(f rfl).2⟩
theorem fO:Av Κ Φ .nil ρ []:=⟨rfl,rfl⟩
theorem bO (c:Vv Κ Φ a ρ x)(d:Av Κ Φ b ρ e):Av Κ Φ (.cons a b) ρ (x::e):=⟨by rw[zv,c.1,Res.aB,d.1];rfl,by show(imm x&&imms e)=true;rw[c.2,d.2];rfl⟩
theorem aW:Aa Κ Φ .nil ρ []:=⟨[],rfl,rfl⟩
theorem aF (c:Ev Κ Φ a ρ x)(d:Aa Κ Φ b ρ f):Aa Κ Φ (.cons a b) ρ (x::f):=by obtain⟨g,c⟩:=c;obtain⟨h,d,e⟩:=d;exact⟨_,by rw[zv,c,d];rfl,by rw[bj,e]⟩
theorem pP (h:Av Κ Φ args ρ a):Vv Κ Φ (.tup args) ρ (.tuple a):=by refine⟨?_,h.2⟩;rw[IP];rw[h.1,Res.aB,Dy,mY (d:=.tuple a) h.2]
theorem RP (h:Aa Κ Φ args c a):Ev Κ Φ (.tup args) c (.tuple a):=by obtain⟨b,h,e⟩:=h;exact⟨_,by rw[IP];rw[h,Res.aB,e]⟩
theorem lF (h:Av Κ Φ args ρ ds):aJ Κ Φ (.lst args) ρ=.ok (.fr,.list ds):=by rw[RM];rw[h.1,Res.aB,Dy,Ry]
theorem aO (c:Ev Κ Φ a ρ x)(e:Ev Κ Φ b ρ y)(h:eO x y=.ok d)(g:imm d=true):Vv Κ Φ (.ix a b) ρ d:=by obtain⟨f,c⟩:=c;obtain⟨g2,e⟩:=e;refine⟨?_,g⟩;rw[xo];rw[c,Res.aB,e,Res.aB];dsimp only;rw[h,Res.aB,mY g]
def Oo (Κ:List D)(Φ:List Fn)(c:C)(ρ:Rho)(i:Option Int):Prop:=tu Κ Φ c ρ=.ok i
theorem tJ:Oo Κ Φ .nil ρ none:=rfl
theorem tU (h:Ev Κ Φ a ρ (.int i)):Oo Κ Φ (.tv a) ρ (some i):=by obtain⟨b,h⟩:=h;unfold Oo;rw[Du,h];rfl
theorem xq (e:Ev Κ Φ a ρ x)(f:Oo Κ Φ b ρ i)(g:Oo Κ Φ c ρ j)(h:qW x i j=.ok d)(l:imm d=true):Vv Κ Φ (.sl a b c) ρ d:=by obtain⟨k,e⟩:=e;unfold Oo at f g;refine⟨?_,l⟩;rw[xp];rw[e,Res.aB,f,Res.aB,g,Res.aB];dsimp only;rw[h,Res.aB,IS l]
theorem cV (a:Aa Κ Φ args ρ b)(hf:Φ[n]?=some m)(h:m b=.ok (g,d))(i:imm d=true):Vv Κ Φ (.call n f args) ρ d:=by obtain⟨c,a,e⟩:=a;refine⟨?_,i⟩;rw[DF];rw[a,Res.aB,hf];dsimp only;rw[e,h,Res.aB,mY i]
theorem lG (a:Aa Κ Φ args ρ b)(hf:Φ[n]?=some m)(h:m b=.ok (g,d)):Ev Κ Φ (.call n f args) ρ d:=by obtain⟨c,a,e⟩:=a;exact⟨_,by rw[DF];rw[a,Res.aB,hf];dsimp only;rw[e,h,Res.aB]⟩
theorem RQ (a:Aa Κ Φ args ρ b)(hf:Φ[n]?=some m)(h:m b=.ok (.fr,.list xs)):aJ Κ Φ (.call n f args) ρ=.ok (.fr,.list xs):=by obtain⟨c,a,e⟩:=a;rw[DF];rw[a,Res.aB,hf];dsimp only;rw[e,h,Res.aB];rfl
theorem cW (a:Aa Κ Φ args ρ b)(h:kB f b=.ok d)(hi:imm d=true):Vv Κ Φ (.bi f args) ρ d:=by obtain⟨c,a,e⟩:=a;refine⟨?_,hi⟩;rw[DG];rw[a,Res.aB,e,h,Res.aB,mY hi]
theorem IV (b:Ev Κ Φ a ρ x)(c:z5c x=.ok w)(h:aggD f w.1 w.2=.ok d)(g:imm d=true):Vv Κ Φ (.jJ f (.tv a)) ρ d:=by obtain⟨e,b⟩:=b;refine⟨?_,g⟩;rw[IQ];rw[xl,b,Res.aB];dsimp only;rw[c];simp only[Res.aB];rw[h,Res.aB,mY g]
theorem xr (b:Ev Κ Φ a ρ x)(c:z5c x=.ok w)(h:aggD f w.1 w.2=.ok d)(g:imms w.2=true):aJ Κ Φ (.jJ f (.tv a)) ρ=.ok (.fr,d):=by obtain⟨e,b⟩:=b;rw[IQ];rw[xl,b,Res.aB];dsimp only;rw[c];simp only[Res.aB];rw[h,Res.aB,rj g];unfold gJ;split<;>rfl
theorem IW (b:Ev Κ Φ a ρ x):Vv Κ Φ (.gL a ts) ρ (.bool (ts.any λT=>iU (gP x) T)):=by obtain⟨c,b⟩:=b;refine⟨?_,rfl⟩;rw[RN];rw[b];rfl
theorem pQ (a:Ev Κ Φ o ρ x)(b:Aa Κ Φ args ρ c)(h:mtD m x c=.ok d)(i:imm d=true):Vv Κ Φ (.mt m o args) ρ d:=by obtain⟨f,a⟩:=a;obtain⟨g,b,e⟩:=b;refine⟨?_,i⟩;rw[DH];rw[a,Res.aB,b,Res.aB,e];dsimp only;rw[h,Res.aB,mY i]
theorem aX (h:Ev Κ Φ a ρ x)(b:jK x=.ok k):Tt Κ Φ (.tv a) ρ k:=by obtain⟨c,h⟩:=h;unfold Tt;rw[Dv,h];exact b
theorem xu (c:Tt Κ Φ a ρ k)(d:k=true->Tt Κ Φ b ρ k'):Tt Κ Φ (.and a b) ρ (k&&k'):=by
 unfold Tt at *
 rw[Rt,c];cases k with
 |true=>exact d rfl
 |false=>rfl
theorem tV (c:Tt Κ Φ a ρ k)(d:k=false->Tt Κ Φ b ρ e):Tt Κ Φ (.or a b) ρ (k||e):=by
 unfold Tt at *
 rw[Dw,c];cases k with
 |false=>exact d rfl
 |true=>rfl
theorem mH (b:Tt Κ Φ a ρ k):Tt Κ Φ (.not a) ρ (!k):=by
 unfold Tt at *
 rw[Ru,b];rfl
theorem z38 {b:Type}{cond:C}{m:b->D}{xs:List b}(p:b->Bool)(f:b->D)(c:evW Κ Φ it ρ=.ok w)(a:w.2=xs.map m)(r:b->Rho)
  (d:∀x∈xs,fF tg (gJ (m x) w.1,m x) (ax nt none++js.map λj=>iT (ρ.getD j none))=.ok (r x)) (g:∀x∈xs,Tt Κ Φ cond (r x) (p x)) (h:∀x∈xs,p x=true->Vv Κ Φ elt (r x) (f x)):
  aJ Κ Φ (.comp nt js N' tg it cond elt) ρ=.ok (.fr,.list ((xs.filter p).map f)):=by
 rw[RO];rw[c,Res.aB,a]
 rw[II (λx=>if p x then some (f x)else none) xs λx a=>by
  rw[d x a,Res.aB];have:=g x a;rw[this,Res.aB];cases e:p x with
  |true=>rw[rj rfl,(h x a e).1];rfl
  |false=>rfl]
 rw[Res.aB,Rx,Dy]
 have:(xs.filterMap λx=>if p x=true then some (f x)else none)=(xs.filter p).map f:=by
  clear a d g h c
  induction xs with
  |nil=>rfl
  |cons x xs i=>
   cases e:p x with
   |true=>rw[mf (by rw[e];rfl),jx e,bj,i]
   |false=>rw[ma (by rw[e];rfl),jy (e▸dq),i]
 rw[this]
theorem gR (h:aJ Κ Φ a ρ=.ok (g,x))(b:z5s x=.ok xs):evW Κ Φ (.tv a) ρ=.ok (g,xs):=by rw[Dx,h,Res.aB];dsimp only;rw[b];rfl
theorem uQ (h:Aa Κ Φ args ρ ds)(hw:iV ds=.ok xs):evW Κ Φ (.eN args) ρ=.ok (.fr,xs):=by obtain⟨ys,h,e⟩:=h;rw[Rv,h,Res.aB,e,hw];rfl
theorem pR (h:Vv Κ Φ t ρ d):aP Κ Φ (.asg (.nm i) t) ρ=.ok (.nx (ρ.set i (some (.al,d)))):=by rw[Dr,h.1];show Res.ok (Out.nx (ρ.set i (some (if imm d then(.al,d)else _))))=_;rw[rj h.2]
theorem rQ (h:aJ Κ Φ t ρ=.ok (.fr,.list xs))(a:imms xs=true):aP Κ Φ (.asg (.nm i) t) ρ=.ok (.nx (ρ.set i (some (.fr,.list xs)))):=by rw[Dr,h,Res.aB];show Res.ok (Out.nx (ρ.set i (some (if imms xs then .fr else .nu,.list xs))))=_;rw[rj a]
theorem zx (h:aJ Κ Φ t ρ=.ok (.fr,.dict es))(a:cI es=true):aP Κ Φ (.asg (.nm i) t) ρ=.ok (.nx (ρ.set i (some (.fr,.dict es)))):=by rw[Dr,h];show Res.ok (Out.nx (ρ.set i (some (if cI es then .fr else .nu,.dict es))))=_;rw[rj a]
theorem IX (a:∀i,t≠.var i):aP Κ Φ (.ret t) b=(aJ Κ Φ t b>>=λx=>.ok (.rt (jL x.1) x.2)):=by cases t<;>first|exact absurd rfl (a _)|rfl
theorem dN (h:Vv Κ Φ t ρ d):aP Κ Φ (.ret t) ρ=.ok (.rt .fr d):=by
 by_cases e:∀i,t≠.var i
 ·rw[IX e,h.1];rfl
 obtain⟨i,rfl⟩:∃i,t=.var i:=by cases t<;>first|exact⟨_,rfl⟩|exact(e λi z=>by cases z).elim
 have a:=h.1;rw[xn]at a;rw[IG];cases b:ρ[i]? with
 |none=>rw[b]at a;cases a
 |some o=>
  cases o with
  |none=>rw[b]at a;cases a
  |some f=>
   obtain⟨g,c⟩:=f;rw[b]at a;have:c=d:=by have:=congrArg (λr:Res GD=>match r with|.ok p=>p.2|_=>.none) a;exact this
   subst this;show Res.ok (Out.rt (if imm c=true then _ else _) c)=_;rw[rj h.2]
theorem IY (a:∀i,t≠.var i)(h:aJ Κ Φ t ρ=.ok (.fr,.list xs)):aP Κ Φ (.ret t) ρ=.ok (.rt .fr (.list xs)):=by rw[IX a,h];rfl
theorem pS (a:Tt Κ Φ c ρ k)(b:k=true->aP Κ Φ p ρ=r)(d:k=false->aP Κ Φ q ρ=r):aP Κ Φ (.bU c p q) ρ=r:=by
 rw[Ds,a,Res.aB];cases k with
 |true=>exact b rfl
 |false=>exact d rfl
theorem kL:aP Κ Φ .nil a=.ok (.nx a):=rfl
theorem RS {y:GD}(h:imm y.2=true):okIn y=true:=by unfold okIn;rw[h];rfl
theorem DL (c:Vv Κ Φ a f x)(d:f[i]?=some (some (.fr,.list b)))(e:b.length<1000):aP Κ Φ (.mut "append" i (.cons a .nil)) f=.ok (.nx ((f.set i (some (.fr,.list (b++[x])))).map nX)):=by
 rw[Ro,zv,c.1,Res.aB,Rr,Res.aB,Res.aB,d]
 dsimp only
 have:lY "append" b [(.fr,x)]=.ok (b++[x]):=by show(if(okIn (G.fr,x)&&decide (b.length<aS))=true then _ else _)=_;rw[rj];rw[RS c.2,Bool.true_and];refine si ?_;unfold aS;omega
 rw[this];rfl
theorem RT (h:ρ[i]?=some (some (g,d)))(a:g≠.fr)(b:imm d=true)(c:z5s d=.ok e):evF Κ Φ (.tv (.var i)) ρ=.ok (.fr,e,ρ):=by
 have f:oT ρ i=false:=by
  unfold oT;rw[h];cases g with
  |fr=>exact absurd rfl a
  |od=>rfl
  |al=>rfl
  |nu=>rfl
 rw[Rw,f];unfold l' tx;rw[gR ((v_var h b).1) c];rfl
theorem DM (h:Aa Κ Φ args ρ a)(b:iV a=.ok c):evF Κ Φ (.eN args) ρ=.ok (.fr,c,ρ):=by show tx Κ Φ (.eN args) ρ=_;unfold tx;rw[uQ h b];rfl
theorem RU {x:GD}(b:aJ Κ Φ a ρ=.ok x)(c:yT x=true)(d:seqR x.2=.ok f):evF Κ Φ (.enum a) ρ=.ok (.al,z2d 0 f,ρ):=by
 have e:dU Κ Φ (.cons a .nil) ρ=.ok [x]:=by rw[zv,b];rfl
 show(dU Κ Φ (.cons a .nil) ρ>>=λg=>oU g ρ)=_;rw[e,Res.aB];unfold oU
 dsimp only
 rw[c,d];rfl
theorem RV (b:a.length<=1000):seqR (.list a)=.ok a:=by show(if decide (a.length<=aS)=true then Res.ok a else .no)=_;rw[si (show a.length<=aS by unfold aS;omega)];rfl
theorem RW (h:imms xs=true)(a:xs.length<=1000):seqR (.list xs)=.ok xs:=RV a
theorem DN (a:imm x=true)(b:imm y=true):fF (.tp [i,j]) (gJ (.tuple [x,y]) g,.tuple [x,y]) ρ=.ok ((ρ.set i (some (.al,x))).set j (some (.al,y))):=by show Res.dQ (some ((ρ.set i (some (z1d (gJ x _,x)))).set j (some (z1d (gJ y _,y)))))=_;rw[mY a,mY b];rfl
theorem DO (h:evF Κ Φ c ρ=.ok w)(k:dD (λx a=>fF d (gJ x w.1,x) a>>=λb=>aP Κ Φ p b) w.2.1 w.2.2=r):aP Κ Φ (.bJ d c p) ρ=r:=by rw[Rp,h];exact k
theorem tW (a:Tt Κ Φ c ρ k)(hk:k=true)(h:aP Κ Φ p ρ=.ok (.rt g d)):aP Κ Φ (.seq (.bU c p q) rest) ρ=.ok (.rt g d):=cC (pS a (λ_=>h) λz=>by rw[hk]at z;cases z)
theorem tX (a:Tt Κ Φ c ρ k)(hk:k=false)(h:aP Κ Φ rest ρ=r):aP Κ Φ (.seq (.bU c p .nil) rest) ρ=r:=fG (pS a (λz=>by rw[hk]at z;cases z) λ_=>kL) h
theorem z7e (h:ρ[i]?=some (some (.fr,.list a))):aP Κ Φ (.ret (.var i)) ρ=.ok (.rt .fr (.list a)):=by rw[IG,h];rfl
theorem cX {Q:Res Out->Prop}(h:aP Κ Φ p ρ=.ok (.nx a))(k:Q (aP Κ Φ q a)):Q (aP Κ Φ (.seq p q) ρ):=by rw[fG h rfl];exact k
theorem DP {Q:Res Out->Prop}(h:aP Κ Φ p ρ=.ok (.rt g d))(k:Q (.ok (.rt g d))):Q (aP Κ Φ (.seq p q) ρ):=by rw[cC h];exact k
theorem zvq {Q:Res Out->Prop}{k:Type}{m:k->D}{j:List k}(h:evF Κ Φ n o=.ok (g,j.map m,b))(I:List k->Rho->Prop)(h0:I [] b)
  (hf:∀pre x d o,j=pre++x::d->I pre o->∃a,(fF l (gJ (m x) g,m x) o>>=λc=>aP Κ Φ p c)=.ok (.nx a)/\I (pre++[x]) a) (hk:∀a,I j a->Q (aP Κ Φ rest a)):Q (aP Κ Φ (.seq (.bJ l n p) rest) o):=by
 obtain⟨a,e,i⟩:=IH (f:=λx b=>fF l (gJ x g,x) b>>=λc=>aP Κ Φ p c) I j [] b hf h0;rw[fG (DO h e) rfl];exact hk a i
theorem ztz {Q:Res Out->Prop}{d:Type}{m:d->D}{e:List d}(h:evF Κ Φ i ρ=.ok (g,e.map m,f))(I:List d->Rho->Prop)(h0:I [] f)
  (hf:∀pre x b ρ,e=pre++x::b->I pre ρ->∃c a,fF j (gJ (m x) g,m x) ρ=.ok c/\aP Κ Φ p c=.ok (.nx a)/\I (pre++[x]) a) (hk:∀a,I e a->Q (aP Κ Φ rest a)):Q (aP Κ Φ (.seq (.bJ j i p) rest) ρ):=
 zvq h I h0 (λpre x b ρ k l=>by obtain⟨c,a,n,o,q⟩:=hf pre x b ρ k l;exact⟨a,by rw[n,Res.aB,o],q⟩) hk
theorem IZ {Q:Res Out->Prop}(a:Tt Κ Φ c b k)(hk:k=false)(h:Q (aP Κ Φ rest b)):Q (aP Κ Φ (.seq (.bU c p .nil) rest) b):=by rw[tX a hk rfl];exact h
end
end Mk
namespace Mi
open PySem PySem.Spec PyProof.Rows L2
section
open PySem.SeqAt
end
open PySem.W
section
open PySem.SeqAt
def RX (d:Addr):Obj:={cls:=.type "dict_values",data:=.fields #[.ref d]}
def vw (v d:Addr):HO:=.ext λh=>h.get? v=some (RX d)
end
def DQ (K:W.Frag)(en:Bool)(R:It->Hp->Prop)(v:V)(H1:Hp):Prop:=∃B d xs,Rep K H1 B v d/\(if en then seqR d else z5s d)=.ok xs/\∀J,Walk K J B H1 (if en then z2d 0 xs else xs)->R J H1
def zy (K:W.Frag)(en:Bool)(t:TE):TI:=λσ H R=>t σ H (DQ K en R)
theorem RY (c:PE X a t):PI X tg a (zy X.K false t):=by intro b s f H R I h;exact aI (c b s f H _ I h) λv k ⟨y,H1,g,i,B,d,l,j,e,q⟩=>z37 g i j e q
theorem RZ (hm:X.mg "enumerate"=none)(g:Gl X "enumerate")(hs:isStar a=false)(i:PE X a t):PI X (.Tuple f o tp) (.Call (.Name "enumerate" p) [a] [] pos) (zy X.K true t):=by
 intro b s j H R I h;refine Call_ (z2l I g hm CM (PyProof.Rows.callWith_type1 (aI (eV i kX hs pos b s j H (λc H1=>match c with| [v]=>DQ X.K true R v H1|_=>False) I h) ?_) (fE hs) rfl))
 rintro r x ⟨c,H1,k,l,z⟩
 rcases c with _|⟨v,_|⟨w,c⟩⟩
 ·exact z.elim
 ·obtain⟨u,rfl,m⟩:=vals1 l;obtain⟨B,d,y,n,e,q⟩:=z;exact z56 k m n e q
 ·exact z.elim
def zA:V->List V->Hp->VK->Prop:=λx xs H Q=>∃d kvs,x=.ref d/\xs=[]/\H d=some (.dK kvs)/\∀p,H p=none->Q (.ref p) (upd H p (.ext λh=>h.IsItemsView p d))
theorem R0:MtR X "dict.items" zA:=by
 rintro c s j H x l v m Q I e f ⟨d,kvs,rfl,rfl,hd,q⟩
 cases e;cases f;obtain⟨_,a,g,rel,b⟩:=vN I.hok hd;refine pz PySem.F.slot_dict_items b.typeIs PySem.F.entry_dict_items (PySem.F.args_dict_items_1 _) (meets_dict_items (gA X.prog X.w) d a) ⟨⟨g,b⟩,?_⟩;exact⟨.ref s.heap.objs.size,_,I.laid (o:=.ext λh=>h.IsItemsView s.heap.objs.size d) (λ_ _ q=>ak _ q) (ah _) ⟨⟨_,br _ rfl,rfl,rfl⟩,⟨_,br _ rfl⟩,λn p ⟨o,i,r⟩ k=>⟨o,k o i,r⟩⟩,rfl,q _ (I.hok.fresh (ah _))⟩
def zB (K:W.Frag):List V->Hp->VK->Prop:=λxs H Q=>∃p d kvs es,xs=[.ref p]/\H p=some (.ext λh=>h.IsItemsView p d)/\H d=some (.dK kvs)/\aV K H (λ_=>False) kvs es/\∀w H',Same H H'->Rep K H' (nw H) w (.list (es.map ent))->Q w H'
theorem R1 (Y:X.calm=true):CallR X (.type "list") (zB X.K):=by
 rintro w s σ H xs us Q I r ⟨p,d,kvs,es,rfl,hp,hd,rs,q⟩
 obtain⟨u,rfl,rfl⟩:=vals1 r;obtain⟨m,_,_⟩:=I.hok p _ hp;obtain⟨F,R,vs,rel,o,M,ep,ho,N,y,r3⟩:=vN I.hok hd;have lk:=rel.length;have le:=rs.length;refine kdx_call (I.ok.hd Y) m ⟨o,M,ho,N,y,r3⟩ (by omega) λh' tk acc c as hk hS hl G A=>?_;have I1:Inv X w σ H {s with heap:=h',toks:=tk}:=I.kept hk;have lz:as.length=kvs.length:=by omega
 have S:((as.zip (kvs.map λg=>[kV g.1,g.2])).map (·.1))=as:=List.map_fst_zip (by grind)
 have l:∀z∈as.zip (kvs.map λg=>[kV g.1,g.2]),∃j k v,as[j]?=some z.1/\kvs[j]?=some (k,v)/\z.2=[kV k,v]:=λz O=>by
  obtain⟨j,hj,T⟩:=oy O;have hj':j<as.length/\j<kvs.length:=by rw[List.length_zip]at hj;omega
  refine⟨j,(kvs[j]'hj'.2).1,(kvs[j]'hj'.2).2,?_,ae hj'.2,?_⟩
  ·rw[<-T,List.getElem_zip];exact ae hj'.1
  ·rw[<-T];simp
 obtain⟨H1,I2,U,ht,hr⟩:=z75 (as.zip (kvs.map λg=>[kV g.1,g.2])) I1 (by rw[S];exact G.rise.imp λh=>cc h)
  (λz F=>by obtain⟨j,k,v,t,_,_⟩:=l z F;have B:=G.above z.1 (aq t);exact I.gG (gr B) (I.hok.fresh (gr B)))
  (λz F=>by obtain⟨j,k,v,t,J,h3⟩:=l z F;obtain⟨P,k',x,W,g2,g3⟩:=G.pairs j z.1 t;obtain⟨u,g4,ru⟩:=PD rel J;rw[g4]at W;cases W;rw[h3];exact⟨by rw[ci];simp,[P,_],.cons (PF g2) (.cons ru .nil),0,g3⟩)
 have n:=I.hok.fresh (ah _);have L:H1 s.heap.objs.size=none:=by rw[hr,n];rw[S];exact λz=>cq _ (G.above _ z)
 refine⟨.ref s.heap.objs.size,_,I2.rJ (u:=.lst (as.map V.ref)) ((I.gG (ah _) n) |> λf=>⟨L,f.2⟩) ⟨by rw[am];omega,as.map Value.ref,c,HH as,by rw[<-A];exact hS⟩,rfl,q _ _ (U.trans (Same.upd L)) ⟨_,as.map V.ref,rfl,.inl ⟨bF,n⟩,?_⟩⟩;refine ze (by grind) λi v dd t J=>?_;rw[ar]at t J;obtain⟨a,B,rfl⟩:=bn.mp t;obtain⟨ev,C,rfl⟩:=bn.mp J;have hi:i<kvs.length:=lz▸(aw.mp B).1;have D:kvs[i]?=some (kvs[i].1,kvs[i].2):=by simp[hi]
 obtain⟨dv,h4,ok,rv⟩:=aV.at rs D;rw[h4]at C;cases C;have E:=ht (a,[kV kvs[i].1,kvs[i].2]) (by refine cb.mpr ⟨i,?_⟩;rw[List.getElem?_zip_eq_some];exact⟨B,by rw[ar,D];rfl⟩);refine⟨a,_,rfl,cB.of (by rw[aE (bK E L)];exact E),Reps.cons (PH ok) (Reps.cons ?_ rfl)⟩;exact Rep.keep (λb u e f=>(U.trans (Same.upd L)) b u e) (λ_ z=>z.elim) dv rv
inductive W where
 |bD (c:C)|raw (i:Nat)|cmp (op:CmpOp) (a b:W)|and (a b:W)|tup (xs:W)|lst (xs:W)|gO|ix (a b:W)|len (a:W)|uR (a b:W)|iL (o:W) (f:Str)|jS (j:Nat) (as:W)|dF (o:W) (j:Nat) (as:W)|mk (j:Nat) (as:W)|tp (c:C)|tc (op:CmpOp) (a b:W)|ti (ng:Bool) (a:W)|lH (a:W)|not (a:W)|iA (a b:W)|uS (a b:W)|jF (f:Str)|uT (a b:W)|mZ (o:W) (j:Nat) (as:W)|lit (o:W)|lc (nt:Nat) (js:List Nat) (N':List Str) (t:Tg) (en:Bool) (it c e:W)|zC (op tY:CmpOp) (a b c:W)|d4 (p q r s:Str) (a b c d:W)|nil|cons (a r:W)
 deriving Inhabited
structure Wc where
 K:W.Frag
 mg:Str->Option Value
 Κ:List D
 Φ:List Fn
 E:XK
 fn:List Sp
 me:List (Addr×Str×Sp)
 cl:List (Addr×Sp)
 xf:Option V:=none
 gi:List Int:=[]
 hf:List (Addr×Sp):=[]
 md:List (Addr×Str×Sp):=[]
 mq:List (Addr×Str×Sp):=[]
structure Gw where
 g:Gm
 fn:List (Str×Nat)
 me:List (Str×Nat)
 cl:List (Str×Nat)
 xf:Option Str:=none
 gi:List Str:=[]
 fld:List (Str×Str):=[]
 hf:List (Str×Nat):=[]
 md:List (Str×Nat):=[]
 mq:List (Str×Str):=[]
def zD {α:Type}(us:List α):List α->List α
 | [w]=>us++[w]
 |_=>[]
def fX:TE:=λ_ _ _=>False
def DR (K:W.Frag)(t:TE):TT:=λσ H Q=>t σ H λx H'=>∃k,lP K x H' k/\Q k H'
mutual
def wE:Wc->W->TE
 |Z,.bD c=>tD Z.K (aJ Z.Κ Z.Φ c)
 |Z,.raw i=>sA i
 |Z,.cmp op a b=>jH (jO Z.K (mB (cmpD op))) (wE Z a) (wE Z b)
 |Z,.and a b=>Fo (wE Z a) (wE Z b)
 |Z,.tup xs=>vJ (wA Z xs)
 |Z,.lst xs=>vK (wA Z xs)
 |Z,.gO=>FZ
 |Z,.ix a b=>jH (iY Z.K) (wE Z a) (wE Z b)
 |Z,.uR a b=>FY (wE Z a) (wE Z b)
 |Z,.len a=>oI (z8u Z.K (kB "len")) (qP (wE Z a) gI)
 |Z,.iL o f=>sJ Z.K (wE Z o) f
 |Z,.jS j as=>match Z.fn[j]? with|some sp=>nU sp [] Z.E (wA Z as)|none=>fX
 |Z,.dF o j as=>match Z.me[j]? with|some r=>jI r.1 r.2.1 r.2.2 [] Z.E (wE Z o) (wA Z as)|none=>fX
 |Z,.mk j as=>match Z.cl[j]? with|some r=>vL r.1 r.2 [] Z.E (wA Z as)|none=>fX
 |Z,.jF _=>match Z.xf with|some v=>λ_ H Q=>Q v H|none=>fX
 |Z,.uT a b=>jH (vR Z.K) (wE Z a) (wE Z b)
 |Z,.mZ o j as=>match Z.md[j]? with|some r=>jI r.1 r.2.1 r.2.2 [.aK] Z.E (wE Z o) (wA Z as)|none=>fX
 |Z,.d4 p q r s a b c d=>Ge [(tD Z.K (aJ Z.Κ Z.Φ (.str p)),wE Z a),(tD Z.K (aJ Z.Κ Z.Φ (.str q)),wE Z b),(tD Z.K (aJ Z.Κ Z.Φ (.str r)),wE Z c),(tD Z.K (aJ Z.Κ Z.Φ (.str s)),wE Z d)]
 |Z,.lit o=>oI (zB Z.K) (qP (lR Z.K "dict" zA (wE Z o)) gI)
 |Z,.lc nt js _ t en it c e=>vX (zy Z.K en (wE Z it)) (tDG Z.K t) (wT {Z with E:=λ_ _ _=>False,xf:=none} c) (wE {Z with E:=λ_ _ _=>False,xf:=none} e) (eU nt js)
 |_,_=>fX
def wA:Wc->W->TA
 |Z,.nil=>gI
 |Z,.cons a r=>qP (wE Z a) (wA Z r)
 |_,_=>λ_ _ _=>False
def wT:Wc->W->TT
 |Z,.tp c=>dJ Z.K (dG Z.Κ Z.Φ c)
 |Z,.tc op a b=>qO (jH (jO Z.K (mB (cmpD op))) (wE Z a) (wE Z b))
 |Z,.ti ng a=>qO (if ng then Ax (wE Z a)else sD (wE Z a))
 |Z,.lH a=>DR Z.K (wE Z a)
 |Z,.not a=>vz (wT Z a)
 |Z,.iA a b=>vy (wT Z a) (wT Z b)
 |Z,.uS a b=>Fg (wT Z a) (wT Z b)
 |Z,.zC op tY a b c=>qO (AU (jO Z.K (mB (cmpD op))) (jO Z.K (mB (cmpD tY))) (wE Z a) (wE Z b) (wE Z c))
 |_,.nil=>vW
 |_,_=>λ_ _ _=>False
end
def zE (Γ:Gw)(scope:Scope)(N':List Str):Gw:={Γ with g:={Γ.g with N:=N',sc:=yU scope Γ.g.sc,blk:=true,xc:=none},xf:=none}
def pT {α:Type}:List α->Option (α×α×α×α)
 | [x,y,z,u]=>some (x,y,z,u)
 |_=>none
theorem I0 (h:pT l=some v):l=[v.1,v.2.1,v.2.2.1,v.2.2.2]:=by
 unfold pT at h;split at h
 ·cases h;rfl
 ·cases h
def zF (g:Gm)(x:Str)(o:Option Expr):Bool:=o.any λk=>chkE g (.str x) k
def R3:W->Bool
 |.nil=>true
 |_=>false
mutual
def bG:Gw->W->Expr->Bool
 |Γ,.bD c,e=>chkE Γ.g c e
 |Γ,.raw i,e=>kF (mC Γ.g i) e
 |Γ,.cmp op a b,e=>(nY e).any λv=>decide (v.2.1=[op])&&(bI v.2.2).any λr=>z52 op&& !(dt op r)&&bG Γ a v.1&&bG Γ b r
 |Γ,.and a b,e=>(qZ e).any λv=>decide (v.1=.And)&&rB (λx=>bG Γ a x) (λx=>bG Γ b x) .And v.2.2 v.2.1
 |Γ,.tup xs,e=>(oW e).any λes=>lI Γ xs es
 |Γ,.lst xs,e=>(tE e).any λes=>lI Γ xs es
 |Γ,.gO,e=>(yW e).any λv=>v.1.isEmpty&&v.2.isEmpty
 |Γ,.ix a b,e=>(iX e).any λv=>z2u v.2&&bG Γ a v.1&&bG Γ b v.2
 |Γ,.uR a b,e=>(iX e).any λv=>z2u v.2&&bG Γ a v.1&&bG Γ b v.2
 |Γ,.len a,e=>(jM e).any λv=>(v.1==("len":Str))&&dI Γ.g v.1&&(bI v.2).any λy=>!isStar y&&bG Γ a y
 |Γ,.iL o f,e=>(uz e).any λv=>(v.2.1==f)&&z0r v.1&&bG Γ o v.1
 |Γ,.jS j as,e=>(jM e).any λv=>mD Γ.g v.1&&(Γ.fn[j]?==some (v.1,v.2.length))&&lI Γ as v.2&&(Γ.g.cm&& !v.2.isEmpty)
 |Γ,.dF o j as,e=>Γ.g.cm&&(rA e).any λv=>(z0r v.1&&v.2.2.2&&decide (v.2.2.1.length<20))&&(Γ.me[j]?==some (v.2.1,v.2.2.1.length))&&bG Γ o v.1&&lI Γ as v.2.2.1
 |Γ,.mk j as,e=>(jM e).any λv=>mD Γ.g v.1&&(Γ.cl[j]?==some (v.1,v.2.length))&&lI Γ as v.2&&(Γ.g.cm&& !v.2.isEmpty)
 |Γ,.jF f,e=>(uz e).any λv=>(v.2.1==f)&&z0r v.1&&(kF (λx=>Γ.g.xc.any λu=>u.1==x) v.1)&&(Γ.xf==some f)
 |Γ,.uT a b,e=>(iX e).any λv=>z2u v.2&&bG Γ a v.1&&bG Γ b v.2
 |Γ,.mZ o j as,e=>Γ.g.cm&&(rA e).any λv=>(z0r v.1&&v.2.2.2&&decide (v.2.2.1.length<20))&&(Γ.md[j]?==some (v.2.1,v.2.2.1.length))&&bG Γ o v.1&&(lI Γ as v.2.2.1&& !v.2.2.1.isEmpty)
 |Γ,.d4 p q r s a b c d,e=>(yW e).any λv=>(pT v.1).any λk=>(pT v.2).any λx=>(zF Γ.g p k.1&&zF Γ.g q k.2.1&&zF Γ.g r k.2.2.1&&zF Γ.g s k.2.2.2)&&bG Γ a x.1&&bG Γ b x.2.1&&bG Γ c x.2.2.1&&bG Γ d x.2.2.2
 |Γ,.lit o,e=>Γ.g.cm&&(jM e).any λv=>(v.1==("list":Str))&&dI Γ.g v.1&&(bI v.2).any λy=>(rA y).any λm=>((m.2.1==("items":Str))&&z0r m.1&&m.2.2.2)&&bG Γ o m.1&&m.2.2.1.isEmpty
 |Γ,.lc nt js N' t en it c x,e=>Γ.g.cm&&(BJ e).any λv=>(bI v.2.1).any λg=>((g.is_async==0)&&oM Γ.g.N Γ.g.sc v.2.2 N' nt js&&decide N'.Nodup&&qY g.iter)&&(if en then isTup g.target&&(jM g.iter).any λu=>(u.1==("enumerate":Str))&&dI Γ.g u.1&&(bI u.2).any λy=>!isStar y&&bG Γ it y else bG Γ it g.iter)&&oY (zE Γ v.2.2 N').g t g.target&&(match g.ifs with| []=>R3 c| [y]=>nB (zE Γ v.2.2 N') c y|_=>false)&&bG (zE Γ v.2.2 N') x v.1
 |_,_,_=>false
def lI:Gw->W->List Expr->Bool
 |Γ,.nil,es=>es.isEmpty
 |Γ,.cons a r,es=>match es with|e::es=>!isStar e&&bG Γ a e&&lI Γ r es|_=>false
 |_,_,_=>false
def nB:Gw->W->Expr->Bool
 |Γ,.tp c,e=>eB Γ.g c e
 |Γ,.tc op a b,e=>(nY e).any λv=>decide (v.2.1=[op])&&(bI v.2.2).any λr=>z52 op&& !(dt op r)&&bG Γ a v.1&&bG Γ b r
 |Γ,.ti ng a,e=>(nY e).any λv=>decide (v.2.1=[if ng then .IsNot else .Is])&&(bI v.2.2).any λr=>decide (fN r=some .none)&&bG Γ a v.1
 |Γ,.lH a,e=>plainT e&&bG Γ a e
 |Γ,.not a,e=>(wm e).any λv=>decide (v.1=.Not)&&nB Γ a v.2
 |Γ,.iA a b,e=>(qZ e).any λv=>decide (v.1=.And)&&rB (λx=>nB Γ a x) (λx=>nB Γ b x) .And v.2.2 v.2.1
 |Γ,.uS a b,e=>(qZ e).any λv=>decide (v.1=.Or)&&rB (λx=>nB Γ a x) (λx=>nB Γ b x) .Or v.2.2 v.2.1
 |Γ,.zC op tY a b c,e=>(nY e).any λv=>decide (v.2.1=[op,tY])&&(oX v.2.2).any λr=>z52 op&&z52 tY&& !(lastMarks [op,tY] [r.1,r.2])&&bG Γ a v.1&&(bG Γ b r.1&&bG Γ c r.2)
 |_,_,_=>false
end
structure Zok (Γ:Gw)(Z:Wc)(CX:CXT)(P:cj)(w:World)(K:W.Frag)(mg:Str->Option Value)(base:Heap)(r:Nat):Prop where
 kk:Z.K=K
 mm:Z.mg=mg
 fn:∀(j:Nat) x n,Γ.fn[j]?=some (x,n)->∃sp f fd ps k,Z.fn[j]?=some sp/\k<=r/\FnOk P w K mg base CX k f fd ps sp/\mg x=some (.ref f)/\W.keepIn K (.ref f)=true/\Binds K fd ps []
 me:∀(j:Nat) m n,Γ.me[j]?=some (m,n)->∃C sp f fd ps k,Z.me[j]?=some (C,m,sp)/\k<=r/\FnOk P w K mg base CX k f fd ps sp/\Cls K C/\Meth K C m f/\Binds K fd ps []
 cl:∀(j:Nat) x n,Γ.cl[j]?=some (x,n)->∃C sp f fd ps k,Z.cl[j]?=some (C,sp)/\k+1<=r/\FnOk P w K mg base CX k f fd ps sp/\Mk K C f/\mg x=some (.ref C)/\Binds K fd ps []
 gi:∀(j:Nat) x,Γ.gi[j]?=some x->∃n t,Z.gi[j]?=some n/\mg x=some (.int n t)
 hf:∀(j:Nat) x n,Γ.hf[j]?=some (x,n)->∃sp f fd ps k,Z.hf[j]?=some (f,sp)/\k<=r/\FnOk P w K mg base CX k f fd ps sp/\mg x=some (.ref f)/\W.keepIn K (.ref f)=true/\Binds K fd ps []
 md:∀(j:Nat) m n,Γ.md[j]?=some (m,n)->∃C sp f fd ps k,Z.md[j]?=some (C,m,sp)/\k<=r/\FnOk P w K mg base CX k f fd ps sp/\Cls K C/\Meth K C m f/\Binds K fd ps [.none]
 mq:∀(j:Nat) m kn,Γ.mq[j]?=some (m,kn)->∃C sp f fd ps k,Z.mq[j]?=some (C,m,sp)/\k<=r/\FnOk P w K mg base CX k f fd ps sp/\Cls K C/\Meth K C m f/\lQ K fd ps [kn] zD zD
structure Wok (Γ:Gw)(Z:Wc)(CX:CXT)(X:Cx)(r:Nat):Prop extends Zok Γ Z CX X.prog X.w X.K X.mg X.base r where
 ck:Cok Γ.g Z.Κ Z.Φ X r
 room:Γ.g.cm=true->Room r X.A
 px:z2m CX X Z.E
 xf:∀f,Γ.xf=some f->∃v,Z.xf=some v/\∀n c,Γ.g.xc=some (n,c)->∀p q,z0r (.Name n p)=true->PE X (.Attribute (.Name n p) f q) (λ_ H Q=>Q v H)
 Ja:∀outer H s e s',¬CX outer H s (λ_ _ _=>False) e s'
section
variable {X:Cx}
theorem z69 {C:Addr}(v:PE X o y)(c:Cls X.K C)(hm:Meth X.K C m f)
  (n:z0r o=true) (p:(es.all λe=>!isStar e)=true) (z:es.length<20) (g:(k.endLine==b.line)=true)
  (go:∀d s j H Q a,Inv X d j H s->(t j H λvs B=>sp (.ref a::(vs++dvs)) B Q E)->wpAny (model X.prog X.w) X.A (callWith b (.ref f) [.ref a] (i5 b (c8 es X.env)) (n4 b (kh [] X.env))) (EP X d j Q) X.xe s):
  PE X (.Call (.Attribute o m k) es [] b) (jI C m sp dvs E y t):=by
 intro d s j H Q I h;rw[arm_eval_Call,nW n];refine ac (aI (v d s j H _ I h) ?_)
 rintro u D ⟨x,H1,r,F,a,dx,fs,ex,G,l,q⟩
 subst ex;obtain rfl:u=Value.ref a:=F;refine ac (iw ?_);have i:methodCallForm (es.length+([]:List lv).length) (i5 b (c8 es X.env)) (n4 b (kh [] X.env))=true:=z9y p z;unfold methodCall;rw[i];refine ac (fj (zbs r G c hm l ?_));exact ac (wpAny_of_eq (by unfold methodCallPos;simp[g]) (go d D j H1 Q a r q))
variable {CX:CXT}{k:Nat}{f C:Addr}{fd:dn}{ps:List Str}{sp:Sp}{E:XK}{m:Str}{apos bN:Pos}{o e:Expr}{es:List Expr}{ta:TE}{t:TA}
theorem zi8 (i:PE X o ta)(c:Cls X.K C)(hm:Meth X.K C m f)(F:FnOk X.prog X.w X.K X.mg X.base CX k f fd ps sp)(j:Room k X.A)(l:Binds X.K fd ps [])(n:z2m CX X E)(p:PA X (e::es) t)
  (g:z0r o=true) (b:((e::es).all λe=>!isStar e)=true) (u:(e::es).length<20) (d:(apos.endLine==bN.line)=true):
  PE X (.Call (.Attribute o m apos) (e::es) [] bN) (jI C m sp [] E ta t):=
 z69 i c hm g b u d λpins s σ H Q a I q=>by rw[cx,bt]at b;refine W.callWith_K I.ok.mod.sx hm.kp (aI (p bN pins s σ H _ I q) λus x ⟨vs,y,h,r,v⟩=>⟨h.cM,?_⟩) (fE (by simpa using b.1)) (lV b.2);exact zaj (vs:=.ref a::vs) F j l .nil n h (.cons rfl r) v
theorem zie (l:PE X o ta)(c:Cls X.K C)(hm:Meth X.K C m f)(F:FnOk X.prog X.w X.K X.mg X.base CX k f fd ps sp)(hr:Room k X.A)(n:Binds X.K fd ps [.none])(p:z2m CX X E)(u:PA X (e::es) t)
  (h:z0r o=true) (b:((e::es).all λe=>!isStar e)=true) (v:(e::es).length<20) (d:(apos.endLine==bN.line)=true):
  PE X (.Call (.Attribute o m apos) (e::es) [] bN) (jI C m sp [.aK] E ta t):=
 z69 l c hm h b v d λg s x H Q a I q=>by rw[cx,bt]at b;refine W.callWith_K I.ok.mod.sx hm.kp (aI (u bN g s x H _ I q) λz B ⟨i,D,j,r,y⟩=>⟨j.cM,?_⟩) (fE (by simpa using b.1)) (lV b.2);exact zaj (vs:=.ref a::i) (dvs:=[.aK]) F hr n (.cons rfl .nil) p j (.cons rfl r) y
theorem zee (e:PE X o ta)(c:Cls X.K C)(hm:Meth X.K C m f)(F:FnOk X.prog X.w X.K X.mg X.base CX k f fd ps sp)(g:Room k X.A)(h:Binds X.K fd ps [])(i:z2m CX X E)
  (d:z0r o=true) (b:(apos.endLine==bN.line)=true):
  PE X (.Call (.Attribute o m apos) [] [] bN) (jI C m sp [] E ta gI):=
 z69 e c hm d rfl dc b λj s l H Q a I q=>W.callWith_K0 I.cM hm.kp (zaj (vs:=[.ref a]) F g h .nil i I (.cons rfl .nil) q)
end
section
variable {Γ:Gw}{Z:Wc}{CX:CXT}{X:Cx}{r:Nat}
structure We (w:W):Prop where
 E:∀(Γ:Gw) (Z:Wc) (CX:CXT) (X:Cx) (r:Nat) (e:Expr),Wok Γ Z CX X r->bG Γ w e=true->PE X e (wE Z w)
 A:∀(Γ:Gw) (Z:Wc) (CX:CXT) (X:Cx) (r:Nat) (es:List Expr),Wok Γ Z CX X r->lI Γ w es=true->PA X es (wA Z w)
 T:∀(Γ:Gw) (Z:Wc) (CX:CXT) (X:Cx) (r:Nat) (e:Expr),Wok Γ Z CX X r->nB Γ w e=true->PT X e (wT Z w)/\((∃o l p,e=.BoolOp o l p)->PW X e (wT Z w))
theorem We.x (h:∀(Γ:Gw) (Z:Wc) (CX:CXT) (X:Cx) (r:Nat) (e:Expr),Wok Γ Z CX X r->bG Γ w e=true->PE X e (wE Z w))(a:∀Γ es,lI Γ w es=false)(b:∀Γ e,nB Γ w e=false):We w where
 E:=h
 A:=λΓ Z CX X r es k z=>ff (a Γ es) z
 T:=λΓ Z CX X r e k z=>ff (b Γ e) z
theorem We.t (h:∀Γ Z CX X r e,Wok Γ Z CX X r->nB Γ w e=true->PT X e (wT Z w)/\((∃o l p,e=.BoolOp o l p)->PW X e (wT Z w)))(a:∀Γ e,bG Γ w e=false)(b:∀Γ c,lI Γ w c=false):We w where
 E:=λΓ Z CX X r e k z=>ff (a Γ e) z
 A:=λΓ Z CX X r c k z=>ff (b Γ c) z
 T:=h
theorem zI {w:W}:∀{d:List Expr},lI Γ w d=true->(d.all λe=>!isStar e)=true:=by
 induction w with
 |nil=>intro d h;cases eW h;rfl
 |cons a r _ i=>
  intro d h;cases d with
  |nil=>cases h
  |cons e d=>obtain⟨b,_,c⟩:=aQ h;rw[cx,b,i c];rfl
 |_=>exact λh=>ff rfl h
theorem Wok.rm (k:Wok Γ Z CX X r)(a:Γ.g.cm=true)(h:j<=r):Room j X.A:=(k.room a).mono h
theorem eqB {c:Type} [BEq c] [LawfulBEq c] {a b:c}(h:(a==b)=true):a=b:=eq_of_beq h
theorem Jb (h:((nY e).any λv=>decide (v.2.1=[c])&&(bI v.2.2).any λr=>z52 c&& !(dt c r)&&bG Γ a v.1&&bG Γ b r)=true):∃l r p,e=.Compare l [c] [r] p/\z52 c=true/\dt c r=false/\bG Γ a l=true/\bG Γ b r=true:=by obtain⟨⟨l,o,rs⟩,g,i⟩:=aH h;obtain⟨p,rfl⟩:=mR g;obtain⟨j,d⟩:=aC i;obtain⟨r,k,f⟩:=aH d;cases sg j;cases fV k;obtain⟨d,f,m,n⟩:=bH f;exact⟨l,r,p,rfl,d,cU f,m,n⟩
theorem R4 {d:Bool}(h:((nY e).any λv=>decide (v.2.1=[if d then .IsNot else .Is])&&(bI v.2.2).any λr=>decide (fN r=some .none)&&bG Γ a v.1)=true):∃l j b p,e=.Compare l [if d then .IsNot else .Is] [.Constant .none j b] p/\bG Γ a l=true:=by obtain⟨⟨l,o,rs⟩,f,g⟩:=aH h;obtain⟨p,rfl⟩:=mR f;obtain⟨i,k⟩:=aC g;obtain⟨r,hr,c⟩:=aH k;cases sg i;cases fV hr;obtain⟨c,m⟩:=aC c;obtain⟨j,b,rfl⟩:=tP (sg c);exact⟨l,j,b,p,rfl,m⟩
theorem DS (h:bG Γ (.dF o j f) e=true):Γ.g.cm=true/\∃b m a v c,e=.Call (.Attribute b m a) v [] c/\(a.endLine==c.line)=true/\z0r b=true/\v.length<20/\Γ.me[j]?=some (m,v.length)/\bG Γ o b=true/\lI Γ f v=true:=by obtain⟨d,h⟩:=aC h;obtain⟨⟨x,n,v,b⟩,i,k⟩:=aH h;obtain⟨a,c,rfl,l⟩:=jz i;obtain⟨h0,p,q,r⟩:=bH k;obtain⟨s,t,u⟩:=aQ h0;exact⟨d,x,n,a,v,c,rfl,l.symm.trans t,s,sg u,eqB p,q,r⟩
theorem R5 (h:z2u i=true):sS i:=λo v=>by cases i<;>first|rfl|cases h
theorem DT (u:We it)(F:We c)(G:We x):∀Γ Z CX X r e,Wok Γ Z CX X r->bG Γ (.lc J L g t en it c x) e=true->PE X e (wE Z (.lc J L g t en it c x)):=by
 intro Γ Z CX X r e k h;obtain⟨n,h⟩:=aC h;obtain⟨⟨el,gs,a⟩,M,i⟩:=aH h;obtain⟨pos,rfl⟩:=wU M;obtain⟨⟨v,j,m,ka⟩,N,i⟩:=aH i;cases fV N;obtain⟨h0,d,O,o,i⟩:=dE i;obtain⟨P,Q,R,S⟩:=bH h0;cases sj P;have w:=GA k.ck.hN k.ck.hs Q;have A:=λC b s H=>k.ck.blk w.kind (sg R) C b s H;have B:∀C b s H,Wok (zE Γ a g) {Z with E:=λ_ _ _=>False,xf:=none} CX (blk X a g C b s H) r:=λC b s H=>⟨⟨k.kk,k.mm,k.fn,k.me,k.cl,k.gi,k.hf,k.md,k.mq⟩,A C b s H,k.room,λD σ H s e s' I z=>(k.Ja _ _ _ _ _ z).elim,λf z=>(by cases z),k.Ja⟩
 have U:PI X v j (zy X.K en (wE Z it)):=by
  cases en with
  |false=>exact RY (u.E Γ Z CX X r _ k d)
  |true=>obtain⟨t1,d⟩:=aC d;obtain⟨⟨f,es⟩,hf,d⟩:=aH d;obtain⟨_,_,rfl⟩:=jQ hf;obtain⟨p,V,W⟩:=aQ d;obtain⟨y,Y,u5⟩:=aH W;cases fV Y;obtain⟨u6,u4⟩:=aC u5;have p:=eqB p;subst p;obtain⟨_,_,_,rfl⟩:=C4 t1;obtain⟨g1,g2,g3,g4⟩:=k.ck.blt V;exact RZ g2 g1 (cU u6) (u.E Γ Z CX X r _ k u4)
 have ht:∀C b s H,oN (blk X a g C b s H) m (wT {Z with E:=λ_ _ _=>False,xf:=none} c):=λC b s H=>by
  rcases m with _|⟨y,_|⟨z,l⟩⟩
  ·have :c=.nil:=by cases c<;>first|rfl|cases o
   subst this;exact GB
  ·exact GC (F.T _ _ CX _ r _ (B C b s H) o).1
  ·cases o
 have q:∀C b s H,PG (blk X a g C b s H) v (tDG X.K t):=λC b s H=>uL (A C b s H) O;have hh:=za2 (pos:=pos) (k.ck.calm n) w U q ht (λC b s H=>G.E _ _ CX _ r _ (B C b s H) i) (uM S _);rw[<-k.kk]at hh;exact hh
theorem cJ (w:W):We w:=by
 induction w with
 |bD c=>exact We.x (λΓ Z CX X r e k h=>by show PE X e (tD Z.K (aJ Z.Κ Z.Φ c));rw[k.kk];exact(all c).E Γ.g X r e k.ck h) (λ_ _=>rfl) λ_ _=>rfl
 |raw i=>exact We.x (λΓ Z CX X r e k h=>by obtain⟨x,p,rfl,h⟩:=jR h;obtain⟨u,B,D,J⟩:=k.ck.aM h;exact vx u B D J) (λ_ _=>rfl) λ_ _=>rfl
 |cmp op a b G M=>exact We.x (λΓ Z CX X r e k h=>by obtain⟨_,_,_,rfl,B,D,J,O⟩:=Jb h;show PE X _ (jH (jO Z.K (mB (cmpD _))) _ _);rw[k.kk];exact FD (uC k.ck.hu _ B) (G.E Γ Z CX X r _ k J) (M.E Γ Z CX X r _ k O) D) (λ_ _=>rfl) λ_ _=>rfl
 |and a b G M=>exact We.x (λΓ Z CX X r e k h=>by
  obtain⟨⟨o,xs,p⟩,L,I⟩:=aH h;cases i' L;obtain⟨u,B⟩:=aC I;cases sg u;rcases tR B with⟨x,y,rfl,D,J⟩|⟨x,y,z,t,rfl,D,J⟩
  ·exact AG (G.E Γ Z CX X r _ k D) (AF (M.E Γ Z CX X r _ k J))
  ·exact AG (G.E Γ Z CX X r _ k D) (M.E Γ Z CX X r _ k J)) (λ_ _=>rfl) λ_ _=>rfl
 |tup xs G=>exact We.x (λΓ Z CX X r e k h=>by obtain⟨v,L,I⟩:=aH h;obtain⟨_,_,rfl⟩:=zi L;exact FK (G.A Γ Z CX X r _ k I)) (λ_ _=>rfl) λ_ _=>rfl
 |lst xs G=>exact We.x (λΓ Z CX X r e k h=>by obtain⟨v,L,I⟩:=aH h;obtain⟨_,rfl⟩:=HX L;exact FN (G.A Γ Z CX X r _ k I)) (λ_ _=>rfl) λ_ _=>rfl
 |gO=>exact We.x (λΓ Z CX X r e k h=>by obtain⟨⟨a,b⟩,L,I⟩:=aH h;obtain⟨_,rfl⟩:=tQ L;obtain⟨u,B⟩:=aC I;cases eW u;cases eW B;exact F6) (λ_ _=>rfl) λ_ _=>rfl
 |ix a b G M=>exact We.x (λΓ Z CX X r e k h=>by obtain⟨v,L,I⟩:=aH h;obtain⟨_,rfl⟩:=uK L;obtain⟨u,B,D⟩:=aQ I;show PE X _ (jH (iY Z.K) _ _);rw[k.kk];exact A5 (GY k.ck.hu) (G.E Γ Z CX X r _ k B) (M.E Γ Z CX X r _ k D) (B8 u)) (λ_ _=>rfl) λ_ _=>rfl
 |uR a b G M=>exact We.x (λΓ Z CX X r e k h=>by obtain⟨v,L,I⟩:=aH h;obtain⟨_,rfl⟩:=uK L;obtain⟨u,B,D⟩:=aQ I;exact Mu (fi (o0 dc _) k.ck.hu) (G.E Γ Z CX X r _ k B) (M.E Γ Z CX X r _ k D) (R5 u)) (λ_ _=>rfl) λ_ _=>rfl
 |len a G=>exact We.x (λΓ Z CX X r e k h=>by obtain⟨⟨x,es⟩,L,I⟩:=aH h;obtain⟨_,_,rfl⟩:=jQ L;obtain⟨u,B,D⟩:=aQ I;obtain⟨y,hy,J⟩:=aH D;cases fV hy;obtain⟨J,O⟩:=aC J;have u:=eqB u;subst u;obtain⟨g1,g2,g3,g4⟩:=k.ck.blt B;show PE X _ (oI (z8u Z.K (kB "len")) _);rw[k.kk];exact yM G0 g2 (show c9 "len"=_ by decide+kernel) (eV (G.E Γ Z CX X r _ k O) kX (cU J)) (by rw[cx,J];rfl) g1 g4 g3) (λ_ _=>rfl) λ_ _=>rfl
 |iL o f io=>exact We.x (λΓ Z CX X r e k h=>by obtain⟨⟨x,n,p⟩,L,I⟩:=aH h;cases mT L;obtain⟨u,B,D⟩:=aQ I;have u:=eqB u;subst u;show PE X _ (sJ Z.K _ _);rw[k.kk];exact Mj (io.E Γ Z CX X r _ k D) (nW B)) (λ_ _=>rfl) λ_ _=>rfl
 |jS j as G=>exact We.x (λΓ Z CX X r e k h=>by
  obtain⟨⟨x,es⟩,L,I⟩:=aH h;obtain⟨_,_,rfl⟩:=jQ L;obtain⟨u,B,D,J⟩:=bH I;obtain⟨N,J⟩:=aC J;obtain⟨y,es,rfl⟩:=rM J;obtain⟨g1,g2⟩:=k.ck.gl u;obtain⟨R,f,fd,ps,n,c1,U,V,Y,c5,c6⟩:=k.fn j _ _ (eqB B);obtain⟨s1,s2⟩:=cx.symm.trans (zI D) |> au.mp;have S:wE Z (.jS j as)=nU R [] Z.E (wA Z as):=by show(match Z.fn[j]? with|some R=>nU R [] Z.E (wA Z as)|none=>fX)=_;rw[c1]
  rw[S];exact zcc V (k.rm N U) g1 Y c5 c6 .nil k.px (G.A Γ Z CX X r _ k D) g2 (fE (cU s1)) (lV s2)) (λ_ _=>rfl) λ_ _=>rfl
 |dF o j as io G=>exact We.x (λΓ Z CX X r e k h=>by
  obtain⟨N,b,m,ap,es,cp,rfl,u,B,D,J,O,P⟩:=DS h;obtain⟨C,R,f,fd,ps,n,c1,U,V,Y,c5,c6⟩:=k.me j _ _ J;have S:wE Z (.dF o j as)=jI C m R [] Z.E (wE Z o) (wA Z as):=by show(match Z.me[j]? with|some r=>jI r.1 r.2.1 r.2.2 [] Z.E (wE Z o) (wA Z as)|none=>fX)=_;rw[c1]
  rw[S];have ho:=io.E Γ Z CX X r _ k O;have ha:=G.A Γ Z CX X r _ k P;cases es with
  |nil=>
   refine PE.imp (zee ho Y c5 V (k.rm N U) c6 k.px B u) λσ H Q q=>?_;have:wA Z as=gI:=by cases as<;>first|rfl|(cases P;done)
   rw[this]at q;exact q
  |cons y es=>exact zi8 ho Y c5 V (k.rm N U) c6 k.px ha B (zI P) D u) (λ_ _=>rfl) λ_ _=>rfl
 |mk j as G=>exact We.x (λΓ Z CX X r e k h=>by
  obtain⟨⟨x,es⟩,L,I⟩:=aH h;obtain⟨_,_,rfl⟩:=jQ L;obtain⟨u,B,D,J⟩:=bH I;obtain⟨N,J⟩:=aC J;obtain⟨y,es,rfl⟩:=rM J;obtain⟨g1,g2⟩:=k.ck.gl u;obtain⟨C,R,f,fd,ps,n,c1,U,V,Y,c5,c6⟩:=k.cl j _ _ (eqB B);obtain⟨s1,s2⟩:=cx.symm.trans (zI D) |> au.mp;have S:wE Z (.mk j as)=vL C R [] Z.E (wA Z as):=by show(match Z.cl[j]? with|some r=>vL r.1 r.2 [] Z.E (wA Z as)|none=>fX)=_;rw[c1]
  rw[S];exact zkw Y V ((k.room N).mono U) g1 c5 c6 .nil k.px (G.A Γ Z CX X r _ k D) g2 (fE (cU s1)) (lV s2)) (λ_ _=>rfl) λ_ _=>rfl
 |tp c=>exact We.t (λΓ Z CX X r e k h=>by show PT X e (dJ Z.K (dG Z.Κ Z.Φ c))/\(_->PW X e (dJ Z.K (dG Z.Κ Z.Φ c)));rw[k.kk];exact(all c).T Γ.g X r e k.ck h) (λ_ _=>rfl) λ_ _=>rfl
 |tc op a b G M=>exact We.t (λΓ Z CX X r e k h=>by obtain⟨_,_,_,rfl,B,D,J,O⟩:=Jb h;refine⟨?_,λ⟨_,_,_,z⟩=>by cases z⟩;show PT X _ (qO (jH (jO Z.K (mB (cmpD _))) _ _));rw[k.kk];exact FE (uC k.ck.hu _ B) (G.E Γ Z CX X r _ k J) (M.E Γ Z CX X r _ k O) D) (λ_ _=>rfl) λ_ _=>rfl
 |ti ng a G=>exact We.t (λΓ Z CX X r e k h=>by
  obtain⟨_,_,_,_,rfl,B⟩:=R4 h;have ha:=G.E Γ Z CX X r _ k B;refine⟨?_,λ⟨_,_,_,z⟩=>by cases z⟩;cases ng with
  |true=>exact yC (Az ha)
  |false=>exact yC (Ay ha)) (λ_ _=>rfl) λ_ _=>rfl
 |lH a G=>exact We.t (λΓ Z CX X r e k h=>by obtain⟨u,B⟩:=aC h;refine⟨?_,λ⟨_,_,_,z⟩=>by subst z;cases u⟩;show PT X _ (DR Z.K _);rw[k.kk];exact z9q (G.E Γ Z CX X r _ k B) (HY u _)) (λ_ _=>rfl) λ_ _=>rfl
 |not a G=>exact We.t (λΓ Z CX X r e k h=>by obtain⟨⟨o,x⟩,L,I⟩:=aH h;obtain⟨p,rfl⟩:=pG L;obtain⟨u,B⟩:=aC I;cases sg u;exact⟨Fj (G.T Γ Z CX X r _ k B).1,λ⟨_,_,_,z⟩=>by cases z⟩) (λ_ _=>rfl) λ_ _=>rfl
 |iA a b G M=>exact We.t (λΓ Z CX X r e k h=>by
  obtain⟨⟨o,xs,p⟩,L,I⟩:=aH h;cases i' L;obtain⟨u,B⟩:=aC I;cases sg u;rcases tR B with⟨x,y,rfl,D,J⟩|⟨x,y,z,t,rfl,D,J⟩
  ·have w:=AA (pos:=p) (G.T Γ Z CX X r _ k D).1 (Fh (M.T Γ Z CX X r _ k J).1);exact⟨w.pt,λ_=>w⟩
  ·have w:=AA (G.T Γ Z CX X r _ k D).1 ((M.T Γ Z CX X r _ k J).2 ⟨_,_,_,rfl⟩);exact⟨w.pt,λ_=>w⟩) (λ_ _=>rfl) λ_ _=>rfl
 |uS a b G M=>exact We.t (λΓ Z CX X r e k h=>by
  obtain⟨⟨o,xs,p⟩,L,I⟩:=aH h;cases i' L;obtain⟨u,B⟩:=aC I;cases sg u;rcases tR B with⟨x,y,rfl,D,J⟩|⟨x,y,z,t,rfl,D,J⟩
  ·have w:=AD (pos:=p) (G.T Γ Z CX X r _ k D).1 (Fi (M.T Γ Z CX X r _ k J).1);exact⟨w.pt,λ_=>w⟩
  ·have w:=AD (G.T Γ Z CX X r _ k D).1 ((M.T Γ Z CX X r _ k J).2 ⟨_,_,_,rfl⟩);exact⟨w.pt,λ_=>w⟩) (λ_ _=>rfl) λ_ _=>rfl
 |jF f=>exact We.x (λΓ Z CX X r e k h=>by
  obtain⟨⟨x,n,p⟩,L,I⟩:=aH h;cases mT L;obtain⟨u,h0,B,D⟩:=bH I;have u:=eqB u;subst u;obtain⟨y,q,rfl,J⟩:=jR B;obtain⟨⟨m,c⟩,O,P⟩:=aH J;have P:=eqB P;subst P;obtain⟨v,e1,e2⟩:=k.xf n (eqB D);have S:wE Z (.jF n)=λ_ H Q=>Q v H:=by show(match Z.xf with|some v=>(λ_ H Q=>Q v H:TE)|none=>fX)=_;rw[e1]
  rw[S];exact e2 m c O _ _ h0) (λ_ _=>rfl) λ_ _=>rfl
 |uT a b G M=>exact We.x (λΓ Z CX X r e k h=>by obtain⟨v,L,I⟩:=aH h;obtain⟨_,rfl⟩:=uK L;obtain⟨u,B,D⟩:=aQ I;show PE X _ (jH (vR Z.K) _ _);rw[k.kk];exact A5 Gp (G.E Γ Z CX X r _ k B) (M.E Γ Z CX X r _ k D) (B8 u)) (λ_ _=>rfl) λ_ _=>rfl
 |mZ o j as io G=>exact We.x (λΓ Z CX X r e k h=>by
  obtain⟨N,h⟩:=aC h;obtain⟨⟨b,m,es,l⟩,L,I⟩:=aH h;obtain⟨ap,cp,rfl,hb⟩:=jz L;obtain⟨h0,P,h7,h8⟩:=bH I;obtain⟨u,B,D⟩:=aQ h0;obtain⟨h8,DU⟩:=aC h8;obtain⟨C,R,f,fd,ps,n,c1,U,V,Y,c5,c6⟩:=k.md j _ _ (eqB P);have S:wE Z (.mZ o j as)=jI C m R [.aK] Z.E (wE Z o) (wA Z as):=by show(match Z.md[j]? with|some r=>jI r.1 r.2.1 r.2.2 [.aK] Z.E (wE Z o) (wA Z as)|none=>fX)=_;rw[c1]
  rw[S];obtain⟨y,es,rfl⟩:=rM DU;exact zie (io.E Γ Z CX X r _ k h7) Y c5 V (k.rm N U) c6 k.px (G.A Γ Z CX X r _ k h8) u (zI h8) (sg D) (hb.symm.trans B)) (λ_ _=>rfl) λ_ _=>rfl
 |zC op tY a b c G M ic=>exact We.t (λΓ Z CX X r e k h=>by obtain⟨⟨l,o,rs⟩,L,I⟩:=aH h;obtain⟨p,rfl⟩:=mR L;obtain⟨u,B⟩:=aC I;obtain⟨⟨r1,r2⟩,hr,D⟩:=aH B;cases sg u;cases CQ hr;obtain⟨B,D,J,O,P⟩:=dE D;obtain⟨P,h7⟩:=aC P;refine⟨?_,λ⟨_,_,_,z⟩=>by cases z⟩;show PT X _ (qO (AU (jO Z.K (mB (cmpD _))) (jO Z.K (mB (cmpD _))) _ _ _));rw[k.kk];exact zg4 (uC k.ck.hu _ B) (uC k.ck.hu _ D) (G.E Γ Z CX X r _ k O) (M.E Γ Z CX X r _ k P) (ic.E Γ Z CX X r _ k h7) (cU J)) (λ_ _=>rfl) λ_ _=>rfl
 |d4 p q r s a b c d G M ic R6=>exact We.x (λΓ Z CX X r e k h=>by
  obtain⟨⟨ks,vs⟩,L,I⟩:=aH h;obtain⟨_,rfl⟩:=tQ L;obtain⟨⟨k1,k2,k3,k4⟩,hk,I⟩:=aH I;obtain⟨⟨v1,v2,v3,v4⟩,hx,I⟩:=aH I;cases I0 hk;cases I0 hx;obtain⟨h0,u,B,D,J⟩:=dE I;obtain⟨g1,g2,g3,g4⟩:=bH h0;obtain⟨y1,e1,g1⟩:=aH g1;obtain⟨y2,e2,g2⟩:=aH g2;obtain⟨y3,e3,g3⟩:=aH g3;obtain⟨y4,e4,g4⟩:=aH g4;cases e1;cases e2;cases e3;cases e4;have ky:∀{x:Str} {y:Expr},chkE Γ.g (.str x) y=true->PE X y (tD Z.K (aJ Z.Κ Z.Φ (.str x))):=λ{x y} g=>by rw[k.kk];exact(all (.str x)).E Γ.g X r y k.ck g
  exact zlf (z45 (ky g1) (G.E Γ Z CX X r _ k u) (z45 (ky g2) (M.E Γ Z CX X r _ k B) (z45 (ky g3) (ic.E Γ Z CX X r _ k D) (z45 (ky g4) (R6.E Γ Z CX X r _ k J) Mv)))) rfl rfl (by simp) (by show 4<=15;decide)) (λ_ _=>rfl) λ_ _=>rfl
 |lit o io=>exact We.x (λΓ Z CX X r e k h=>by obtain⟨N,h⟩:=aC h;obtain⟨⟨x,es⟩,L,I⟩:=aH h;obtain⟨_,_,rfl⟩:=jQ L;obtain⟨u,B,D⟩:=aQ I;obtain⟨y,hy,J⟩:=aH D;cases fV hy;obtain⟨⟨b,n,es,l⟩,hm,h8⟩:=aH J;obtain⟨ap,cp,rfl,hb⟩:=jz hm;obtain⟨h0,P,h7⟩:=aQ h8;obtain⟨O,DU,R7⟩:=aQ h0;cases eW h7;have O:=eqB O;subst O;have u:=eqB u;subst u;obtain⟨g1,g2,g3,g4⟩:=k.ck.blt B;show PE X _ (oI (zB Z.K) (qP (lR Z.K "dict" zA _) gI));rw[k.kk];exact Bn (R1 (k.ck.calm N)) g2 (show c9 "list"=_ by decide+kernel) (eV (zis PySem.F.plainAttrs_dict PySem.F.slot_dict_items PySem.F.type_dict_items R0 (io.E Γ Z CX X r _ k P) (nW DU) (hb.symm.trans R7)) kX rfl) rfl g1 g4 g3) (λ_ _=>rfl) λ_ _=>rfl
 |lc nt js N' t en it c x ii ic ie=>exact We.x (DT ii ic ie) (λ_ _=>rfl) λ_ _=>rfl
 |nil=>exact⟨λ_ _ _ _ _ _ _ h=>ff rfl h,λΓ Z CX X r es k h=>by cases eW h;exact kX,λ_ _ _ _ _ _ _ h=>ff rfl h⟩
 |cons a q G iq=>exact⟨λ_ _ _ _ _ _ _ h=>ff rfl h,λΓ Z CX X r es k h=>by
  cases es with
  |nil=>cases h
  |cons e es=>obtain⟨u,B,D⟩:=aQ h;exact eV (G.E Γ Z CX X r _ k B) (iq.A Γ Z CX X r _ k D) (cU u),λ_ _ _ _ _ _ _ h=>ff rfl h⟩
end
theorem zJ (outer:List Env)(H:Hp)(s:bc)(e:Value)(a:bc):¬CXE P w base outer H s (λ_ _ _=>False) e a:=λz=>by obtain⟨_,_,_,_,_,_,z⟩:=z;exact z
def jT (X:Cx)(pn:List (Addr×Obj))(E:Value->bc->Prop):Cx:={X with pn:=pn,xe:=E}
theorem Jc (ok:X.Ok):(jT X pn E).Ok:=⟨ok.mod,ok.kind,ok.glob,ok.blt,ok.above,ok.inj,ok.has,ok.qM,ok.hd,ok.frames,ok.sy,ok.jF,ok.bs,ok.jG,ok.hJ,ok.hP,ok.cF,ok.nT,ok.vq⟩
theorem R8 (I:Inv X b c H s)(E:Value->bc->Prop):Inv (jT X (X.pn++b) E) [] c H s:=⟨Jc I.ok,I.os,I.bare,I.base,I.loc,I.cell,I.free,I.bA,λp a=>I.pin p (by simpa[Mi.jT]using a),I.hok,I.len,I.fx⟩
theorem DV (ok:X.Ok)(I:Inv (jT X (X.pn++b) E) qN c H s):Inv X b c H s:=⟨ok,I.os,I.bare,I.base,I.loc,I.cell,I.free,I.bA,λp a=>I.pin p (ee _ a),I.hok,I.len,I.fx⟩
theorem Jd (k:Cok Γ Κ Φ X r)(a:Γ.xc=none)(pn:List (Addr×Obj))(E:Value->bc->Prop):Cok Γ Κ Φ (jT X pn E) r:=⟨k.hN,k.hs,k.nd,k.fn,k.kind,k.free,k.fns,k.cst,k.pH,k.room,k.calm,k.hu,k.mU,k.zj,λn c z=>(by rw[a]at z;cases z),k.xk⟩
section
variable {P:cj}{w:World}{A:fz}{E:Value->bc->Prop}{h:Heap}{g:Array qf}{d:Drawn}{t:Nat}{os:ke}
variable {nm q:Str}{C N:Addr}{bs bm bB:List Value}{hdct:Bool}{sn:List Str}{sub:List Value}{ab:Bool}{col:Option Bool}{dd:Option Addr}{k0 k1 k2 k3 k5:Option Value}{B newId initId:String}{mN:Str->Option Value}{us:List Value}{f:Addr}{o:Obj}
theorem zrd (F:ExcBaseFacts B newId initId bB)(T:oq h bB bm)(a:h.get? C=some (lx nm q C N bs bm hdct sn sub ab col dd k0 k1 k2 k3 k5 newId))(hN:h.Ns N mN)(v:mN "__init__"=some (.ref f))(hf:h.get? f=some o)(x:o.cls=.type "function")
  (go:∀n e,h.objs.size<=e->li h n e (.ref C) us->wpAny (model P w) A (call (.ref f) (.ref e::us)) (λr p=>r=.none/\Q (.done (.ret (.ref e))) p) E ⟨n,g,d,t,os⟩) (y:us.length<=ay):
  wpAny (model P w) A (Builtin.«type.__call__» ⟨.ref C::us,[]⟩) Q E ⟨h,g,d,t,os⟩:=by
 repeat (first|(with_reducible refine wpAny_madeBy_exc a ?_)|(with_reducible refine b7 a ?_)|wp_step)
 refine codeAny_call_builtin_code (Code.quiet_builtin _ F.quiet) (wpAny_check_new_subT F T a (codeAny_exc_new_subT F T a ?_ y));generalize s:({cls:=.type "tuple",data:=.seq us.toArray}:Obj)=i;generalize l:({cls:=.ref C,data:=.fields #[.ref h.objs.size,.none,.none,.none,.bool false,.none]}:Obj)=c;have keep:∀b u,h.get? b=some u->((h.push i).push c).get? b=some u:=λb u z=>ak _ (ak _ z);have j:((h.push i).push c).get? (h.objs.size+1)=some c:=ly (by rw[lb]) (by rw[<-l];rfl);have m:((h.push i).push c).get? h.objs.size=some i:=ak _ (ly rfl (by rw[<-s];rfl));have k:c.cls=.ref C:=by rw[<-l]
 have self:(Value.ref C::bm).contains (.ref C)=true:=by simp
 repeat (first|(with_reducible refine b7 j ?_;rw[k])|(with_reducible refine g0 (keep _ _ a) ?_;rw[self])|wp_step)
 refine wpAny_typeLookup_tail (keep _ _ a) (hN.keeps keep) (T.keeps keep) F.mroIs F.init.lookup ?_;rw[v];apply fj;apply ac;refine ac (k8 ⟨o,keep _ _ hf,x⟩ ?_);have made:li h ((h.push i).push c) (h.objs.size+1) (.ref C) us:=⟨keep,gu (kg _),h.objs.size,by rw[j,<-l],gu (ah _),by rw[m,<-s]⟩;refine bb (ac (ek (go _ _ (kg _) made) (λr p z=>?_) λ_ _ z=>z));obtain⟨rfl,z⟩:=z
 wp_walk
 exact z
theorem ztk (F:ExcBaseFacts B newId initId bB)(T:oq h bB bm)(a:h.get? C=some (lx nm q C N bs bm hdct sn sub ab col dd k0 k1 k2 k3 k5 newId))(hN:h.Ns N mN)(c:mN "__init__"=some (.ref f))(hf:h.get? f=some o)(i:o.cls=.type "function")
  (go:∀b e,h.objs.size<=e->li h b e (.ref C) us->wpAny (model P w) (A.under (.builtin "type.__call__" ⟨.ref C::us,[]⟩)) (call (.ref f) (.ref e::us)) (λr j=>r=.none/\Q (.ref e) j) E ⟨b,g,d,t,os⟩) (k:us.length<=ay):
  wpAny (model P w) A (call (.ref C) us) Q E ⟨h,g,d,t,os⟩:=by
 have l1:=tc_lookup;have l2:=tc_bind (.ref C);apply pp;apply codeAny_of_tree
 repeat (any_goals (first|(with_reducible refine b7 a ?_)|assumption|wp_step))
 exact⟨rfl,codeAny_call_builtin_at (Code.quiet_builtin _ (by decide+kernel)) entry_typeCall (wpAny_check_type_call_sub a (zrd F T a hN c hf i go k))⟩
end
section
open Builtin
open Builtin.ObjectAttr
structure XF (K:W.Frag)(C:Addr)(f:Str):Prop where
 ex:fU K C=true
 hd:∀dd cd sl,K.lookup C=some ⟨.type "type",dd,.cls cd,sl⟩->cd.hasDict=true
 sa:W.findIn K (.ref C) "__setattr__"=some (some (.builtin "object.__setattr__"))
 nf:W.findIn K (.ref C) f=some none
 ga:W.findIn K (.ref C) "__getattribute__"=some (some (.builtin "BaseException.__getattribute__"))
 gt:W.findIn K (.ref C) "__getattr__"=some none
 ob:W.subIn K (.ref C) (.type "object")=some true
 be:W.subIn K (.ref C) (.type "BaseException")=some true
theorem Je:∀{l:List Value},oq h rL l->refuseLoop self what rL=pure ()->refuseLoop self what l=pure ()
 |_,.base,e=>e
 |_,.own _ _ _ T,e=>by rw[refuseLoop_ref];exact Je T e
section
variable {prog:cj}{w:World}{A:fz}{E:Value->bc->Prop}{K:W.Frag}{h:Heap}{g:Array qf}{d:Drawn}{t:Nat}{os:ke}{C a:Addr}{ob:Obj}{vs:Array Value}{f:Str}{u:Value}
def Jf (h:Heap)(a:Addr)(ob:Obj)(f:Str)(u:Value)(h':Heap):Prop:=∃dp,h.get? dp=none/\dp≠a/\h.objs.size<=dp/\h'.get? a=some {ob with dict:=some dp}/\h'.Ns1 dp (λy=>if y=f then some u else none)/\∀b o,b≠a->h.get? b=some o->h'.get? b=some o
theorem zg0 (X:K.In h)(x:XF K C f)(k:h.get? a=some ob)(G:ob.cls=.ref C)(hd:ob.dict=none)(da:ob.data=.fields vs)
  (go:∀l p,Jf h a ob f u l->Q (.done (.ret .none)) ⟨l,g,d,p,os⟩):
  wpAny (model prog w) A (Builtin.«object.__setattr__» ⟨[.ref a,.str f vv9,u],[]⟩) Q E ⟨h,g,d,t,os⟩:=by
 obtain⟨Y,⟨N,nm,q,bs,j,Z,sub,ab,H,dd,k0,k1,k2,k3,k5,mN,y,hN,T⟩,_⟩:=XC.mk X x.ex;have I:j=true:=by obtain⟨J,cd,L,y0,y1,y2,y3,y5,B,_⟩:=uJ x.ex;have O:=x.hd _ _ _ B;have D:=X _ _ B;rw[y]at D;cases D;exact O
 have c:=Je (self:=.ref a) (what:="__setattr__") T (by kernel_rfl);have P:=W.looks_findIn (M:=model prog w) X x.nf
 repeat (first|rw[refuse_eq]|(rw[refuseLoop_ref,c])|(with_reducible refine b7 k ?_;rw[G])|with_reducible refine wpAny_mroOf_exc y ?_|with_reducible refine P.at ?_|wp_step)
 rw[hd,rq (by simp[typeHasDict]),da];have g1:(h.push {cls:=.type "dict",data:=.dict #[]}).get? a=some ob:=ak _ k;have na:=cc (bg k);refine ac (wpAny_alloc' (ac (wpAny_update' g1 (bb ?_))));generalize hh:((h.push {cls:=.type "dict",data:=.dict #[]}).update a λo=>{cls:=o.cls,dict:=some h.objs.size,data:=o.data,slots:=o.slots})=m;have gd:m.get? h.objs.size=some {cls:=.type "dict",data:=.dict #[]}:=by rw[<-hh];exact(jc _ _ _ _ (Ne.symm na)).trans (ly rfl rfl)
 have ga:m.get? a=some {ob with dict:=some h.objs.size}:=by rw[<-hh];refine gj _ g1 ?_;have fr:=(Heap.get?_some_iff.mp k).2;obtain⟨oc,od,r,R⟩:=ob;cases r<;>first|rfl|exact fr
 have keep:∀b o,b≠a->h.get? b=some o->m.get? b=some o:=λb o n e=>by rw[<-hh];exact(jc _ _ _ _ n).trans (ak _ e)
 have nd:m.Ns h.objs.size (λ_=>none):=⟨_,#[],_,gd,rfl,λe z=>absurd z (by simp),λ_=>rfl⟩
 delta storeInDict newKeyGuard
 refine ac (bb (ac (wpAny_nsSet1 (pw nd) λl n1 F=>?_)));obtain⟨oD,S,U,s,gZ,v⟩:=n1.count (Within.cons f u Within.nil);have i:[f].length<=ay+1:=by rw[ci];exact(by decide:1<=16777216+1)
 have Gf:=bq v i;refine ac (wpAny_lookBehind s (gZ▸pastItsLine_dict Gf) ?_)
 wp_walk
 refine go l _ ⟨h.objs.size,gu (ah _),Ne.symm na,ah _,(F.2 a na).trans ga,n1,λb o n e=>(F.2 b (cc (bg e))).trans (keep b o n e)⟩
theorem zgg {M:Model}{b:Value}{Q:Unit->bc->Prop}(X:K.In h)(x:XF K C f)(c:h.get? a=some ob)(e:ob.cls=.ref C)(i:Q () ⟨h,g,d,t,os⟩):
  wpAny M A (j9 "object.__setattr__" ⟨[.ref a,b,u],[]⟩) Q E ⟨h,g,d,t,os⟩:=by
 have j:qq "object.__setattr__"=some .slot:=by decide+kernel
 have k:splitId "object.__setattr__"=some ("object","__setattr__"):=by decide+kernel
 have l:=W.looks_subIn (M:=M) X x.ob;have m:=PySem.F.args_object_setattr_3 (.ref a) b u;simp only[j9,j,k];refine ac ?_;unfold nc
 repeat (first|(with_reducible refine b7 c ?_;rw[e])|with_reducible refine l.at ?_|wp_step)
 exact i
theorem zrk (X:K.In h)(x:XF K C f)(e:h.get? a=some ob)(i:ob.cls=.ref C)(hd:ob.dict=none)(j:ob.data=.fields vs)
  (go:∀c b,Jf h a ob f u c->Q () ⟨c,g,d,b,os⟩):wpAny (model prog w) A (setAttr (.ref a) f u) Q E ⟨h,g,d,t,os⟩:=by
 have k:=W.looks_findIn (M:=model prog w) X x.sa;have f3:=PySem.F.slot_list_setattr.bind (.ref a)
 repeat (any_goals (first|assumption|(with_reducible refine b7 e ?_;rw[i])|with_reducible refine k.at ?_|wp_step))
 refine i7 PySem.F.slot_list_setattr.plain PySem.F.entry_object_setattr (zgg X x e i (zg0 X x e i hd j λc b p=>?_))
 repeat (any_goals (first|assumption|wp_step))
 exact go c b p
theorem zmm (X:K.In h)(x:XF K C f)(c:h.get? a=some ob)(e:ob.cls=.ref C)(da:ob.data=.fields vs)(hd:ob.dict=some dp)(hn:h.Ns dp l)(m:l f=some u)
  (n:Q (.done (.ret u)) ⟨h,g,d,t,os⟩):wpAny (model prog w) A (Builtin.«object.__getattribute__» ⟨[.ref a,.str f z],[]⟩) Q E ⟨h,g,d,t,os⟩:=by
 obtain⟨B,⟨N,nm,q,bs,b,D,sub,F,o,G,H,I,J,L,O,P,i,hN,T⟩,_⟩:=XC.mk X x.ex;have p:b=true:=by obtain⟨r,cd,s,R,S,U,V,Y,j,_⟩:=uJ x.ex;have v:=x.hd _ _ _ j;have k:=X _ _ j;rw[i]at k;cases k;exact v
 have y:=W.looks_findIn (M:=model prog w) X x.nf
 repeat (first|(with_reducible refine b7 c ?_;rw[e])|with_reducible refine y.at ?_|wp_step)
 rw[da]
 repeat (first|(with_reducible refine b7 c ?_;rw[e])|with_reducible refine b7 i ?_|wp_step)
 rw[hd]
 repeat (first|(with_reducible refine wpAny_nsGet hn ?_;rw[m])|wp_step)
 exact n
theorem zm2 {b:Tok}{dp:Addr}{c:Str->Option Value}{R:Result->bc->Prop}(X:K.In h)(x:XF K C f)(e:h.get? a=some ob)(i:ob.cls=.ref C)(j:ob.data=.fields vs)(hd:ob.dict=some dp)(hn:h.Ns dp c)(k:c f=some u)
  (l:R (.ok (.ret u)) ⟨h,g,d,t,os⟩):i9 (model prog w) A (.call (.builtin "BaseException.__getattribute__") ⟨[.ref a,.str f b],[]⟩) R ⟨h,g,d,t,os⟩:=by
 refine i7 F.excAttr_ValueError.ga.plain F.entry_bexc_ga ?_;have l1:=W.looks_subIn (M:=model prog w) X x.be;have o:=F.args_bexc_ga (.ref a) (.str f b);have m:qq "BaseException.__getattribute__"=some .slot:=by decide+kernel
 have n:splitId "BaseException.__getattribute__"=some ("BaseException","__getattribute__"):=by decide+kernel
 simp only[j9,m,n];refine ac ?_;unfold nc
 repeat (first|(with_reducible refine zmm X x e i j hd hn k ?_;exact l)|(with_reducible refine b7 e ?_;rw[i])|with_reducible refine l1.at ?_|wp_step)
theorem zu8 (X:K.In h)(x:XF K C f)(b:h.get? a=some ob)(c:ob.cls=.ref C)(e:ob.data=.fields vs)(hd:ob.dict=some dp)(hn:h.Ns dp m)(i:m f=some u)(hh:handedOut u=pure u)
  (j:Q u ⟨h,g,d,t,os⟩):wpAny (model prog w) A (getAttrBy (.ref a) (.str f k) true ex) Q E ⟨h,g,d,t,os⟩:=by
 have f3:=F.excAttr_ValueError.ga.bind (.ref a);have l:(ex&&onTheHeap (Value.builtin "BaseException.__getattribute__"))=false:=by cases ex<;>rfl
 repeat (any_goals (first|assumption|(with_reducible refine b7 b ?_;rw[c])|with_reducible refine(W.looks_findIn (M:=model prog w) X x.ga).at ?_|with_reducible refine(W.looks_findIn (M:=model prog w) X x.gt).at ?_|wp_step))
 refine zm2 X x b c e hd hn i ?_
 repeat' first|assumption|wp_step
theorem zrh (X:K.In h)(x:XF K C f)(b:h.get? a=some ob)(c:ob.cls=.ref C)(e:ob.data=.fields vs)(hd:ob.dict=some dp)(hn:h.Ns dp k)(i:k f=some u)(hh:handedOut u=pure u)
  (j:Q u ⟨h,g,d,t+1,os⟩):wpAny (model prog w) A (ri (.ref a) f ex) Q E ⟨h,g,d,t,os⟩:=by
 repeat (any_goals (first|assumption|with_reducible apply zu8 X x b c e hd hn i hh|wp_step))
end
end
def exO (a:Addr)(ob:Obj):HO:=.ext λh=>h.get? a=some ob
def xv:HO->Prop
 |.ext _=>True
 |.xd _=>True
 |_=>False
def iM (H:Hp)(a:Addr):Hp:=λb=>if b=a then none else H b
theorem zK:iM H a a=none:=by unfold iM;rw[rj rfl]
theorem rR (h:b≠a):iM H a b=H b:=by unfold iM;rw[rq h]
theorem Jg (I:Inv X b c H s)(h:H a=some (exO a ob)):s.heap.get? a=some ob:=(I.hok a _ h).1
theorem Jh (e:h.get? a=some ob):z16 P w H h a (exO a ob):=⟨e,⟨_,e⟩,λb c p k=>k _ p⟩
theorem Inv.iM (I:Inv X pins v H s)(g:H a=some o)(h:xv o):Inv X pins v (iM H a) s:=by
 have ne:∀{b u},H b=some u->(xv u->False)->b≠a:=λ{b u} e n z=>by subst z;rw[g]at e;cases e;exact n h
 have d:∀{b},H b=none->Mi.iM H a b=none:=λ{b} e=>by
  unfold Mi.iM;split
  ·rfl
  ·exact e
 refine⟨I.ok,I.os,I.bare,⟨I.base.keep,I.base.slot,λb o e n i=>d (I.base.free b o e n i),I.base.there,λb f e=>?_,λb o u e=>?_,λb ps e=>?_⟩,I.loc,I.cell,d I.free,λx c e=>d (I.bA x c e),λp j=>?_,λb o e=>?_,I.len,I.fx⟩
 ·have e:=I.base.cK b f e;rw[rR (ne e id)];exact e
 ·have e:=I.base.cE b o u e;rw[rR (ne e id)];exact e
 ·obtain⟨m,e⟩:=I.base.cL b ps e;exact⟨m,by rw[rR (ne e id)];exact e⟩
 ·obtain⟨k,l,r⟩:=I.pin p j;exact⟨k,d l,r⟩
 ·have t:b≠a:=by rintro rfl;rw[zK]at e;cases e
  rw[rR t]at e;refine(I.hok b o e).stay (λ_ _ _ q=>q) (λc q=>?_) λc f q=>?_
  ·rw[rR (ne q id)];exact q
  ·rw[rR (ne q id)];exact q
theorem zky (I:Inv X pins σ H s)(p:H a=some (exO a ob))(r:RelV y u)(h0:s.heap.get? dp=none)(t:s.heap.objs.size<=dp)(na:dp≠a)(ga:j.get? a=some {ob with dict:=some dp})(ns:j.Ns1 dp (fun g=>if g=f then some u else none))(k:∀b o,b≠a->s.heap.get? b=some o->j.get? b=some o):
  H dp=none/\Inv X pins σ (upd (upd H dp (.xd [(f,y)])) a (exO a {ob with dict:=some dp})) {s with heap:=j,toks:=tk}:=by
 have h:=I.hok.fresh t;have ne:∀{b u},H b=some u->(u=exO a ob->False)->b≠a:=λ{b u} e n z=>by subst z;rw[p]at e;cases e;exact n rfl
 have nd:∀{b u},H b=some u->b≠dp:=λ{b u} e z=>by subst z;rw[h]at e;cases e
 have up:∀{b u},H b=some u->(u=exO a ob->False)->upd (upd H dp (.xd [(f,y)])) a (exO a {ob with dict:=some dp}) b=some u:=λ{b u} e n=>by rw[aE (ne e n),aE (nd e)];exact e
 have i:∀{b o},s.heap.get? b=some o->H b=none->b≠a/\b≠dp:=λ{b o} e n=>⟨(by rintro rfl;rw[p]at n;cases n),(by rintro rfl;rw[h0]at e;cases e)⟩;refine⟨h,I.un ⟨λb o e n _ _=>k b o (i e n).1 e,λb o e n _ _=>⟨o.slots,k b o (i e n).1 e⟩,λb o e n _=>?_,λb o e _=>?_,λb w e=>up e nofun,λb o u e=>up e nofun,λb ps e=>⟨#[],by rw[Array.append_empty];exact up e nofun⟩⟩ λb o e=>?_⟩
 ·rw[aE (i e n).1,aE (i e n).2];exact n
 ·by_cases d:b=a
  ·subst d;exact⟨_,ga⟩
  ·exact⟨o,k b o d e⟩
 ·by_cases d:b=a
  ·subst d;rw[bF]at e;cases e;exact Jh ga
  ·rw[aE d]at e;by_cases hd:b=dp
   ·subst hd;rw[bF]at e;cases e;refine⟨_,ns,λg=>?_⟩;by_cases l:g=f
    ·subst l;simp;exact r
    ·have :(g==f)=false:=by simpa using l
     simp only[cu,this,List.lookup_nil,rq l];exact True.intro
   ·rw[aE hd]at e;refine(I.hok b o e).stay (λc v m q=>k c v ?_ q) (λc q=>up q nofun) λc w q=>up q nofun;rcases m with rfl|m
    ·exact d
    ·exact ne m nofun
def DW (K:W.Frag)(ta tv:TE)(f:Str):TS:=λD σ H=>tv σ H λy H1=>ta σ H1 λx H2=>∃a C ob vs,x=.ref a/\H2 a=some (exO a ob)/\ob.cls=.ref C/\ob.dict=none/\ob.data=.fields vs/\XF K C f/\∀dp,H2 dp=none->dp≠a->D.nx σ (upd (upd H2 dp (.xd [(f,y)])) a (exO a {ob with dict:=some dp}))
theorem R9 (i:PE X o P)(j:PE X value tv)(hs:i8 value (some (.Attribute o f b)) N.line X.env=pure false):PS X (.Assign [.Attribute o f b] value N) (DW X.K P tv f):=by
 intro M s O H D I h;refine j6 (aI (j M s O H _ I h) λu s1 ⟨y,Q,l,m,q⟩=>aI (i M s1 O Q _ l q) ?_) hs
 rintro n p ⟨x,G,c,r,a,C,ob,R,ex,e,v,hd,w,xf,z⟩
 subst ex;obtain rfl:n=Value.ref a:=r;obtain⟨J,g,d,t,os⟩:=p;refine zrk c.cM xf (Jg c e) v hd w ?_
 rintro L A ⟨dp,h0,na,B,ga,ns,k⟩
 obtain⟨E,F⟩:=zky c e m h0 B na ga ns k;exact⟨O,_,F,z dp E na⟩
def tZ (K:W.Frag)(f:Str):Sp:=λvs H Q _=>∃a C ob ws y,vs=[.ref a,y]/\H a=some (exO a ob)/\ob.cls=.ref C/\ob.dict=none/\ob.data=.fields ws/\XF K C f/\∀dp,H dp=none->dp≠a->Q .aK (upd (upd H dp (.xd [(f,y)])) a (exO a {ob with dict:=some dp}))
structure XI (K:W.Frag)(C f:Addr):Prop where
 R':∀dd cd sl,K.lookup C=some ⟨.type "type",dd,.cls cd,sl⟩->W.nsIn K cd.ns "__init__"=some (some (.ref f))
 fn:W.isFn K (.ref f)=true
theorem Sa {K:W.Frag}(X:K.In h)(G:h.Ns N m)(e:W.nsIn K N n=some (some v)):m n=some v:=by
 obtain⟨o,d,c,a,hd,_,hf⟩:=G;unfold W.nsIn at e;split at e
 ·rename_i q;have z:=X _ _ q;rw[a]at z;cases z;cases hd;split at e
  ·rename_i b;cases e;rw[<-hf];unfold nsFind findBy;rw[<-pj,b];rfl
  ·split at e<;>cases e
 ·cases e
theorem XI.at {K:W.Frag}{C:Addr}(X:K.In h)(q:fU K C=true)(x:XI K C f):∃bm N nm c bs hdct sn sub ab col dd k0 k1 k2 k3 k5 mN o,h.get? C=some (lx nm c C N bs bm hdct sn sub ab col dd k0 k1 k2 k3 k5 "ValueError.__new__")/\h.Ns N mN/\mN "__init__"=some (.ref f)/\oq h rL bm/\h.get? f=some o/\o.cls=.type "function":=by
 obtain⟨dd,cd,bm,k0,k1,k2,k3,k5,a,hm,hd,d,hk⟩:=uJ q;have hN:h.Ns cd.ns (h.nsMap cd.ns):=.of_isNs (W.isNs_of_in X hk);have e:=sj x.fn;obtain⟨o,g,i⟩:=bn.mp e;refine⟨bm,cd.ns,cd.name,cd.qualname,cd.bases,cd.hasDict,cd.slotNames,cd.subclasses,cd.abstract,cd.collection,dd,k0,k1,k2,k3,k5,h.nsMap cd.ns,o,?_,hN,Sa X hN (x.R' _ _ _ a),W.tail_of_in X d,X _ _ g,i⟩;have b:=X _ _ a;cases cd
 dsimp only at hm hd
 rw[hm,hd]at b;exact b
def xw (X:Cx)(E:XK):Prop:=∀pins σ H s a C ob vs,Inv X pins σ H s->H a=none->(∃H1 s1,Inv X pins σ H1 s1/\s1.heap.get? a=none)->s.heap.get? a=some ob->ob.cls=.ref C->ob.data=.fields vs->vs[1]?=some .none->E (.ref C) ob.dict H->X.xe (.ref a) s
theorem zgv {C:Addr}(hh:A.handled=none)
  (h:wpAny M A x (λv a=>∃e ob t f,v=.ref e/\XC C a.heap f/\a.heap.get? e=some ob/\ob.cls=.ref C/\ob.data=.fields #[.ref t,.none,.none,.none,.bool false,.none]/\E (.ref e) a) E s):wpAny M A (raiseStmt env (some x) none) Q E s:=by
 refine ac (ek h (λv a l=>?_) λ_ _ x=>x);obtain⟨e,ob,t,f,rfl,⟨N,nm,q,bs,i,o,sub,p,m,r,u,w,y,z,B,D,c,hN,T⟩,j,k,da,n⟩:=l;have b:(Value.ref C::f).contains (.type "BaseException")=true:=by rw[jn,HP T,m9]
 obtain⟨F,g,d,G,os⟩:=a
 repeat (first|(with_reducible refine b7 j ?_;first|rw[k]|rw[da])|with_reducible refine b7 c ?_|(with_reducible refine g0 c ?_;rw[b])|wp_step)
 rw[da]
 repeat (first|(with_reducible refine b7 j ?_;first|rw[k]|rw[da])|with_reducible refine b7 c ?_|(with_reducible refine g0 c ?_;rw[b])|wp_step)
 exact oz hh n
theorem zek {C:Addr}(W:Room (k+1) X.A)(hg:Gl X x)(hm:X.mg x=some (.ref C))(L:Wl x)(xf:XF X.K C fl)(xi:XI X.K C f)
  (F:FnOk X.prog X.w X.K X.mg X.base (CXE X.prog X.w X.base) k f fd ps (tZ X.K fl)) (j:Binds X.K fd ps []) (he:PE X e te) (i:isStar e=false) (rs:xw X E):
  PS X (.Raise (some (.Call (.Name x np) [e] [] cp)) none pos) (λ_ σ H=>te σ H λy Y=>∀dp,Y dp=none->E (.ref C) (some dp) (upd Y dp (.xd [(fl,y)]))):=by
 intro Z s σ H D I hq;have M:(i5 cp (c8 [e] X.env)).any (·.1)=false:=by rw[fE i];rfl
 have hA:=eV he kX i;refine ac (iw (zgv (C:=C) W.hd (ac (ek (wpAny_Call_ofName (z4w I hg hm ?_ L)) (λv s3 h3=>ac (iw (bb h3))) λ_ _ z=>z))));have m:=hA cp Z s σ H (λvs Y=>match vs with| [y]=>∀dp,Y dp=none->E (.ref C) (some dp) (upd Y dp (.xd [(fl,y)]))|_=>False) I hq;have O:c8 [e] X.env=(false,eval e X.env)::c8 [] X.env:=fE i;rw[O]at m M ⊢;refine ac (fj (kj (aI m λus s1 zz=>ac (iw ?_))));obtain⟨vs,Y,G,r,P⟩:=zz
 obtain⟨y,rfl⟩:∃y,vs=[y]:=by
  rcases vs with _|⟨y,_|⟨z,l⟩⟩
  ·exact P.elim
  ·exact⟨y,rfl⟩
  ·exact P.elim
 cases r with
 |cons ry rn=>
  cases rn;rename_i u;obtain⟨hp,g,d,t,os⟩:=s1;obtain⟨bm,N,nm,qn,bs,hdct,sn,sub,ab,col,dd,k0,k1,k2,k3,k5,mN,o,oC,hN,hi,T,hf,hc⟩:=xi.at G.cM xf.ex;refine ac (wpAny_keeperOf_exc oC ?_);refine ac (ztk PySem.F.excBase_ValueError T oC hN hi hf hc (λh' a hz made=>?_) (show 1<=ay by rw[ci];decide));obtain⟨tp,ga,_,_⟩:=made.there;generalize c:({cls:=.ref C,data:=.fields #[.ref tp,.none,.none,.none,.bool false,.none]}:Obj)=ob at ga;have Q:=G.laid (t':=t) made.keeps hz (Jh ga);have n:=G.hok.fresh hz
  let Q2:VK:=λv H3=>v=.aK/\∃dp,Y dp=none/\dp≠a/\H3=upd (upd (upd Y a (exO a ob)) dp (.xd [(fl,y)])) a (exO a {ob with dict:=some dp})
  have p:tZ X.K fl [.ref a,y] (upd Y a (exO a ob)) Q2 (λ_ _ _=>False):=⟨a,C,ob,#[.ref tp,.none,.none,.none,.bool false,.none],y,rfl,bF,by rw[<-c],by rw[<-c],by rw[<-c],xf,λdp J q=>⟨rfl,dp,by rw[aE q]at J;exact J,q,rfl⟩⟩;have r2:Vals [V.ref a,y] [Value.ref a,u]:=.cons rfl (.cons ry .nil);have hl:[Value.ref a,u].length=ps.length:=r2.length▸F.len _ _ _ _ p;have R:=j ⟨h',g,d,t,os⟩ [Value.ref a,u] Q.cM (by rw[dm];exact hl);refine pp (ja (F.run _ X.stack _ _ ⟨[Value.ref a,u],[]⟩ [Value.ref a,u] [V.ref a,y] Q2 (λ_ _ _=>False) (W.make C [u] []) (Q.sN.make C [u] []) R r2 p) λrr s' h=>?_);cases rr with
  |error e'=>obtain⟨_,_,_,_,_,_,z⟩:=h;exact z.elim
  |ok S=>
   cases S with
   |next=>exact h.elim
   |brk=>exact h.elim
   |cont=>exact h.elim
   |ret w=>
    obtain⟨v,H3,U,rv,rfl,dp,J,q,rfl⟩:=Q.after h;refine⟨rv,ac (fj (wpAny_point (bb ?_)))⟩;have B:=Jg U bF;have I4:=Mi.Inv.iM U bF True.intro
    have eH:Mi.iM (upd (upd (upd Y a (exO a ob)) dp (.xd [(fl,y)])) a (exO a {ob with dict:=some dp})) a=upd Y dp (.xd [(fl,y)]):=by
     funext b
     by_cases j:b=a
     ·subst j;rw[zK,aE (Ne.symm q),n]
     ·rw[rR j,aE j];by_cases hd:b=dp
      ·subst hd;rw[bF,bF]
      ·rw[aE hd,aE hd,aE j]
    rw[eH]at I4;obtain⟨zh,xc,_⟩:=XC.mk U.cM xf.ex;refine⟨a,_,tp,zh,rfl,xc,B,by rw[<-c],by rw[<-c],rs Z σ _ s' a C _ _ I4 ?_ ⟨Y,_,G,made.new⟩ B (by rw[<-c]) (by rw[<-c]) rfl (P dp J)⟩;rw[aE (Ne.symm q)];exact n
theorem zr2 {C:Addr}(j:X.fx=some (n,.ref a))(k:X.env.scope.names.lookup n=some .local)(hd:Wl n)(c:z0r (.Name n p)=true)(l:Xh X a oe)(m:oe.cls=.ref C)(o:oe.data=.fields ws)(e:oe.dict=some dp)(r:Xh X dp od)(hm:∀h:Heap,h.get? dp=some od->h.Ns dp E)(x:E f=some u)(i:RelV v u)(xf:XF X.K C f):
  PE X (.Attribute (.Name n p) f q) (λ_ H Q=>Q v H):=by
 intro B s F H Q I h;refine zeg (nW c) (aI (HW j k hd B s F H (λw D=>w=.ref a/\D=H) I ⟨rfl,rfl⟩) λw s1 y=>?_);obtain⟨A,D,b,z,rfl,rfl⟩:=y;obtain rfl:w=Value.ref a:=z;obtain⟨hh,g,d,t,os⟩:=s1;exact zrh b.cM xf (l _ _ _ _ b) m o e (hm _ (r _ _ _ _ b)) x (W.handedOut_of (FJ i)) ⟨v,D,b.tok (t+1),i,h⟩
theorem zl6 {C D:Addr}(I:Inv X Z σ H1 s1)(H:Fly X.prog X.w X.base X.stack H1 s1 C a H' s' (some dp))(hy:H' dp=some (.xd [(fl,y)]))(hs:X.stack=X.env::X.outer)(hf:X.env.frame=some X.env.locals)(hx:X.fx=none)(nd:X.N.Nodup)(hi:X.N[i]?=some n)(hv:X.env.scope.names.lookup ("":Str)=none)(hl:X.env.scope.names.lookup n=some .local)
  (hB:X.mg B=some (.ref D)) (xC:fU X.K C=true) (xD:fU X.K D=true) (sb:W.subIn X.K (.ref C) (.ref D)=some true) (L:Gl X B) (M:Wl B)
  (O:∀od mA u oe ws,(∀h:Heap,h.get? dp=some od->h.Ns dp mA)->mA fl=some u->RelV y u->oe.cls=.ref C->oe.dict=some dp->oe.data=.fields ws->PSs (iZ (jT X ((dp,od)::X.pn) X.xe) i n a oe) (b0::hX) T) (q:T ⟨λP Q=>Dn.nx (P.set i none) Q,Dn.rt,λ_ _=>False,λ_ _=>False⟩ (ax σ.length none) (iM H' dp)):
  wpAny (model X.prog X.w) X.A (iy (.ref a) X.env) (λ_ t=>wpAny (model X.prog X.w) X.A (jv (.ref a) none) (λ_ s3=>wpAny (model X.prog X.w) X.A (on (.ref a) X.env [.ExceptHandler (some (.Name B np)) (some n) (b0::hX) m]) (SP X Z Dn) X.xe s3) X.xe t) X.xe s':=by
 obtain⟨B0,R,x,S,w0⟩:=H.hh;have k:=w0;rw[hs]at k;obtain⟨mA,E,U⟩:=x dp _ hy;obtain⟨od,es,ep,l,⟨F,Y⟩⟩:=id E;have rf:=U fl;simp at rf;obtain⟨u,hu,ru⟩:=cA.some_of rf;have Se:=λh e=>(E.at (h':=h) λo z=>by rw[l]at z;cases z;exact e).ns
 have e0:(ax σ.length (none:Option V)).set i none=ax σ.length none:=by
  apply gw;intro j;rw[dg];split
  ·rename_i h;subst h;split<;>simp_all
  ·rfl
 have back:∀{p2:List (Addr×Obj)} {c:L2.St} {g:Hp} {t:bc},Inv (jT X ((dp,od)::X.pn) X.xe) Z c g t->Inv X Z c g t:=λ{p2 c g t} J=>⟨I.ok,J.os,J.bare,J.base,J.loc,J.cell,J.free,J.bA,λp m=>J.pin p (by exact ba _ m),J.hok,J.len,J.fx⟩;refine zfl (pins:=Z) (X:=jT X ((dp,od)::X.pn) X.xe) (λh6 w6 up=>?_) k ?_ hs hf hx nd hi hv hl hB (λA=>wQ (X:=jT X ((dp,od)::X.pn) X.xe) xC xD sb A) L M (λf s h=>?_) (λoe ws h1 h2 h3=>O od mA u oe ws Se hu ru h1 h2 h3) (e0▸q)
 ·have J:=Fly.land I H R x S (hs▸w6) up;have J2:=Mi.Inv.iM J hy True.intro;have d:Inv X Z (ax σ.length none) (iM H' dp) {s' with heap:=h6}:=J2.weak (by rw[bw]) λj v e=>by rw[cr]at e;split at e<;>cases e
  have Sf:=w6.1 _ _ l;refine⟨Jc d.ok,d.os,d.bare,d.base,d.loc,d.cell,d.free,d.bA,λp m=>?_,d.hok,d.len,d.fx⟩;rcases az.mp m with rfl|m
  ·have G:∀b∈(X.env::X.outer).filterMap (·.frame),dp≠b:=fun b hb z=>by
    have:=(k.2.2.1.mem hb).1;rw[<-z,l]at this;cases this
   refine⟨Sf,zK,G _ ?_,λz=>G dp ?_ rfl,λv z=>?_⟩
   ·rw[du,hf];exact bh
   ·rw[du,hf];exact ba _ z
   ·have z:od.data=.cell v:=z;rw[F]at z;cases z
  ·exact d.pin p m
 ·have :=HV H;by_cases e:a=dp
  ·rw[e];exact zK
  ·rw[rR e];exact this
 ·cases f with
  |next=>obtain⟨c,g,J,z⟩:=h;exact⟨c,g,back (p2:=Z) J,z⟩
  |brk=>obtain⟨c,g,J,z⟩:=h;exact⟨c,g,back (p2:=Z) J,z⟩
  |cont=>obtain⟨c,g,J,z⟩:=h;exact⟨c,g,back (p2:=Z) J,z⟩
  |ret u=>obtain⟨v,c,g,J,r,z⟩:=h;exact⟨v,c,g,back (p2:=Z) J,r,z⟩
inductive WS where
 |nil|seq (a b:WS)|asg (i:Nat) (e:W)|fld (o:W) (f:Str) (e:W)|put (o k v:W)|exp (e:W)|app (o v:W)|xx (o:W)|ret (e:W)|bU (c:W) (a b:WS)|uU (c:W) (b:WS)|bJ (t:Tg) (it:C) (b:WS)|kA (c:Str)|zL (o:W) (f:Str) (e:W)|xy (c fl:Str) (e:W)|kM (t:Tg) (it:W) (b:WS)|t7 (b hs:WS) (i n:Nat)|hn (c:Str) (f:Option Str) (h rest:WS)|eX (i:Nat) (it:W) (b:WS)
 deriving Inhabited
def rz:WS->Bool
 |.seq a b=>rz a||rz b
 |.kA _=>true
 |.xy _ _ _=>true
 |.bU _ a b=>rz a||rz b
 |.uU _ _=>true
 |.bJ _ _ _=>true
 |.kM _ _ _=>true
 |.eX _ _ _=>true
 |_=>false
mutual
def wS:Wc->WS->TS
 |_,.nil=>Fp
 |Z,.seq a b=>vB (wS Z a) (wS Z b)
 |Z,.asg i e=>oH (wE Z e) (uq i)
 |Z,.fld o f e=>sM Z.K (wE Z o) (wE Z e) f
 |Z,.put o k v=>wH (wE Z o) (wE Z k) (wE Z v)
 |Z,.exp e=>sF (wE Z e)
 |Z,.app o v=>sF (A9 Z.K "list" yI (wE Z o) (qP (wE Z v) gI))
 |Z,.xx o=>sF (lR Z.K "list" yJ (wE Z o))
 |Z,.ret e=>vC (wE Z e)
 |Z,.bU c a b=>vD (wT Z c) (wS Z a) (wS Z b)
 |Z,.uU c b=>Fv (wT Z c) (wS Z b)
 |Z,.bJ t it b=>iP (tDW Z.K (evW Z.Κ Z.Φ it)) (tDG Z.K t) (wS Z b)
 |Z,.kA c=>λ_ _ H=>∀C,Z.mg c=some (.ref C)->Z.E (.ref C) none H
 |Z,.zL o f e=>DW Z.K (wE Z o) (wE Z e) f
 |Z,.xy c fl e=>λ_ σ H=>∀C,Z.mg c=some (.ref C)->wE Z e σ H λy H1=>∀dp,H1 dp=none->Z.E (.ref C) (some dp) (upd H1 dp (.xd [(fl,y)]))
 |Z,.kM t it b=>iP (vG Z.K (wE Z it)) (tDG Z.K t) (wS Z b)
 |Z,.eX i it b=>iP (vG Z.K (wE Z it)) (uq i) (wS Z b)
 |Z,.t7 b hs i n=>λD σ H=>wS {Z with E:=wX Z hs D i n} b ⟨D.nx,D.rt,λ_ _=>False,λ_ _=>False⟩ σ H
 |_,.hn _ _ _ _=>λ_ _ _=>False
def wX:Wc->WS->Ends->Nat->Nat->XK
 |Z,.hn c f h rest,D,i,n=>fun v dd H'=>(∃C,Z.mg c=some (.ref C)/\v=.ref C/\match f with
   |none=>wS {Z with E:=λ_ _ _=>False,xf:=none} h ⟨λbP pU=>D.nx (bP.set i none) pU,D.rt,λ_ _=>False,λ_ _=>False⟩ (ax n none) H'
   |some fl=>∃dp y,dd=some dp/\H' dp=some (.xd [(fl,y)])/\wS {Z with E:=λ_ _ _=>False,xf:=some y} h ⟨λbP pU=>D.nx (bP.set i none) pU,D.rt,λ_ _=>False,λ_ _=>False⟩ (ax n none) (iM H' dp))
  \/wX Z rest D i n v dd H'
 |_,_,_,_,_=>λ_ _ _=>False
end
def xA:Stmt->Option (List Stmt×ExceptHandler)
 |.Try b h o f _=>if o.isEmpty&&f.isEmpty then(bI h).map λu=>(b,u)else none
 |_=>none
theorem Sg (e:xA s=some v):∃p,s=.Try v.1 [v.2] [] [] p:=bS (q:=λv=>∃p,s=.Try v.1 [v.2] [] [] p) e (by
 cases s with
 |Try b h o f p=>rcases h with _|⟨h,_|_⟩<;>rcases o with _|_<;>rcases f with _|_<;>first|exact .inl rfl|exact .inr ⟨_,rfl,_,rfl⟩
 |_=>exact .inl rfl)
def Ji (s:Stmt):Option (List Stmt×Str×Str×List Stmt):=(xA s).bind λt=>(BU t.2).map λu=>(t.1,u)
theorem DX (e:Ji s=some v):∃a b d,s=.Try v.1 [.ExceptHandler (some (.Name v.2.1 a)) (some v.2.2.1) v.2.2.2 b] [] [] d:=by obtain⟨t,c,e⟩:=ig.mp e;obtain⟨p,rfl⟩:=Sg c;obtain⟨x,c,rfl⟩:=bn.mp e;obtain⟨a,b,h⟩:=C8 c;exact⟨a,b,p,by rw[h]⟩
def DY (Γ:Gw)(i:Nat)(nm c:Str)(f:Option Str):Gw:={Γ with g:={Γ.g with N:=Γ.g.N.set i "",cm:=false,xc:=some (nm,c),fns:=[]},xf:=f}
mutual
def zM:Gw->WS->Stmt->Bool
 |Γ,.asg i e,s=>(uA s).any λu=>(bI u.1).any λx=>oY Γ.g (.nm i) x&& !kZ u.2&&bG Γ e u.2
 |Γ,.fld o f e,s=>(uA s).any λu=>(bI u.1).any λx=>(uz x).any λv=>(v.2.1==f)&& !kZ u.2&&bG Γ o v.1&&bG Γ e u.2
 |Γ,.put o k v,s=>(uA s).any λu=>(bI u.1).any λx=>(iX x).any λw=>!kZ u.2&&bG Γ o w.1&&bG Γ k w.2&&bG Γ v u.2
 |Γ,.exp e,s=>(uB s).any λv=>!kZ v&&bG Γ e v
 |Γ,.app o e,s=>(uB s).any λc=>(rA c).any λv=>((v.2.1==("append":Str))&&z0r v.1&&v.2.2.2)&&bG Γ o v.1&&(bI v.2.2.1).any λy=>!isStar y&&bG Γ e y
 |Γ,.xx o,s=>(uB s).any λc=>(rA c).any λv=>((v.2.1==("clear":Str))&&z0r v.1&&v.2.2.2)&&bG Γ o v.1&&v.2.2.1.isEmpty
 |Γ,.ret e,s=>(BO s).any λo=>o.any λv=>bG Γ e v
 |Γ,.bU c a b,s=>(BP s).any λv=>nB Γ c v.1&&wkL Γ a v.2.1&&wkL Γ b v.2.2
 |Γ,.uU c b,s=>(BQ s).any λv=>nB Γ c v.1&&wkL Γ b v.2.1&&v.2.2.isEmpty
 |Γ,.bJ t it b,s=>Γ.g.cm&&(wz s).any λv=>(oY Γ.g t v.1&&yX it v.1&&qY v.2.1)&&kG Γ.g it v.2.1&&wkL Γ b v.2.2.1&&v.2.2.2.isEmpty
 |Γ,.kA c,s=>(wB s).any λv=>(v.1==c)&&mD Γ.g c&&Γ.g.rs.contains c&&Γ.g.cm&&(bI v.2).any BS
 |Γ,.zL o f e,s=>(uA s).any λu=>(bI u.1).any λx=>(uz x).any λv=>(v.2.1==f)&& !kZ u.2&&bG Γ o v.1&&bG Γ e u.2
 |Γ,.xy c fl e,s=>(wB s).any λv=>(v.1==c)&&mD Γ.g c&&Γ.fld.contains (c,fl)&&Γ.g.cm&&(bI v.2).any λy=>!isStar y&&bG Γ e y
 |Γ,.kM t it b,s=>Γ.g.cm&&(wz s).any λv=>(oY Γ.g t v.1&&qY v.2.1)&&bG Γ it v.2.1&&wkL Γ b v.2.2.1&&v.2.2.2.isEmpty
 |Γ,.eX i it b,s=>Γ.g.cm&&(wz s).any λv=>(oY Γ.g (.nm i) v.1&&qY v.2.1)&&bG Γ it v.2.1&&wkL Γ b v.2.2.1&&v.2.2.2.isEmpty
 |Γ,.t7 b hs i n,s=>decide (Γ.g.N.length=n)&&(Ji s).any λv=>(Γ.g.cm&&(Γ.g.xc.isNone&& !Γ.g.blk)&&(Γ.g.N[i]?==some v.2.2.1)&&(Γ.g.sc.names.lookup v.2.2.1==some .local)&&decide (Γ.g.N.set i "").Nodup)&&((Γ.g.sc.names.lookup ("":Str)).isNone&&mD Γ.g v.2.1&& !rz b&&wkL Γ b v.1&&Γ.xf.isNone)&&(!v.2.2.2.isEmpty&& !(v.2.2.1==("__debug__":Str))&&wkH Γ hs i v.2.2.1 v.2.1 v.2.2.2)
 |_,_,_=>false
def wkH:Gw->WS->Nat->Str->Str->List Stmt->Bool
 |_,.nil,_,_,_,_=>true
 |Γ,.hn c f h rest,i,nm,B,su=>Γ.g.gQ.contains (c,B)&&(match f with|none=>true|some fl=>Γ.fld.contains (c,fl))&&wkL (DY Γ i nm c f) h su&&wkH Γ rest i nm B su
 |_,_,_,_,_,_=>false
def wkL:Gw->WS->List Stmt->Bool
 |_,.nil,l=>l.isEmpty
 |Γ,.seq a b,l=>match l with|s::l=>zM Γ a s&&wkL Γ b l|_=>false
 |_,_,_=>false
end
def Wfk (Γ:Gw)(X:Cx)(r:Nat):Prop:=∀c fl,Γ.fld.contains (c,fl)=true->∃C f fd ps k,X.mg c=some (.ref C)/\XF X.K C fl/\XI X.K C f/\k+1<=r/\FnOk X.prog X.w X.K X.mg X.base (CXE X.prog X.w X.base) k f fd ps (tZ X.K fl)/\Binds X.K fd ps []
structure Wz (s:WS):Prop where
 R:∀(Γ:Gw) (Z:Wc) (X:Cx) (r:Nat) (st:Stmt),Wok Γ Z (CXE X.prog X.w X.base) X r->Wfk Γ X r->(rz s=true->fm (model X.prog X.w) X.A X.env X.xe)->(rz s=true->xw X Z.E)->zM Γ s st=true->PS X st (wS Z s)
 L:∀(Γ:Gw) (Z:Wc) (X:Cx) (r:Nat) (st:List Stmt),Wok Γ Z (CXE X.prog X.w X.base) X r->Wfk Γ X r->(rz s=true->fm (model X.prog X.w) X.A X.env X.xe)->(rz s=true->xw X Z.E)->wkL Γ s st=true->PSs X st (wS Z s)
 H:∀(Γ:Gw) (Z:Wc) (X:Cx) (r i:Nat) (nm B:Str) (b0:Stmt) (su:List Stmt) (np hp:Pos) (pins:List (Addr×Obj)) (Dn:Ends),Wok Γ Z (CXE X.prog X.w X.base) X r->Wfk Γ X r->Γ.g.xc=none->X.stack=X.env::X.outer->X.env.frame=some X.env.locals->X.N[i]?=some nm->X.env.scope.names.lookup ("":Str)=none->X.env.scope.names.lookup nm=some .local->Wl nm->(Γ.g.N.set i "").Nodup->Gl X B->Wl B->wkH Γ s i nm B (b0::su)=true->∀σ H1 s1 C a H' s' dd,Inv X pins σ H1 s1->Fly X.prog X.w X.base X.stack H1 s1 C a H' s' dd->wX Z s Dn i σ.length (.ref C) dd H'->wpAny (model X.prog X.w) X.A (iy (.ref a) X.env) (λ_ s2=>wpAny (model X.prog X.w) X.A (jv (.ref a) none) (λ_ s3=>wpAny (model X.prog X.w) X.A (on (.ref a) X.env [.ExceptHandler (some (.Name B np)) (some nm) (b0::su) hp]) (SP X pins Dn) X.xe s3) X.xe s2) X.xe s'
theorem Wz.x (h:∀(Γ:Gw) (Z:Wc) (X:Cx) (r:Nat) (st:Stmt),Wok Γ Z (CXE X.prog X.w X.base) X r->Wfk Γ X r->(rz s=true->fm (model X.prog X.w) X.A X.env X.xe)->(rz s=true->xw X Z.E)->zM Γ s st=true->PS X st (wS Z s))(b:∀Γ st,wkL Γ s st=false)(c:∀Z D i n v dd H',¬wX Z s D i n v dd H'):Wz s:=⟨h,λΓ Z X r st k d e j z=>ff (b Γ st) z,λΓ Z X r i nm B l m o e pins p k d q t u y F G H J K f g σ H1 s1 C a H' s' dd I fl z=>(c _ _ _ _ _ _ _ z).elim⟩
theorem zg7 {C:Addr}(hh:X.A.handled=none)(G:Gl X x)(hm:X.mg x=some (.ref C))(h:Wl x)(J:exV X.K C=true)
  (rs:xw X E):PS X (.Raise (some (.Call (.Name x np) [.Constant (.str z) kk kp] [] L)) none pos) (λ_ _ H=>E (.ref C) none H):=by
 intro b s k H D I M;obtain⟨W,N,nm,q,bs,c,l,sub,m,f,n,p,t,u,v,w,mN,O,hN,i,T⟩:=CN.mk I.mod.sx J;refine wpAny_Raise_call_subT (nm:=nm) (q:=q) (N:=N) (bs:=bs) (hdct:=c) (sn:=l) (sub:=sub) (ab:=m) (col:=f) (dd:=n) (k0:=p) (k1:=t) (k2:=u) (k3:=v) (k5:=w) PySem.F.excBase_ValueError (T.hasType (X:="BaseException") rfl) hh rfl i (z4w I G hm ⟨rfl,?_⟩ h);refine kj (aI ((yF (X:=X) (Fb (x:=z) (j:=kk) (pos:=kp)) kX) L b s k H (λy H1=>y.length=1/\H1=H) I ⟨rfl,rfl⟩) λP B Q=>?_);obtain⟨y,H1,d,r,R,rfl⟩:=Q;have S:P.length=1:=r.length▸R;refine⟨rfl,by rw[S];decide,d.bk _ _ O,hN.keeps d.bk,T.keeps d.bk,λU a g=>?_⟩;obtain⟨tp,ga,_,_⟩:=g.there
 have V:H1 a=none:=by
  cases e:H1 a with
  |none=>rfl
  |some o=>obtain⟨ob,q⟩:=HS (d.hok a o e);rw[g.new]at q;cases q
 exact rs b k H1 {B with heap:=U} a C _ _ (d.kept g.keeps) V ⟨H1,B,d,g.new⟩ ga rfl rfl rfl M
theorem pV (h:a=true):(a||b)=true:=by rw[h];rfl
theorem pW (h:b=true):(a||b)=true:=by rw[h,m9]
theorem zlu {C D:Addr}(I:Inv X Z σ H1 s1)(c:Fly X.prog X.w X.base X.stack H1 s1 C a H' s' dd)(hs:X.stack=X.env::X.outer)(hf:X.env.frame=some X.env.locals)(s:X.fx=none)(nd:X.N.Nodup)(hi:X.N[i]?=some n)(t:X.env.scope.names.lookup ("":Str)=none)(u:X.env.scope.names.lookup n=some .local)
  (x:X.mg B=some (.ref D)) (xC:fU X.K C=true) (y:fU X.K D=true) (E:W.subIn X.K (.ref C) (.ref D)=some true) (d:Gl X B) (f:Wl B)
  (g:∀oe,oe.cls=.ref C->PSs (iZ X i n a oe) (F::hX) T) (q:T ⟨λk l=>r.nx (k.set i none) l,r.rt,λ_ _=>False,λ_ _=>False⟩ (ax σ.length none) H'):
  wpAny (model X.prog X.w) X.A (iy (.ref a) X.env) (λ_ G=>wpAny (model X.prog X.w) X.A (jv (.ref a) none) (λ_ H=>wpAny (model X.prog X.w) X.A (on (.ref a) X.env [.ExceptHandler (some (.Name B P)) (some n) (F::hX) Q]) (SP X Z r) X.xe H) X.xe G) X.xe s':=by
 obtain⟨R,m,o,p,J⟩:=c.hh;have b:=J;rw[hs]at b
 have L:(ax σ.length (none:Option V)).set i none=ax σ.length none:=by
  apply gw;intro j;rw[dg];split
  ·rename_i h;subst h;split<;>simp_all
  ·rfl
 refine zfl (λS M up=>?_) b (HV c) hs hf s nd hi t u x (wQ xC y E) d f (λ_ _ z=>z) (λoe ws O U Y=>g oe O) (L▸q);exact(Fly.land I c m o p (hs▸M) up).weak (by rw[bw]) λj v e=>by rw[cr]at e;split at e<;>cases e
theorem w_hn {rest:WS}(Y:Wz h)(ir:Wz rest):∀d Z X r i nm B t v Q R b x,Wok d Z (CXE X.prog X.w X.base) X r->Wfk d X r->d.g.xc=none->X.stack=X.env::X.outer->X.env.frame=some X.env.locals->X.N[i]?=some nm->X.env.scope.names.lookup ("":Str)=none->X.env.scope.names.lookup nm=some .local->Wl nm->(d.g.N.set i "").Nodup->Gl X B->Wl B->wkH d (.hn c f h rest) i nm B (t::v)=true->
  ∀E H1 F C a G K M,Inv X b E H1 F->Fly X.prog X.w X.base X.stack H1 F C a G K M->wX Z (.hn c f h rest) x i E.length (.ref C) M G->wpAny (model X.prog X.w) X.A (iy (.ref a) X.env) (λ_ s2=>wpAny (model X.prog X.w) X.A (jv (.ref a) none) (λ_ s3=>wpAny (model X.prog X.w) X.A (on (.ref a) X.env [.ExceptHandler (some (.Name B Q)) (some nm) (t::v) R]) (SP X b x) X.xe s3) X.xe s2) X.xe K:=by
 intro d Z X r i nm B t v Q R b x k O j hs hf S T P n gQ l m U E H1 F C a G K M I V z;obtain⟨c1,c2,c3,c4⟩:=bH U;rcases z with⟨C0,m0,e0,z⟩|z
 ·cases e0;obtain⟨C',D,m1,m2,x1,x2,sb⟩:=k.ck.xk.gQ c B c1;rw[k.mm,m1]at m0;cases m0;have o:X.N.Nodup:=k.ck.hN▸k.ck.nd;have hx:=k.ck.zj j;cases f with
  |none=>refine zlu I V hs hf hx o S T P m2 x1 x2 sb l m (λs hc=>?_) z;exact Y.L (DY d i nm c none) _ (iZ X i nm a s) r _ ⟨⟨k.kk,k.mm,k.fn,k.me,k.cl,k.gi,k.hf,k.md,k.mq⟩,k.ck.iZ gQ hc m1,nofun,(λ_ _ _ _ _ _ _ z=>by obtain⟨_,_,_,_,_,_,z⟩:=z;exact z),nofun,zJ⟩ O (λ_=>PassesOwn.never) (λ_ _ _ _ _ _ _ _ _ _ _ _ _ _ _ _ z=>z.elim) c3
  |some fl=>obtain⟨dp,y,rfl,hy,z⟩:=z;obtain⟨C2,f2,uV,V0,k2,n1,xf,_⟩:=O c fl c2;rw[m1]at n1;cases n1;refine zl6 I V hy hs hf hx o S T P m2 x1 x2 sb l m (λod mA u s ws q1 q2 q3 q4 q5 q6=>?_) z;refine Y.L (DY d i nm c (some fl)) _ (iZ (jT X ((dp,od)::X.pn) X.xe) i nm a s) r _ ⟨⟨k.kk,k.mm,k.fn,k.me,k.cl,k.gi,k.hf,k.md,k.mq⟩,(Jd k.ck j ((dp,od)::X.pn) X.xe).iZ gQ q4 m1,nofun,(λ_ _ _ _ _ _ _ z=>by obtain⟨_,_,_,_,_,_,z⟩:=z;exact z),(λf z=>?_),zJ⟩ O (λ_=>PassesOwn.never) (λ_ _ _ _ _ _ _ _ _ _ _ _ _ _ _ _ z=>z.elim) c3;cases z;refine⟨y,rfl,λn' c' e p q W=>?_⟩;cases e;exact zr2 (X:=iZ (jT X ((dp,od)::X.pn) X.xe) i nm a s) rfl P n W (λ_ _ _ _ J=>(J.pin (a,s) (ee _ bh)).1) q4 q6 q5 (λ_ _ _ _ J=>(J.pin (dp,od) (ee _ (ba _ bh))).1) q1 q2 q3 xf
 ·exact ir.H d Z X r i nm B t v Q R b x k O j hs hf S T P n gQ l m c4 E H1 F C a G K M I V z
theorem Sh {st:Stmt}(R:Wz b)(S:Wz hs)(k:Wok m Z (CXE X.prog X.w X.base) X r)(N:Wfk m X r)(h:zM m (.t7 b hs i n) st=true):PS X st (wS Z (.t7 b hs i n)):=by
 obtain⟨hn,h⟩:=aC h;obtain⟨⟨T,B,nm,F⟩,U,V⟩:=aH h;obtain⟨O,o,pos,rfl⟩:=DX U;obtain⟨h1,g,h3⟩:=aQ V;obtain⟨a1,a2,a3,a4,a5⟩:=dE h1;obtain⟨b1,b2,b3,b4,b5⟩:=dE g;obtain⟨c1,c2,c3⟩:=aQ h3;obtain⟨a6,a7⟩:=aC a2;obtain⟨P,F,rfl⟩:=rM c1;obtain⟨g3,g4⟩:=k.ck.gl b2;obtain⟨s1,Q⟩:=k.ck.mU (cU a7);have p:=ez.mp a6;have t:=cU b3;intro c s σ H j I hq;refine wpAny_Try_except ?_;generalize hE:(λe x=>wpAny (model X.prog X.w) X.A (iy e X.env) (λ_ y=>wpAny (model X.prog X.w) X.A (jv e none) (λ_ C=>wpAny (model X.prog X.w) X.A (on e X.env [.ExceptHandler (some (.Name B O)) (some nm) (P::F) o]) (SP X c j) X.xe C) X.xe y) X.xe x)=E
 have px:z2m (CXE X.prog X.w X.base) (jT X (X.pn++c) E) (wX Z hs j i n):=λG d H1 J e s' I1 zz=>by
  obtain⟨a,C',dd,D,rfl,fl,q⟩:=zz;rw[<-hE];have l:=DV I.ok I1;have K:n=d.length:=by rw[l.len,k.ck.hN];simp_all
  rw[K]at q;exact S.H m Z X r i nm B P F O o c j k N p s1 Q (k.ck.hN▸sj a3) (k.ck.hs▸ez.mp b1) (k.ck.hs▸sj a4) (cU c2) (sg a5) g3 g4 c3 d H1 J C' a D s' dd l fl q
 have wk:Wok m {Z with E:=wX Z hs j i n} (CXE X.prog X.w X.base) (jT X (X.pn++c) E) r:=⟨⟨k.kk,k.mm,k.fn,k.me,k.cl,k.gi,k.hf,k.md,k.mq⟩,Jd k.ck p _ E,k.room,px,(λf z=>by rw[ez.mp b5]at z;cases z),zJ⟩;refine aI ((R.L m _ (jT X (X.pn++c) E) r T wk N (λz=>by rw[t]at z;cases z) (λz=>by rw[t]at z;cases z) b4) [] s σ H ⟨j.nx,j.rt,λ_ _=>False,λ_ _=>False⟩ (R8 I E) hq) λM Q g=>?_;cases M with
 |next=>obtain⟨d,D,l,z⟩:=g;exact kr ⟨d,D,DV I.ok l,z⟩
 |brk=>obtain⟨_,_,_,z⟩:=g;exact z.elim
 |cont=>obtain⟨_,_,_,z⟩:=g;exact z.elim
 |ret u=>obtain⟨v,d,D,l,rv,z⟩:=g;exact⟨v,d,D,DV I.ok l,rv,z⟩
theorem Si (s:WS):Wz s:=by
 induction s with
 |nil=>exact⟨λ_ _ _ _ _ _ _ _ _ h=>ff rfl h,λd Z X r st k u m hr h=>by cases eW h;exact Fq,λd Z X r i nm B b0 su np m pins Dn k u a1 a2 a3 a4 a5 a6 a7 a8 a9 Sj Sk σ H1 s1 C a H' s' dd I fl z=>z.elim⟩
 |seq a b ia Q=>exact⟨λ_ _ _ _ _ _ _ _ _ h=>ff rfl h,λd Z X r st k u m hr h=>by
  cases st with
  |nil=>cases h
  |cons s st=>obtain⟨l,A⟩:=aC h;exact Fs (ia.R d Z X r _ k u (λz=>m (pV z)) (λz=>hr (pV z)) l) (Q.L d Z X r _ k u (λz=>m (pW z)) (λz=>hr (pW z)) A),λd Z X r i nm B b0 su np m pins Dn k u a1 a2 a3 a4 a5 a6 a7 a8 a9 Sj Sk σ H1 s1 C a H' s' dd I fl z=>z.elim⟩
 |asg i e=>exact Wz.x (λd Z X r st k u m hr h=>by obtain⟨⟨ts,v⟩,G,J⟩:=aH h;obtain⟨p,rfl⟩:=mV G;obtain⟨x,Y,S⟩:=aH J;cases fV Y;obtain⟨l,A,M⟩:=aQ S;obtain⟨y,q,rfl,P⟩:=jR l;obtain⟨l1,l2,l3⟩:=k.ck.loc P;exact Bp (k.ck.hN▸k.ck.nd) l1 l2 ((cJ e).E d Z _ X r _ k M) (cU A) l3) (λ_ _=>rfl) λ_ _ _ _ _ _ _ z=>z
 |fld o f e=>exact Wz.x (λd Z X r st k u m hr h=>by obtain⟨⟨ts,v⟩,G,J⟩:=aH h;obtain⟨p,rfl⟩:=mV G;obtain⟨x,Y,S⟩:=aH J;cases fV Y;obtain⟨⟨o',f',p'⟩,ho,O⟩:=aH S;cases mT ho;obtain⟨l,A,M,N⟩:=bH O;have l:=eqB l;subst l;show PS X _ (sM Z.K _ _ _);rw[k.kk];exact Ml ((cJ o).E d Z _ X r _ k M) ((cJ e).E d Z _ X r _ k N) (sV (cU A) _ _ _)) (λ_ _=>rfl) λ_ _ _ _ _ _ _ z=>z
 |put o y v=>exact Wz.x (λd Z X r st k u m hr h=>by obtain⟨⟨ts,v⟩,G,J⟩:=aH h;obtain⟨p,rfl⟩:=mV G;obtain⟨x,Y,S⟩:=aH J;cases fV Y;obtain⟨w,ho,O⟩:=aH S;obtain⟨_,rfl⟩:=uK ho;obtain⟨l,A,M,N⟩:=bH O;exact O1 (fi (o0 dc _) k.ck.hu) ((cJ o).E d Z _ X r _ k A) ((cJ y).E d Z _ X r _ k M) ((cJ _).E d Z _ X r _ k N) (sV (cU l) _ _ _)) (λ_ _=>rfl) λ_ _ _ _ _ _ _ z=>z
 |exp e=>exact Wz.x (λd Z X r st k u m hr h=>by obtain⟨v,G,J⟩:=aH h;obtain⟨p,rfl⟩:=mW G;obtain⟨l,A⟩:=aC J;exact lW ((cJ e).E d Z _ X r _ k A) (cU l)) (λ_ _=>rfl) λ_ _ _ _ _ _ _ z=>z
 |app o e=>exact Wz.x (λd Z X r st k u m hr h=>by obtain⟨c,G,J⟩:=aH h;obtain⟨p,rfl⟩:=mW G;obtain⟨⟨x,n,es,b⟩,hm,S⟩:=aH J;obtain⟨ap,cp,rfl,hb⟩:=jz hm;obtain⟨h0,U,O⟩:=aQ S;obtain⟨l,A,M⟩:=aQ h0;obtain⟨y,hy,N⟩:=aH O;cases fV hy;obtain⟨N,P⟩:=aC N;have l:=eqB l;subst l;show PS X _ (sF (A9 Z.K "list" yI _ _));rw[k.kk];exact lW (zng PySem.F.plainAttrs_list PySem.F.slot_list_append PySem.F.type_list_append Ba ((cJ o).E d Z _ X r _ k U) (eV ((cJ e).E d Z _ X r _ k P) kX (cU N)) (nW A) (z9y (by rw[cx,N];rfl) (show 1<20 by decide)) (hb.symm.trans M) (fE (cU N)) (lV rfl)) rfl) (λ_ _=>rfl) λ_ _ _ _ _ _ _ z=>z
 |xx o=>exact Wz.x (λd Z X r st k u m hr h=>by obtain⟨c,G,J⟩:=aH h;obtain⟨p,rfl⟩:=mW G;obtain⟨⟨x,n,es,b⟩,hm,S⟩:=aH J;obtain⟨ap,cp,rfl,hb⟩:=jz hm;obtain⟨h0,U,O⟩:=aQ S;obtain⟨l,A,M⟩:=aQ h0;cases eW O;have l:=eqB l;subst l;show PS X _ (sF (lR Z.K "list" yJ _));rw[k.kk];exact lW (zis PySem.F.plainAttrs_list PySem.F.slot_list_clear PySem.F.type_list_clear MU ((cJ o).E d Z _ X r _ k U) (nW A) (hb.symm.trans M)) rfl) (λ_ _=>rfl) λ_ _ _ _ _ _ _ z=>z
 |ret e=>exact Wz.x (λd Z X r st k u m hr h=>by obtain⟨o,G,J⟩:=aH h;obtain⟨p,rfl⟩:=wV G;obtain⟨v,rfl,S⟩:=aH J;exact AI ((cJ e).E d Z _ X r _ k S)) (λ_ _=>rfl) λ_ _ _ _ _ _ _ z=>z
 |bU c a b ia Q=>exact Wz.x (λd Z X r st k u m hr h=>by obtain⟨v,G,J⟩:=aH h;obtain⟨p,rfl⟩:=wW G;obtain⟨l,A,M⟩:=aQ J;exact Ft ((cJ c).T d Z _ X r _ k l).1 (ia.L d Z X r _ k u (λz=>m (pV z)) (λz=>hr (pV z)) A) (Q.L d Z X r _ k u (λz=>m (pW z)) (λz=>hr (pW z)) M)) (λ_ _=>rfl) λ_ _ _ _ _ _ _ z=>z
 |uU c b Q=>exact Wz.x (λd Z X r st k u m hr h=>by obtain⟨⟨t,B,o⟩,G,J⟩:=aH h;obtain⟨p,rfl⟩:=wY G;obtain⟨l,A,M⟩:=aQ J;cases eW M;exact Fw (m rfl) ((cJ c).T d Z _ X r _ k l).1 (Q.L d Z X r _ k u (λ_=>m rfl) (λ_=>hr rfl) A)) (λ_ _=>rfl) λ_ _ _ _ _ _ _ z=>z
 |bJ t it b Q=>exact Wz.x (λd Z X r st k u m hr h=>by obtain⟨V,h⟩:=aC h;obtain⟨⟨t',i,B,o⟩,G,J⟩:=aH h;obtain⟨p,rfl⟩:=pJ G;obtain⟨l,A,M,N⟩:=bH J;obtain⟨P,U,O⟩:=aQ l;cases eW N;show PS X _ (iP (tDW Z.K _) (tDG Z.K _) _);rw[k.kk];exact zam (m rfl) (k.ck.calm V) ((all it).W d.g X r _ _ k.ck U A) (uL k.ck P) (Q.L d Z X r _ k u (λ_=>m rfl) (λ_=>hr rfl) M) (uM O _)) (λ_ _=>rfl) λ_ _ _ _ _ _ _ z=>z
 |kA c=>exact Wz.x (λd Z X r st k u m hr h=>by obtain⟨⟨x,es⟩,G,J⟩:=aH h;obtain⟨np,cp,pos,rfl⟩:=wZ G;obtain⟨l,A,M,N,P⟩:=dE J;obtain⟨y,hy,U⟩:=aH P;cases fV hy;obtain⟨z,kk,p,rfl⟩:=Q3 U;cases sj l;obtain⟨g1,g2⟩:=k.ck.gl A;obtain⟨C,m1,xC⟩:=k.ck.xk.rs x M;exact PS.imp (zg7 (k.room N).hd g1 m1 g2 xC (hr rfl)) λD σ H q=>q C (k.mm▸m1)) (λ_ _=>rfl) λ_ _ _ _ _ _ _ z=>z
 |zL o f e=>exact Wz.x (λd Z X r st k u m hr h=>by obtain⟨⟨ts,v⟩,G,J⟩:=aH h;obtain⟨p,rfl⟩:=mV G;obtain⟨x,Y,S⟩:=aH J;cases fV Y;obtain⟨⟨o',f',p'⟩,ho,O⟩:=aH S;cases mT ho;obtain⟨l,A,M,N⟩:=bH O;have l:=eqB l;subst l;show PS X _ (DW Z.K _ _ _);rw[k.kk];exact R9 ((cJ o).E d Z _ X r _ k M) ((cJ e).E d Z _ X r _ k N) (sV (cU A) _ _ _)) (λ_ _=>rfl) λ_ _ _ _ _ _ _ z=>z
 |xy c fl e=>exact Wz.x (λd Z X r st k u m hr h=>by obtain⟨⟨x,es⟩,G,J⟩:=aH h;obtain⟨np,cp,pos,rfl⟩:=wZ G;obtain⟨l,A,M,N,P⟩:=dE J;obtain⟨y,hy,U⟩:=aH P;cases fV hy;obtain⟨U,O⟩:=aC U;cases sj l;obtain⟨g1,g2⟩:=k.ck.gl A;obtain⟨C,f,fd,ps,n,m1,xf,xi,hn,F,hb⟩:=u _ _ M;exact PS.imp (zek ((k.room N).mono hn) g1 m1 g2 xf xi F hb ((cJ e).E d Z _ X r _ k O) (cU U) (hr rfl)) λD σ H q=>q C (k.mm▸m1)) (λ_ _=>rfl) λ_ _ _ _ _ _ _ z=>z
 |kM t it b Q=>exact Wz.x (λd Z X r st k u m hr h=>by obtain⟨V,h⟩:=aC h;obtain⟨⟨t',i,B,o⟩,G,J⟩:=aH h;obtain⟨p,rfl⟩:=pJ G;obtain⟨l,A,M,N⟩:=bH J;obtain⟨P,O⟩:=aC l;cases eW N;show PS X _ (iP (vG Z.K _) (tDG Z.K _) _);rw[k.kk];exact zam (m rfl) (k.ck.calm V) (Fz ((cJ it).E d Z _ X r _ k A)) (uL k.ck P) (Q.L d Z X r _ k u (λ_=>m rfl) (λ_=>hr rfl) M) (uM O _)) (λ_ _=>rfl) λ_ _ _ _ _ _ _ z=>z
 |eX j it b Q=>exact Wz.x (λd Z X r st k u m hr h=>by obtain⟨V,h⟩:=aC h;obtain⟨⟨t',i,B,o⟩,G,J⟩:=aH h;obtain⟨p,rfl⟩:=pJ G;obtain⟨l,A,M,N⟩:=bH J;obtain⟨P,O⟩:=aC l;cases eW N;obtain⟨y,q,rfl,P⟩:=jR P;obtain⟨l1,l2,l3⟩:=k.ck.loc P;show PS X _ (iP (vG Z.K _) (uq _) _);rw[k.kk];exact zam (m rfl) (k.ck.calm V) (Fz ((cJ it).E d Z _ X r _ k A)) (AL (k.ck.hN▸k.ck.nd) l1 l2 l3) (Q.L d Z X r _ k u (λ_=>m rfl) (λ_=>hr rfl) M) (uM O _)) (λ_ _=>rfl) λ_ _ _ _ _ _ _ z=>z
 |t7 b hs i n Q ih=>exact Wz.x (λd Z X r st k u m hr h=>Sh Q ih k u h) (λ_ _=>rfl) λ_ _ _ _ _ _ _ z=>z
 |hn c f h rest ih ir=>exact⟨λ_ _ _ _ _ _ _ _ _ h=>ff rfl h,λ_ _ _ _ _ _ _ _ _ h=>ff rfl h,w_hn ih ir⟩
section
variable {P:cj}{w:World}{K:W.Frag}{mg:Str->Option Value}{base:Heap}
theorem zrr {Z:Wc}{st:Stmt}(Fu:∃dV oc od kV doc pm an cdv ct osl,fd=W.fnOf x qual (z0p st) (z0f st) (z08 st) dV kV doc pm an cdv ct/\K.lookup f=some ⟨oc,od,.func fd,osl⟩/\W.codeIn K cdv qual=true)(Sc:FnScope Γ.g.N ps (z08 st))(hs:Γ.g.sc=z08 st)(hxc:Γ.g.xc=none)(dk:Dok Γ.g Z.Κ Z.Φ P w K mg base k)(zk:∀E,Zok Γ {Z with E:=E} (CXE P w base) P w K mg base k)(hxf:Γ.xf=none)(kf:Γ.fld=[]\/∀X,X.prog=P->X.w=w->X.K=K->X.mg=mg->X.base=base->Wfk Γ X k)(hc:wkL Γ s (z0f st)=true)
  (len:∀vs H Q E,sp vs H Q E->vs.length=ps.length) (run:∀vs H Q E,sp vs H Q E->wS {Z with E:=E} s {nx:=λ_ H'=>Q .aK H',rt:=Q} (start Γ.g.N vs) H):
  FnOk P w K mg base (CXE P w base) (k+1) f fd ps sp:=by
 obtain⟨dV,oc,od,kV,doc,pm,an,cdv,ct,osl,rfl,lk,Sm⟩:=Fu;refine zmg lk Sm Sc len λA outer s1 H vs Q E hr Sn=>⟨_,(Si s).L Γ {Z with E:=E} (hT (CXE P w base) P w K mg base Γ.g.N qual (z08 st) f cdv A outer s1 H E) k _ ⟨zk E,⟨rfl,hs.symm,Sc.nd,λ_ _=>rfl,by rw[hs];exact Sc.kind,dk.free,dk.fns,dk.cst,dk.pH,λ_=>hr,λ_=>rfl,hr.units,λ_=>⟨rfl,rfl⟩,λ_=>rfl,λ_ _ z=>(by rw[hxc]at z;cases z),dk.xk⟩,λ_=>hr,λpins σ H1 s2 e s' I zz=>?_,(λf z=>by rw[hxf]at z;cases z),zJ⟩ (kf.elim (λe c fl z=>by rw[e]at z;cases z) λg=>g _ rfl rfl rfl rfl rfl) (λ_=>PassesOwn.leaving) (λ_ pins σ H1 s2 a C ob vs I q1 q2 q3 q4 q5 q6 q7=>?_) hc,run vs H Q E Sn⟩
 ·obtain⟨a,C,dd,H',rfl,fl,q⟩:=zz;exact fl.leave (outer:=[]) I rfl rfl rfl λs3 fl=>⟨a,C,dd,H',rfl,fl,q⟩
 ·obtain⟨H2,s4,I2,n2⟩:=q2;refine zci I ?_ q1 q3 q4 q5 q6 rfl rfl rfl λs3 fl=>⟨a,C,ob.dict,H1,rfl,fl,q7⟩;cases e:(hT (CXE P w base) P w K mg base Γ.g.N qual (z08 st) f cdv A outer s1 H E).s₀.heap.get? a with
  |none=>rfl
  |some o=>obtain⟨o',e'⟩:=I2.base.there a o e (by show a∉ [];simp);rw[n2]at e';cases e'
theorem DZ {Z:Wc}{st:Stmt}(e:Fun K x d st f fd)(h:FnScope Γ.g.N ps (z08 st))(hs:Γ.g.sc=z08 st)(b:Γ.g.xc=none)(i:Dok Γ.g Z.Κ Z.Φ P w K mg base k)(j:∀E,Zok Γ {Z with E:=E} (CXE P w base) P w K mg base k)(c:Γ.xf=none)(kf:Γ.fld=[]\/∀X,X.prog=P->X.w=w->X.K=K->X.mg=mg->X.base=base->Wfk Γ X k)(l:wkL Γ s (z0f st)=true)
 (len:∀a H Q E,sp a H Q E->a.length=ps.length) (run:∀a H Q E,sp a H Q E->wS {Z with E:=E} s {nx:=λ_ m=>Q .aK m,rt:=Q} (start Γ.g.N a) H):
 FnOk P w K mg base (CXE P w base) (k+1) f fd ps sp:=zrr ⟨_,e.ex⟩ h hs b i j c kf l len run
end
abbrev NoB:Ad->Prop:=λ_=>False
abbrev AnyB:Ad->Prop:=λ_=>True
abbrev F0 (H:Hp):Fm:=⟨H,λ_=>True,λ_=>none,True⟩
section
variable {K:W.Frag}{H H':Hp}
theorem Rep.old (r:Rep K H B v d):Rep K H (eA (F0 H)) v d:=(Rep.there _ r).weak λa h=>by
 cases a with
 |none=>exact trivial
 |some a=>exact⟨λz=>h.2 z,trivial⟩
theorem pX (b:f.length=j.length)(h:∀(i:Nat) (g:G) (d:D),j[i]?=some (some (g,d))->g=G.od/\∃v B,f[i]?=some (some v)/\Rep K H B v d):StOk K (F0 H) H f j where
 ext:=Same.refl H
 aM:=λ_ _=>trivial
 own:=λa i e=>by cases e
 len:=b
 sl:=λi g d e=>by obtain⟨rfl,v,B,c,r⟩:=h i g d e;exact⟨v,c,r.old⟩
structure Crt (K:W.Frag)(CC:Addr)(H:Hp)(x dx d:Addr)(kvs:List (Key×V))(es:aY):Prop where
 ins:H x=some (.ins CC dx [("aboves",.ref d)])
 fH:H d=some (.dK kvs)
 re:aV K H NoB kvs es
theorem Crt.same (c:Crt K a H x dx d kvs es)(s:Same H H'):Crt K a H' x dx d kvs es:=⟨s _ _ c.ins,s _ _ c.fH,c.re.same s λ_ z=>z⟩
theorem Crt.rep (c:Crt K a H x dx d kvs es):Rep K H AnyB (.ref d) (.dict es):=⟨d,kvs,rfl,c.fH,trivial,c.re.same (Same.refl H) λ_ z=>z.elim⟩
def rS:D->Bool
 |.str _=>true
 |_=>false
def stN (es:aY)(c:D):Bool:=rS c&&(z0d es c).isSome
end
structure CrtK (K:W.Frag)(CC:Addr):Prop where
 cls:Cls K CC
 na:z1x K CC "aboves"
namespace Ct
abbrev AB:W:=.iL (.raw 0) "aboves"
abbrev LA:W:=.ix AB (.ix (.raw 2) (.bD (.neg (.int 1))))
def nD:WS:=.seq (.ret (.and (.bD (.gL (.var 1) ["str"])) (.cmp .In (.raw 1) AB))) .nil
def found:WS:=.seq (.bU (.uS (.not (.tp (.tv (.gL (.var 1) ["str"])))) (.tc .In (.raw 1) AB)) (.seq (.kA "NoCourt") .nil) .nil)
 (.seq (.bU (.iA (.ti true (.raw 2)) (.not (.lH (.dF (.raw 0) 0 (.cons (.raw 2) .nil))))) (.seq (.kA "NoCourt") .nil) .nil)
 (.seq (.put AB (.raw 1) (.raw 2)) .nil))
def line:WS:=.seq (.bU (.not (.lH (.dF (.raw 0) 0 (.cons (.raw 1) .nil)))) (.seq (.kA "NoCourt") .nil) .nil)
 (.seq (.asg 2 (.lst (.cons (.raw 1) .nil)))
 (.seq (.uU (.ti true LA) (.seq (.app (.raw 2) LA) .nil))
 (.seq (.ret (.raw 2)) .nil)))
def init:WS:=.seq (.fld (.raw 0) "aboves" .gO) (.seq (.bJ (.tp [2,3]) (.tv (.var 1)) (.seq (.exp (.dF (.raw 0) 1 (.cons (.raw 2) (.cons (.raw 3) .nil)))) .nil)) .nil)
end Ct
section
variable {Z:Wc}{H:Hp}{x dx:Addr}{es:aY}
theorem xB (ck:CrtK Z.K CC)(c:Crt Z.K CC H x dx d kvs es)(h0:σ[0]?=some (some (.ref x)))(q:Q (.ref d) H):wE Z Ct.AB σ H Q:=⟨.ref x,h0,x,CC,dx,_,.ref d,rfl,c.ins,ck.cls,ck.na,rfl,q⟩
theorem Jj {x:V}{dx:D}(a:Rep Z.K H B x dx)(c:Rep Z.K H B' y (.dict es))(hk:iH dx=true)(q:∀H',Same H H'->Q (.bl (z0d es dx).isSome) H'):jO Z.K (mB (cmpD .In)) x y H Q:=⟨B,B',dx,.dict es,.bool (z0d es dx).isSome,a,c,by show((if iH dx=true then Res.ok (z0d es dx).isSome else Res.no)>>=λb=>Res.ok (PyData.bool b))=_;rw[rj hk];rfl,λw H' s r=>by cases r;exact q H' s⟩
theorem D1 (h:rS c=true):iH c=true:=by cases c<;>first|(cases h;done)|rfl
theorem Jk (h:a[i]?=some (some (.od,c))):aJ Κ Φ (.gL (.var i) ["str"]) a=.ok (.fr,.bool (rS c)):=by show(vZ a[i]?>>=λx=>Res.ok (G.fr,PyData.bool (["str"].any λT=>iU (gP x.2) T)))=_;rw[h];cases c<;>rfl
theorem zcb (ck:CrtK Z.K CC)(ct:Crt Z.K CC H x dx d kvs es)(f:Rep Z.K H B v c)(q:∀h,Same H h->j.rt (.bl (stN es c)) h):
  wS Z Ct.nD j [some (.ref x),some v] H:=by
 refine⟨[none,some (.od,c)],F0 H,_,pX rfl λi g n e=>?_,Jk rfl,λw H1 a k=>⟨rS c,k,?_⟩⟩
 ·rcases i with _|_|i<;>cases e;exact⟨rfl,v,B,rfl,f⟩
 ·cases b:rS c with
  |false=>have:=q H1 a;unfold stN at this;rw[b]at this;exact this
  |true=>refine⟨v,rfl,xB ck (ct.same a) rfl (Jj (f.same a λ_ z=>z) (ct.same a).rep (D1 b) λl m=>?_)⟩;have:=q l (a.trans m);unfold stN at this;rw[b]at this;exact this
def z3d (K:W.Frag)(CC:Addr):Sp:=λvs H Q _=>∃x dx d kvs es v c B,vs=[.ref x,v]/\Crt K CC H x dx d kvs es/\Rep K H B v c/\∀H',Same H H'->Q (.bl (stN es c)) H'
def xE:D->Bool
 |.none=>true
 |_=>false
def iB (es:aY)(c a:D):Bool:=rS c&& !(z0d es c).isSome&&(xE a||stN es a)
def z99 (K:W.Frag)(CC:Addr)(mg:Str->Option Value):Sp:=λvs H Q E=>∃x dx d kvs es vc va c a B,vs=[.ref x,vc,va]/\Crt K CC H x dx d kvs es/\Rep K H B vc c/\Rep K H B va a/\es.length<ay/\if iB es c a=true then ∀H' D3,(∀b o,b≠d->H b=some o->H' b=some o)->Crt K CC H' x dx d D3 (es++[(c,a)])->Q .aK H' else ∀C H',mg "NoCourt"=some (.ref C)->Same H H'->E (.ref C) none H'
theorem Rep.aK {K:W.Frag}(r:Rep K H B v a):decide (v=.aK)=xE a:=by
 cases a with
 |none=>cases r;rfl
 |bool b=>cases r;rfl
 |int b=>cases r;rfl
 |str b=>obtain⟨rfl,_⟩:=r;rfl
 |tuple c=>obtain⟨_,_,rfl,_⟩:=r;rfl
 |list c=>obtain⟨_,_,rfl,_⟩:=r;rfl
 |dict c=>obtain⟨_,_,rfl,_⟩:=r;rfl
theorem aV.len {K:W.Frag}:∀{es:aY} {kvs:List (Key×V)},aV K H B kvs es->kvs.length=es.length
 | [],kvs,r=>by cases r;rfl
 |e::es,kvs,r=>by obtain⟨k,v,t,rfl,_,_,_,r⟩:=r;rw[bd,bd,aV.len r]
theorem Jl (h:(z0d es k).isSome=false):dput es k v=es++[(k,v)]:=by unfold dput;rw[rq];intro z;unfold z0d at h;rw[iz,qi.mpr (List.any_eq_true.mp z)]at h;cases h
theorem D4 {C:Addr}(h:Z.me[j]?=some (C,m,b)):wE Z (.dF o j a)=jI C m b [] Z.E (wE Z o) (wA Z a):=by show(match Z.me[j]? with|some r=>jI r.1 r.2.1 r.2.2 [] Z.E (wE Z o) (wA Z a)|none=>fX)=_;rw[h]
theorem zov (hm:Z.me[0]?=some (CC,("stands":Str),z3d Z.K CC))(ct:Crt Z.K CC H x dx d kvs es)(h0:σ[0]?=some (some (.ref x)))(b:σ[i]?=some (some v))(e:Rep Z.K H B v c)(q:∀a,Same H a->Q (stN es c) a):
  wT Z (.lH (.dF (.raw 0) 0 (.cons (.raw i) .nil))) σ H Q:=by
 show DR Z.K (wE Z (.dF _ 0 _)) σ H Q;rw[D4 hm];exact⟨.ref x,h0,x,dx,_,rfl,ct.ins,rfl,v,b,x,dx,d,kvs,es,v,c,B,rfl,ct,e,λa s=>⟨_,rfl,q a s⟩⟩
theorem zfu (ck:CrtK Z.K CC)(hm:Z.me[0]?=some (CC,("stands":Str),z3d Z.K CC))(ct:Crt Z.K CC H x dx d kvs es)(A:Rep Z.K H B t c)(D:Rep Z.K H B l a)(I:es.length<ay)
  (q:if iB es c a=true then ∀h u,(∀b o,b≠d->H b=some o->h b=some o)->Crt Z.K CC h x dx d u (es++[(c,a)])->D0.nx [some (.ref x),some t,some l] h else ∀C h,Z.mg "NoCourt"=some (.ref C)->Same H h->Z.E (.ref C) none h):
  wS Z Ct.found D0 [some (.ref x),some t,some l] H:=by
 have bad:iB es c a=false->∀h,Same H h->∀C,Z.mg "NoCourt"=some (.ref C)->Z.E (.ref C) none h:=λF h s C e=>by rw[rq (by rw[F];decide)]at q;exact q C h e s
 refine⟨[none,some (.od,c),none],F0 H,rS c,pX rfl λi g O e=>?_,?_,λH1 v=>?_⟩
 ·rcases i with _|_|_|i<;>cases e;exact⟨rfl,t,B,rfl,A⟩
 ·show(aJ Z.Κ Z.Φ (.gL (.var 1) ["str"]) _>>=λx=>jK x.2)=_;rw[Jk rfl];rfl
 cases m:rS c with
 |false=>exact bad (by unfold iB;rw[m];rfl) H1 v
 |true=>
  refine⟨t,rfl,xB ck (ct.same v) rfl (Jj (A.same v λ_ z=>z) (ct.same v).rep (D1 m) λG J=>⟨_,rfl,?_⟩)⟩;have f:=v.trans J;cases w:(z0d es c).isSome with
  |true=>exact bad (by unfold iB;rw[m,w];rfl) G f
  |false=>
   refine⟨l,rfl,_,rfl,?_⟩
   have y:iB es c a=true->∀n,Same H n->imm a=true->wS Z (.seq (.put Ct.AB (.raw 1) (.raw 2)) .nil) D0 [some (.ref x),some t,some l] n:=λF n p L=>by
    rw[rj F]at q;have j:=ct.same p;obtain⟨k,rfl,rfl,ok⟩:=wF (D1 m) A;refine⟨l,rfl,xB ck j rfl ⟨kV k,rfl,.inl ⟨d,_,rfl,.inl ⟨kvs,k,j.fH,rfl,by rw[aV.len j.re];exact I,rfl⟩,?_⟩⟩⟩;refine q _ (putK kvs k l) (λb o M e=>by rw[aE M];exact p b o e) ⟨?_,bF,?_⟩
    ·rw[aE]
     ·exact j.ins
     ·intro z;have:=j.ins;rw[z,j.fH]at this;cases this
    ·have r:=aV.put ok (Rep.bC a L (D.same p λ_ z=>z)) j.re;rw[Jl w]at r;refine aV.keep (λb o e z=>?_) (λ_ z=>z) _ r;rw[aE]
     ·exact e
     ·rintro rfl
      rw[j.fH]at e;cases e;exact z.elim id id
   rw[show(!decide (l=V.aK))=!xE a by rw[D.aK]];cases hn:xE a with
   |true=>
    have N:a=.none:=by cases a<;>first|(cases hn;done)|rfl
    subst N;exact y (by unfold iB;rw[m,w];rfl) G f rfl
   |false=>
    refine zov hm (ct.same f) rfl rfl (D.same f λ_ z=>z) λn p=>?_;cases hs:stN es a with
    |true=>exact y (by unfold iB;rw[m,w,hs,m9];rfl) n (f.trans p) (by unfold stN at hs;cases a<;>first|(cases hs;done)|rfl)
    |false=>exact bad (by unfold iB;rw[m,w,hn,hs];rfl) n (f.trans p)
end
def eK (es:aY):Nat->Str->List Str
 |0,s=>[s]
 |n+1,s=>match z0d es (.str s)with
  |some (.str a)=>s::eK es n a
  |_=>[s]
def aR (es:aY):Nat->Str->Bool
 |0,s=>match z0d es (.str s)with
  |some .none=>true
  |_=>false
 |n+1,s=>match z0d es (.str s)with
  |some .none=>true
  |some (.str a)=>aR es n a
  |_=>false
def z7h (K:W.Frag)(CC:Addr)(mg:Str->Option Value):Sp:=λvs H Q E=>∃x dx d kvs es v c B,vs=[.ref x,v]/\Crt K CC H x dx d kvs es/\Rep K H B v c/\if stN es c=true then ∃s n,c=.str s/\n<1000/\aR es n s=true/\∀H' p,Same H H'->H p=none->H' p=some (.lst ((eK es n s).map V.str))->Q (.ref p) H' else ∀C H',mg "NoCourt"=some (.ref C)->Same H H'->E (.ref C) none H'
theorem D5 {K:W.Frag}:∀{a:List Str},(∀s∈a,PyData.strOk s=true)->Reps K H B (a.map V.str) (a.map PyData.str)
 | [],_=>rfl
 |s::a,h=>⟨_,_,rfl,⟨rfl,h s bh⟩,D5 λt b=>h t (ba _ b)⟩
theorem So:eO (.list ((a++[s]).map PyData.str)) (.int (-1))=.ok (.str s):=by
 show Res.dQ (bW ((a++[s]).map PyData.str) (-1))=_
 have:bW ((a++[s]).map PyData.str) (-1)=some (.str s):=by
  unfold bW iG;rw[rq dc,rj (by grind)];have e:((-1:Int)+((qj PyData.str (a++[s])).length:Int)).toNat=a.length:=by simp;omega
  rw[e];simp
 rw[this];rfl
theorem zly (ck:CrtK Z.K CC)(ct:Crt Z.K CC H x dx d kvs es)(h0:σ[0]?=some (some (.ref x)))(h:σ[2]?=some (some (.ref p)))(j:H p=some (.lst ((f++[s]).map V.str)))(k:∀t∈f++[s],PyData.strOk t=true)(e:z0d es (.str s)=some w)(l:imm w=true)
  (q:∀a v,Same H a->Rep Z.K a NoB v w->Q v a):wE Z Ct.LA σ H Q:=by
 refine xB (Q:=λx H1=>(jH (iY Z.K) (sA 2) (wE Z (.bD (.neg (.int 1))))) σ H1 λy m=>iY Z.K x y m Q) ck ct h0 ⟨.ref p,h,ax σ.length none,F0 H,(.fr,.int (-1)),pX (by rw[bw]) λi g r e=>?_,rfl,λu H1 b c=>?_⟩
 ·rw[cr]at e;split at e<;>cases e
 ·cases c;refine⟨AnyB,AnyB,.list ((f++[s]).map PyData.str),.int (-1),.str s,⟨p,_,rfl,.inl ⟨b _ _ j,trivial⟩,D5 k⟩,rfl,So,λz c=>?_⟩;refine⟨AnyB,AnyB,.dict es,.str s,w,(ct.same b).rep,c,?_,λn o=>q H1 n b (Rep.bC w l o)⟩
  ·show(if iH (PyData.str s)=true then Res.dQ (z0d es (.str s))else .no)=_;rw[e];rfl
theorem zif (ck:CrtK Z.K CC)(hm:Z.me[0]?=some (CC,("stands":Str),z3d Z.K CC))(ct:Crt Z.K CC H x dx d kvs es)(S:Rep Z.K H B v c)
  (q:if stN es c=true then ∃s n,c=.str s/\n<1000/\aR es n s=true/\∀f p,Same H f->H p=none->f p=some (.lst ((eK es n s).map V.str))->D0.rt (.ref p) f else ∀C f,Z.mg "NoCourt"=some (.ref C)->Same H f->Z.E (.ref C) none f):
  wS Z Ct.line D0 [some (.ref x),some v,none] H:=by
 refine zov hm ct rfl rfl S λH1 D=>?_;cases hs:stN es c with
 |false=>rw[rq (by rw[hs];decide)]at q;exact λC e=>q C H1 e D
 |true=>
  rw[rj hs]at q;obtain⟨s,n,rfl,hn,he,q⟩:=q;obtain⟨rfl,hok⟩:=S;refine⟨.str s,rfl,(ci▸(by decide:1<=16777216):[V.str s].length<=ay),λp L=>?_⟩;have G:=D.none L
  let T:=eK es n s
  let W:Nat->L2.St->Hp->Prop:=λm I f=>I=[some (.ref x),some (.str s),some (.ref p)]/\∃F t,(∀b o,b≠p->H1 b=some o->f b=some o)/\f p=some (.lst ((F++[t]).map V.str))/\(∀u∈F++[t],PyData.strOk u=true)/\aR es m t=true/\T=F++eK es m t/\F.length+m<=n
  have bZ:∀f,(∀b o,b≠p->H1 b=some o->f b=some o)->Crt Z.K CC f x dx d kvs es:=λf k=>by
   have c1:=ct.same D;refine⟨k _ _ (Ne.symm (by rintro rfl;have:=(ct.same D).ins;rw[L]at this;cases this)) c1.ins,k _ _ (Ne.symm (by rintro rfl;have:=(ct.same D).fH;rw[L]at this;cases this)) c1.fH,aV.keep (λb o e z=>k b o ?_ e) (λ_ z=>z) _ c1.re⟩
   rintro rfl
   rw[L]at e;cases e
  refine⟨W,⟨n,rfl,[],s,λb o M e=>by rw[aE M];exact e,bF,λu hu=>by rw[bf.mp hu];exact hok,he,rfl,by simp⟩,?_⟩
  rintro m I f ⟨rfl,F,t,O,h,j,g,U,X⟩
  have P:=bZ f O;have big:ay>3000:=by rw[ci];decide
  have look:(z0d es (.str t)=some .none/\eK es m t=[t])\/∃a i,m=i+1/\z0d es (.str t)=some (.str a)/\aR es i a=true/\eK es m t=t::eK es i a:=by
   cases m with
   |zero=>
    unfold aR at g;split at g
    ·rename_i e9;exact .inl ⟨e9,rfl⟩
    ·cases g
   |succ i=>
    unfold aR at g;split at g
    ·rename_i e;refine .inl ⟨e,?_⟩;show(match z0d es (.str t)with|some (.str a)=>t::eK es i a|_=>[t])=_;rw[e]
    ·rename_i a e;refine .inr ⟨a,i,rfl,e,g,?_⟩;show(match z0d es (.str t)with|some (.str a)=>t::eK es i a|_=>[t])=_;rw[e]
    ·cases g
  rcases look with⟨N,y⟩|⟨a,i,rfl,N,Q,y⟩
  ·refine zly ck P rfl rfl h j N rfl λA v l R=>⟨_,rfl,?_⟩;cases R;refine⟨.ref p,rfl,q A p (λb o e=>?_) G ?_⟩
   ·refine l b o (O b o ?_ (D b o e))
    rintro rfl;rw[G]at e;cases e
   ·show A p=some (.lst (T.map V.str));rw[U,y];exact l _ _ h
  ·have V1:∀A,Same f A->∀v,Rep Z.K A NoB v (.str a)->v=.str a/\PyData.strOk a=true:=λA l v r=>r;refine zly ck P rfl rfl h j N rfl λA v l R=>⟨_,rfl,?_⟩;obtain⟨rfl,J⟩:=R;refine⟨W i,λSq pU w=>⟨i,g7 _,w⟩,?_⟩;refine⟨.ref p,rfl,?_,?_⟩
   ·exact .inl ⟨rfl,_,.inl (.inl (l _ _ h))⟩
   ·refine zly ck (P.same l) rfl rfl (l _ _ h) j N rfl λH3 v s3 r3=>?_;obtain⟨rfl,_⟩:=r3;refine⟨p,_,.str a,rfl,rfl,s3 _ _ (l _ _ h),?_,rfl,F++[t],a,λb o M e=>?_,?_,λu hu=>?_,Q,?_,?_⟩
    ·simp;omega
    ·rw[aE M];exact s3 b o (l b o (O b o M e))
    ·rw[bF];simp
    ·rcases b6.mp hu with hu|hu
     ·exact j u hu
     ·rw[bf.mp hu];exact J
    ·rw[U,y];simp
    ·simp;omega
def z0h:aY->List D->Option aY
 |es,[]=>some es
 |es,p::ps=>match p with
  |.tuple [c,a]=>if iB es c a then z0h (es++[(c,a)]) ps else none
  |_=>none
def isPr:D->Bool
 |.tuple [_,_]=>true
 |_=>false
def t8 (K:W.Frag)(CC:Addr)(mg:Str->Option Value)(H:Hp)(x dx:Addr)(ps:List D)(Q:Hp->Prop)(E:XK):Prop:=
 match z0h [] ps with
 |some es=>∀H' d kvs,H d=none->(∀b o,b≠x->H b=some o->H' b=some o)->Crt K CC H' x dx d kvs es->Q H'
 |none=>∀C H',mg "NoCourt"=some (.ref C)->(∀b o,b≠x->H b=some o->H' b=some o)->E (.ref C) none H'
def za9 (K:W.Frag)(CC:Addr)(mg:Str->Option Value):Sp:=λvs H Q E=>∃x dx vp ps B,vs=[.ref x,vp]/\H x=some (.ins CC dx [])/\Rep K H B vp (.list ps)/\imms ps=true/\(ps.all isPr)=true/\ps.length<1000/\t8 K CC mg H x dx ps (λH'=>Q .aK H') E
theorem zhp (ck:CrtK Z.K CC)(hm:Z.me[1]?=some (CC,("found":Str),z99 Z.K CC Z.mg))(F:H x=some (.ins CC dx []))(rp:Rep Z.K H B vp (.list ps))(hi:imms ps=true)(hpr:(ps.all isPr)=true)(hz:ps.length<1000)
  (q:t8 Z.K CC Z.mg H x dx ps (λu=>∀r,D0.nx r u) Z.E):wS Z Ct.init D0 [some (.ref x),some vp,none,none] H:=by
 refine λd hd=>?_;have N:d≠x:=by rintro rfl;rw[hd]at F;cases F
 refine⟨.ref x,rfl,x,CC,dx,[],rfl,(aE (Ne.symm N)▸F),ck.cls,ck.na,by decide,?_⟩
 let H1:Hp:=upd (upd H d (.dK [])) x (.ins CC dx [("aboves",.ref d)])
 have O:∀b o,b≠x->H b=some o->H1 b=some o:=λb o L e=>by
  have:b≠d:=by rintro rfl;rw[hd]at e;cases e
  show upd _ _ _ _=_;rw[aE L,aE this];exact e
 have c1:Crt Z.K CC H1 x dx d [] []:=⟨bF,by show upd _ _ _ _=_;rw[aE N,bF],rfl⟩
 let P:Fm:=⟨λb=>if b=d\/b=x then none else H1 b,λ_=>True,λ_=>none,True⟩
 obtain⟨l,vs,rfl,s,rs⟩:=rp;have Q:∀b,b≠d->b≠x->∀o,H1 b=some o->eA P (some b):=λb h1 h2 o e=>by refine⟨?_,trivial⟩;show(if b=d\/b=x then none else H1 b)≠none;rw[rq (λz=>z.elim h1 h2),e];intro z;cases z
 have rl:Rep Z.K H1 (eA P) (.ref l) (.list ps):=by
  have R:Reps Z.K H1 (eA P) vs ps:=Reps.fM (λa o e f=>O a o (by rintro rfl;rw[F]at e;cases e;exact f) e) ps hi rs;rcases s with⟨s,_⟩|⟨s,_⟩
  ·have A:l≠x:=by rintro rfl;rw[s]at F;cases F
   exact⟨l,vs,rfl,.inl ⟨O l _ A s,Q l (by rintro rfl;rw[s]at hd;cases hd) A _ (O l _ A s)⟩,R⟩
  ·refine⟨l,vs,rfl,.inr ⟨?_,trivial⟩,R⟩;rcases s with⟨o,s⟩|s
   ·have A:l≠x:=by rintro rfl;rw[s]at F;cases F
    exact .inl ⟨o,O l _ A s⟩
   ·exact .inr s
 have za:StOk Z.K P H1 [some (.ref x),some (.ref l),none,none] [none,some (.od,.list ps),none,none]:=by
  refine⟨λa o e=>?_,λ_ _=>trivial,λa i e=>(by cases e),rfl,λi g d' e=>?_⟩
  ·have e:(if a=d\/a=x then none else H1 a)=some o:=e;split at e
   ·cases e
   ·exact e
  ·rcases i with _|_|_|_|i<;>cases e;exact⟨_,rfl,rl⟩
 refine⟨_,P,(.od,ps),za,rfl,λJ B' H2 s2 hB wk=>?_⟩
 have kp:∀{t:Hp},(∀b o,b≠d->H2 b=some o->t b=some o)->Kp B' H2 t:=λ{t} k b o e z=>k b o (by
  rintro rfl
  rcases z with z|z
  ·exact(hB _ z).1.1 (by show(if b=b\/b=x then none else H1 b)=none;rw[rj (.inl rfl)])
  ·have :=s2 _ _ c1.fH;rw[e]at this;cases this;exact z) e
 let W:Nat->Nat->L2.St->Hp->Prop:=λi m r u=>m=ps.length-i/\i<=ps.length/\r.length=4/\r[0]?=some (some (.ref x))/\(∀b o,b≠d->H2 b=some o->u b=some o)/\∃kvs es,Crt Z.K CC u x dx d kvs es/\es.length=i/\z0h es (ps.drop i)=z0h [] ps
 refine⟨W,⟨_,rfl,cz _,rfl,rfl,λ_ _ _ e=>e,[],[],c1.same s2,rfl,rfl⟩,?_⟩
 rintro i m r u ⟨rfl,Co,S,Sr,T,kvs,es,ct,Su,n⟩
 have G:∀t,Same u t->∀b o,b≠x->H b=some o->t b=some o:=λt M b o L e=>M b o (T b o (by rintro rfl;rw[hd]at e;cases e) (s2 b o (O b o L e)));by_cases D:i<ps.length
 ·refine .inr ⟨wk.go u (kp T) i D,W (i+1) (ps.length-(i+1)),λuu t w=>⟨_,by omega,w⟩,λy t hy=>?_⟩;obtain⟨M,p,hp,ry⟩:=wk.gE u (kp T) i y t D hy;have Cp:ps.drop i=p::ps.drop (i+1):=by rw[gm D];rw[ae D]at hp;cases hp;rfl
  have I:=bx.mp hpr p (aq hp)
  obtain⟨c,a,rfl⟩:∃c a,p=.tuple [c,a]:=by
   unfold isPr at I;split at I
   ·exact⟨_,_,rfl⟩
   ·cases I
  refine⟨ax 4 none,F0 t,(.od,.tuple [c,a]),[none,none,some (z1d (gJ c .od,c)),some (z1d (gJ a .od,a))],pX (by rw[S,bw]) λj g d' e=>?_,ry.old,rfl,λSv F3 U V=>?_⟩
  ·rw[cr]at e;split at e<;>cases e
  have sl:∀j e,([none,none,some (z1d (gJ c .od,c)),some (z1d (gJ a .od,a))]:Rho)[j]?=some (some (z1d (gJ e .od,e)))->∃v,Sv[j]?=some (some v)/\Rep Z.K t AnyB v e:=λj e h=>by
   have h9:∀g,z1d (g,e)=(.od,e)\/z1d (g,e)=(.al,e):=λg=>by cases g<;>first|exact .inl rfl|exact .inr rfl
   rcases h9 (gJ e .od)with h8|h8
   ·rw[h8]at h;obtain⟨v,e1,r1⟩:=U.sl j _ _ h;exact⟨v,e1,Rep.weak (λ_ _=>trivial) r1⟩
   ·rw[h8]at h;obtain⟨v,e1,r1⟩:=U.sl j _ _ h;exact⟨v,e1,Rep.weak (λ_ _=>trivial) r1⟩
  obtain⟨vc,Sw,rc⟩:=sl 2 c rfl;obtain⟨va,Sx,ra⟩:=sl 3 a rfl;have X:=(V.rest 0 dc).trans Sr;rw[Cp]at n;have n:(if iB es c a=true then z0h (es++[(c,a)]) (ps.drop (i+1))else none)=z0h [] ps:=n;show wE Z (.dF _ 1 _) _ _ _;rw[D4 hm];have big:ay>3000:=by rw[ci];decide
  refine⟨.ref x,X,x,dx,_,rfl,(ct.same M).ins,rfl,vc,Sw,va,Sx,x,dx,d,kvs,es,vc,va,c,a,AnyB,rfl,ct.same M,rc,ra,by omega,?_⟩;by_cases ho:iB es c a=true
  ·rw[rj ho]at n ⊢;intro H4 Y k4 Sy;exact⟨rfl,D,V.len.trans S,X,λb o L e=>k4 b o L (M b o (T b o L e)),Y,_,Sy,by rw[av,Su];rfl,n⟩
  ·rw[rq ho]at n ⊢;intro C H4 hC s4;unfold t8 at q;rw[<-n]at q;exact q C H4 hC (G H4 (M.trans s4))
 ·have tL:i=ps.length:=by omega
  subst tL;refine .inl ⟨wk.stop u (kp T),?_⟩;rw[mo]at n;unfold t8 at q;rw[<-n]at q;exact q u d kvs hd (G u (Same.refl _)) ct r
namespace Ct
def ll:WS:=.seq (.asg 2 (.lst .nil)) (.seq (.uU (.ti true (.raw 1)) (.seq (.app (.raw 2) (.raw 1)) (.seq (.asg 1 (.uR (.raw 0) (.raw 1))) .nil))) (.seq (.ret (.raw 2)) .nil))
end Ct
theorem Sz (b:aR es m t=true):(z0d es (.str t)=some .none/\eK es m t=[t])\/∃a c,m=c+1/\z0d es (.str t)=some (.str a)/\aR es c a=true/\eK es m t=t::eK es c a:=by
 cases m with
 |zero=>
  unfold aR at b;split at b
  ·rename_i d;exact .inl ⟨d,rfl⟩
  ·cases b
 |succ c=>
  unfold aR at b;split at b
  ·rename_i d;refine .inl ⟨d,?_⟩;show(match z0d es (.str t)with|some (.str a)=>t::eK es c a|_=>[t])=_;rw[d]
  ·rename_i a d;refine .inr ⟨a,c,rfl,d,b,?_⟩;show(match z0d es (.str t)with|some (.str a)=>t::eK es c a|_=>[t])=_;rw[d]
  ·cases b
structure kN where
 c:Str
 f:List Str
 ms:List (Str×Stmt)
def rT (K:W.Frag)(C:Addr)(c:Str)(m:Str×Stmt):Option (dn×Bool):=match W.findIn K (.ref C) m.1 with
 |some (some (.ref p))=>(match K.lookup p with
  |some ⟨_,_,.func fd,_⟩=>some (fd,W.codeIn K fd.code (c++"."++m.1)&&W.keepIn K (.ref p)&&W.isFn K (.ref p))
  |_=>none)
 |_=>none
def Jm (c:Str)(m:Str×Stmt)(x:dn×Bool):dn×Bool:=(W.fnOf m.1 (c++"."++m.1) (z0p m.2) (z0f m.2) (z08 m.2) .none x.1.kwdefaults x.1.doc x.1.pyModule x.1.annotations x.1.code x.1.closureTuple,true)
def zN (K:W.Frag)(r:kN):Option (List Bool×Option (Option Value)×List (Option (Option Value))×List Bool×List (Option (dn×Bool))):=match W.nsIn K bp r.c with
 |some (some (.ref C))=>some ([W.plainGet K C Str.empty,W.hasDictIn K C,W.plainOver K C,W.makesIn K C,W.keepIn K (.ref C)],W.findIn K (.ref C) "__setattr__",r.f.map (λf=>W.findIn K (.ref C) f),r.ms.map (λm=>(rT K C r.c m).isSome),r.ms.map λm=>rT K C r.c m)
 |_=>none
def Jo (K:W.Frag)(r:kN):Option (List Bool×Option (Option Value)×List (Option (Option Value))×List Bool×List (Option (dn×Bool))):=match W.nsIn K bp r.c with
 |some (some (.ref C))=>some ([true,true,true,true,true],some (some (.builtin "object.__setattr__")),r.f.map (λ_=>some none),r.ms.map (λ_=>true),r.ms.map λm=>(rT K C r.c m).map (Jm r.c m))
 |_=>none
def KCq (K:d8->W.Frag)(r:kN):Prop:=∀P,((zN (K P) r).isSome,zN (K P) r)=(true,Jo (K P) r)
theorem KCq_r:KCq=KCq:=rfl
structure ClsAt (K:W.Frag)(r:kN)(C:Addr):Prop where
 ns:W.nsIn K bp r.c=some (some (.ref C))
 cls:Cls K C
 na:∀f∈r.f,z1x K C f
 Jp:W.makesIn K C=true
 kp:W.keepIn K (.ref C)=true
 ms:∀m∈r.ms,∃f fd,Fun K m.1 (r.c++"."++m.1) m.2 f fd/\Meth K C m.1 f
theorem SA {K:W.Frag}{C:Addr}(h:(rT K C c m).isSome=true)(e:rT K C c m=(rT K C c m).map (Jm c m)):∃f fd,Fun K m.1 (c++"."++m.1) m.2 f fd/\Meth K C m.1 f:=by
 cases z:rT K C c m with
 |none=>rw[z]at h;cases h
 |some x=>
  rw[z]at e;have e:=se e;unfold rT at z;split at z
  ·rename_i f hf;split at z
   ·rename_i oc od fd sl g;have z:=se z;have i:=congrArg mw z;have b:=congrArg rh z;have j:=congrArg mw e;have k:=congrArg rh e;rw[k]at b;obtain⟨a,l⟩:=au.mp b;obtain⟨a,d⟩:=au.mp a;subst i;exact⟨f,x.1,⟨⟨oc,od,x.1.kwdefaults,x.1.doc,x.1.pyModule,x.1.annotations,x.1.code,x.1.closureTuple,sl,j,g,a⟩,d⟩,⟨hf,l,d⟩⟩
   ·cases z
  ·cases z
theorem Jq {K:d8->W.Frag}(h:KCq K r)(P:d8):∃C,ClsAt (K P) r C:=by
 obtain⟨b,c⟩:=sf (h P);unfold zN Jo at c;unfold zN at b;split at c
 ·rename_i C i;obtain⟨a,d⟩:=sf (se c);obtain⟨d,e⟩:=sf d;obtain⟨e,g⟩:=sf e;obtain⟨g,j⟩:=sf g;obtain⟨k,a⟩:=List.cons.inj a;obtain⟨l,a⟩:=List.cons.inj a;obtain⟨n,a⟩:=List.cons.inj a;obtain⟨o,a⟩:=List.cons.inj a;obtain⟨p,_⟩:=List.cons.inj a;exact⟨C,i,⟨k,l,n,d⟩,λf hf=>c7.mp e f hf,o,p,λm hm=>SA (c7.mp g m hm) (c7.mp j m hm)⟩
 ·rename_i hn;split at b
  ·rename_i C i;simp_all
  ·cases b
end Mi
name_quick tkcq for Mi.KCq by Mi.KCq_r
namespace Mi
open PySem PySem.Spec PyProof.Rows L2
structure nG where
 c:Str
 fl:Str
 B:Str
 cs:List (Str×Bool)
 st:Stmt
abbrev XD:=List Bool×List (Option (Option Value))×List (Option Bool)×List (Option (Bool×Option Value×Option Bool))×dn
def Jr (K:W.Frag)(A:Addr)(y:Str×Bool):Option (Bool×Option Value×Option Bool):=match W.nsIn K bp y.1 with
 |some (some (.ref E))=>some ((W.clsIn K E).isSome,W.typeIn K (.ref E),W.subIn K (.ref A) (.ref E))
 |_=>none
def rV (K:W.Frag)(r:nG):Option XD:=match W.nsIn K bp r.c,W.nsIn K bp r.B with
 |some (some (.ref A)),some (some (.ref D))=>(match K.lookup A with
  |some ⟨.type "type",_,.cls cd,_⟩=>(match W.nsIn K cd.ns "__init__"with
   |some (some (.ref f))=>(match K.lookup f with
    |some ⟨_,_,.func fd,_⟩=>some ([fU K A,cd.hasDict,W.isFn K (.ref f),W.codeIn K fd.code (r.c++"."++"__init__"),fU K D,(W.clsIn K A).isSome,W.keepIn K (.ref f)],
     [W.findIn K (.ref A) "__setattr__",W.findIn K (.ref A) r.fl,W.findIn K (.ref A) "__getattribute__",W.findIn K (.ref A) "__getattr__",W.findIn K (.ref A) "__class__"],
     [W.subIn K (.ref A) (.type "object"),W.subIn K (.ref A) (.type "BaseException"),W.subIn K (.ref A) (.type "ValueError"),W.subIn K (.ref A) (.ref D)],r.cs.map (Jr K A),fd)
    |_=>none)
   |_=>none)
  |_=>none)
 |_,_=>none
def Js (r:nG)(x:XD):XD:=([true,true,true,true,true,true,true],[some (some (.builtin "object.__setattr__")),some none,some (some (.builtin "BaseException.__getattribute__")),some none,some (some (.builtin "object.__class__"))],[some true,some true,some true,some true],r.cs.map (λy=>some (true,some (.type "type"),some y.2)),W.fnOf "__init__" (r.c++"."++"__init__") (z0p r.st) (z0f r.st) (z08 r.st) .none x.2.2.2.2.kwdefaults x.2.2.2.2.doc x.2.2.2.2.pyModule x.2.2.2.2.annotations x.2.2.2.2.code x.2.2.2.2.closureTuple)
def Jt (K:W.Frag)(g:Str×Int):Option Int:=match W.nsIn K bp g.1 with
 |some (some (.int n _))=>some n
 |_=>none
def KXq (K:d8->W.Frag)(rs:List nG)(gs:List (Str×Int)):Prop:=∀P,(rs.map (λr=>(rV (K P) r).isSome),rs.map (λr=>rV (K P) r),gs.map (Jt (K P)))=(rs.map (λ_=>true),rs.map (λr=>(rV (K P) r).map (Js r)),gs.map λg=>some g.2)
theorem KXq_r:KXq=KXq:=rfl
structure XAt (K:W.Frag)(r:nG)(A D f:Addr)(fd:dn):Prop where
 ns:W.nsIn K bp r.c=some (some (.ref A))
 nb:W.nsIn K bp r.B=some (some (.ref D))
 xf:XF K A r.fl
 xa:XA K A
 xi:XI K A f
 fu:Fun K "__init__" (r.c++"."++"__init__") r.st f fd
 ed:fU K D=true
 sd:W.subIn K (.ref A) (.ref D)=some true
 sv:W.subIn K (.ref A) (.type "ValueError")=some true
 cs:∀y∈r.cs,∃E,W.nsIn K bp y.1=some (some (.ref E))/\(W.clsIn K E).isSome=true/\W.typeIn K (.ref E)=some (.type "type")/\W.subIn K (.ref A) (.ref E)=some y.2
theorem SD {K:W.Frag}(h:(rV K r).isSome=true)(e:rV K r=(rV K r).map (Js r)):∃A D f fd,XAt K r A D f fd:=by
 cases z:rV K r with
 |none=>rw[z]at h;cases h
 |some x=>
  rw[z]at e;have e:=se e;unfold rV at z;split at z
  ·rename_i A D t u;split at z
   ·rename_i dd cd sl d;split at z
    ·rename_i f hf;split at z
     ·rename_i oc od fd g i;have z:=se z;rw[<-z]at e;obtain⟨a,e⟩:=sf e;obtain⟨b,e⟩:=sf e;obtain⟨c,e⟩:=sf e;obtain⟨v,w⟩:=sf e;obtain⟨m,a⟩:=List.cons.inj a;obtain⟨B,a⟩:=List.cons.inj a;obtain⟨C,a⟩:=List.cons.inj a;obtain⟨F,a⟩:=List.cons.inj a;obtain⟨G,a⟩:=List.cons.inj a;obtain⟨H,a⟩:=List.cons.inj a;obtain⟨I,_⟩:=List.cons.inj a;obtain⟨J,b⟩:=List.cons.inj b;obtain⟨L,b⟩:=List.cons.inj b;obtain⟨n,b⟩:=List.cons.inj b;obtain⟨o,b⟩:=List.cons.inj b;obtain⟨M,_⟩:=List.cons.inj b;obtain⟨p,c⟩:=List.cons.inj c;obtain⟨s,c⟩:=List.cons.inj c;obtain⟨N,c⟩:=List.cons.inj c;obtain⟨O,_⟩:=List.cons.inj c;refine⟨A,D,f,fd,t,u,⟨m,λj k l q=>by rw[d]at q;cases q;exact B,J,L,n,o,p,s⟩,⟨M,n,o,p,s,?_,H,m⟩,⟨λj k l q=>by rw[d]at q;cases q;exact hf,C⟩,⟨⟨oc,od,fd.kwdefaults,fd.doc,fd.pyModule,fd.annotations,fd.code,fd.closureTuple,g,w,i,F⟩,I⟩,G,O,N,λy P=>?_⟩
      ·show(K.lookup A).map (·.cls)=_;rw[d];rfl
      ·have q:=c7.mp v y P;unfold Jr at q;split at q
       ·rename_i E Q;obtain⟨R,q⟩:=sf (se q);obtain⟨S,T⟩:=sf q;exact⟨E,Q,R,S,T⟩
       ·cases q
     ·cases z
    ·cases z
   ·cases z
  ·cases z
theorem SE {K:d8->W.Frag}(h:KXq K rs j)(P:d8):(∀r∈rs,∃A D f fd,XAt (K P) r A D f fd)/\∀g∈j,∃t,W.nsIn (K P) bp g.1=some (some (.int g.2 t)):=by
 obtain⟨c,a⟩:=sf (h P);obtain⟨a,d⟩:=sf a;refine⟨λr b=>SD (c7.mp c r b) (c7.mp a r b),λg i=>?_⟩;have q:=c7.mp d g i;unfold Jt at q;split at q
 ·rename_i n t e;cases q;exact⟨t,e⟩
 ·cases q
end Mi
name_quick tkxq for Mi.KXq by Mi.KXq_r
namespace Mi
open PySem PySem.Spec PyProof.Rows L2
def rW (K:W.Frag)(c:Str)(m:Str×Stmt):Option (dn×Bool×List Value):=match W.nsIn K bp c with
 |some (some (.ref C))=>(match W.findIn K (.ref C) m.1 with
  |some (some (.ref p))=>(match K.lookup p with
   |some ⟨_,_,.func fd,_⟩=>(match fd.defaults with
    |.ref T=>(match K.lookup T with
     |some ⟨_,_,.seq items _,_⟩=>some (fd,W.codeIn K fd.code (c++"."++m.1)&&W.keepIn K (.ref p)&&W.isFn K (.ref p),items.toList)
     |_=>none)
    |_=>none)
   |_=>none)
  |_=>none)
 |_=>none
def D6 (c:Str)(m:Str×Stmt)(x:dn×Bool×List Value):dn×Bool×List Value:=(W.fnOf m.1 (c++"."++m.1) (z0p m.2) (z0f m.2) (z08 m.2) x.1.defaults x.1.kwdefaults x.1.doc x.1.pyModule x.1.annotations x.1.code x.1.closureTuple,true,[.none])
def KDq (K:d8->W.Frag)(c:Str)(ms:List (Str×Stmt)):Prop:=∀P,(ms.map (λm=>(rW (K P) c m).isSome),ms.map (λm=>rW (K P) c m))=(ms.map (λ_=>true),ms.map λm=>(rW (K P) c m).map (D6 c m))
theorem KDq_r:KDq=KDq:=rfl
structure FunD (K:W.Frag)(x qual:Str)(st:Stmt)(T f:Addr)(fd:dn):Prop where
 ex:∃(oc:Value) (od:Option Addr) (kV doc pm:Value) (an:Option Addr) (cdv ct:Value) (osl:Array (Option Value)),fd=W.fnOf x qual (z0p st) (z0f st) (z08 st) (.ref T) kV doc pm an cdv ct/\K.lookup f=some ⟨oc,od,.func fd,osl⟩/\W.codeIn K cdv qual=true
 kp:W.keepIn K (.ref f)=true
 df:∃oc od n osl,K.lookup T=some ⟨oc,od,.seq #[.none] n,osl⟩
theorem SF {K:W.Frag}{C:Addr}(q:W.nsIn K bp c=some (some (.ref C)))(h:(rW K c m).isSome=true)(e:rW K c m=(rW K c m).map (D6 c m)):∃T f fd,FunD K m.1 (c++"."++m.1) m.2 T f fd/\Meth K C m.1 f:=by
 cases z:rW K c m with
 |none=>rw[z]at h;cases h
 |some x=>
  rw[z]at e;have e:=se e;unfold rW at z;rw[q]at z
  dsimp only at z
  split at z
  ·rename_i f hf;split at z
   ·rename_i oc od fd sl r;split at z
    ·rename_i T s;split at z
     ·rename_i a b items n d g;have z:=se z;have t:=congrArg mw z;have k:=congrArg (·.2.1) z;have o:=congrArg (·.2.2) z;have i:=congrArg mw e;have u:=congrArg (·.2.1) e;have v:=congrArg (·.2.2) e;rw[u]at k;rw[v]at o;obtain⟨j,w⟩:=au.mp k;obtain⟨j,p⟩:=au.mp j;subst t
      have y:items=#[.none]:=by
       cases items with
       |mk l=>cases o;rfl
      subst y;unfold D6 at i;rw[s]at i;exact⟨T,f,x.1,⟨⟨oc,od,x.1.kwdefaults,x.1.doc,x.1.pyModule,x.1.annotations,x.1.code,x.1.closureTuple,sl,i,r,j⟩,p,⟨a,b,n,d,g⟩⟩,⟨hf,w,p⟩⟩
     ·cases z
    ·cases z
   ·cases z
  ·cases z
theorem SG {K:d8->W.Frag}(h:KDq K c ms)(P:d8){C:Addr}(a:W.nsIn (K P) bp c=some (some (.ref C))):∀m∈ms,∃T f fd,FunD (K P) m.1 (c++"."++m.1) m.2 T f fd/\Meth (K P) C m.1 f:=λm hm=>by obtain⟨b,d⟩:=sf (h P);exact SF a (c7.mp b m hm) (c7.mp d m hm)
section
variable {K:W.Frag}{x qual:Str}{st:Stmt}{T f:Addr}{fd:dn}{ps:List Str}
theorem FunD.binds (F:FunD K x qual st T f fd)
  (h:∀kV a d an b ct c,c.length+1=ps.length->∃k,n0 (W.fnOf x qual (z0p st) (z0f st) (z08 st) (.ref T) kV a d an b ct) ⟨c,[]⟩=seqItems? (.ref T)>>=k/\k (some #[.none])=pure (ps.zip (c++[.none]))):Binds K fd ps [.none]:=λs c g i=>by
 obtain⟨oc,od,kV,a,d,an,b,ct,j,rfl,t,l⟩:=F.ex;obtain⟨m,o,n,e,p⟩:=F.df;obtain⟨k,q,r⟩:=h kV a d an b ct c (by rw[<-i,av];rfl);exact W.binds_K g rfl p rfl q r
end
end Mi
name_quick tkdq for Mi.KDq by Mi.KDq_r
namespace Mi
open PySem PySem.Spec PyProof.Rows L2
section
variable {K:W.Frag}
theorem Reps.D7 (h:H l=some (.lst d))(r:Reps K H NoB b c):Reps K (upd H l (.lst f)) NoB b c:=
 Reps.keep (λa o e z=>by
  rw[aE]
  ·exact e
  ·rintro rfl
   rw[h]at e;cases e;exact z.elim id id) (λ_ z=>z) _ r
theorem zho {H:Type}{L:List H}{e:H->D}{p:H->Bool}{f:H->D}{g:TG}{tc:TT}{te:TE}{I:L2.St->L2.St}{Q:VK}(O:Walk K J B H1 (L.map e))
  (one:∀a∈L,∀v r (N:Hp->Prop) M,Same H1 r->Rep K r B v (e a)->(p a=false->∀h,Same r h->N h)->(p a=true->∀y h,Same r h->Rep K h NoB y (f a)->M y h)->g v (I σ) r λj R=>fL (I σ) j/\tc j R λb E=>if b=true then te j E M else N E)
  (q:∀l Y h,H1 l=none->Same H1 h->h l=some (.lst Y)->Reps K h NoB Y ((L.filter p).map f)->Q (.ref l) h):
  ∀l,H1 l=none->∃P:Nat->Nat->List V->Hp->Prop,(∃m,P 0 m [] (upd H1 l (.lst [])))/\∀i m c n,P i m c n->(J.stop i n/\Q (.ref l) n)\/(J.go i n/\c.length<ay/\∃N:List V->Hp->Prop,(∀s h,N s h->∃Z,Z<m/\P (i+1) Z s h)/\∀x r,J.gE i n x r->g x (I σ) r λj R=>fL (I σ) j/\tc j R λb E=>if b=true then te j E λy H6=>H6 l=some (.lst c)/\N (c++[y]) (upd H6 l (.lst (c++[y])))else N c E):=by
 intro l S
 let P:Nat->Nat->List V->Hp->Prop:=λi m c n=>m=L.length-i/\i<=L.length/\Same H1 n/\n l=some (.lst c)/\Reps K n NoB c (((L.take i).filter p).map f)
 refine⟨P,⟨_,rfl,cz _,Same.upd S,bF,rfl⟩,?_⟩
 rintro i m c n ⟨rfl,hi,u,t,F⟩
 have T:(L.map e).length=L.length:=am ..;by_cases k:i<L.length
 ·have U:c.length<ay:=by
   have h1:=F.length;have h2:=O.len;rw[am]at h1;have h3:=dh p (L.take i);rw[dw]at h3;omega
  have tk:L.take (i+1)=L.take i++[L[i]]:=by rw[j5,ae k];rfl
  refine .inr ⟨O.go n (Kp.of u) i (T▸k),U,P (i+1) (L.length-(i+1)),λs h w=>⟨_,by omega,w⟩,λx r hy=>?_⟩;obtain⟨A,d,hd,rx⟩:=O.gE n (Kp.of u) i x r (T▸k) hy;rw[ar,ae k]at hd;cases hd;refine one L[i] (ei k) x r _ _ (u.trans A) rx (λW h C=>?_) λW y h C ry=>?_
  ·refine⟨rfl,k,u.trans (A.trans C),C _ _ (A _ _ t),?_⟩;rw[tk,jp,jy (by rw[W];decide),List.filter_nil,dm];exact F.same (A.trans C) λ_ z=>z
  ·have G:=C _ _ (A _ _ t);refine⟨G,rfl,k,λb o eb=>?_,bF,?_⟩
   ·rw[aE (bK eb S)];exact C b o (A b o (u b o eb))
   ·rw[tk,jp,jx W,cv];exact Reps.D7 G ((F.same (A.trans C) λ_ z=>z).append (Reps.cons ry rfl))
 ·have X:i=L.length:=by omega
  subst X;refine .inl ⟨by rw[<-T];exact O.stop n (Kp.of u),q l c n S u t ?_⟩;rw[gg]at F;exact F
theorem zeo (r:Rep K H B v d)(b:i<σ.length)
  (q:∀a w,a.length=σ.length->a[i]?=some (some w)->Rep K H AnyB w d->(∀j,j≠i->a[j]?=σ[j]?)->Q a H):tDG K (.nm i) v σ H Q:=by
 refine⟨ax σ.length none,F0 H,(.od,d),(ax σ.length none).set i (some (z1d (.od,d))),pX (by rw[bw]) λj g l e=>?_,r.old,rfl,λa m so kp=>?_⟩
 ·rw[cr]at e;split at e<;>cases e
 ·have c:((ax σ.length none).set i (some (z1d (G.od,d))))[i]?=some (some (z1d (G.od,d))):=by
   rw[ce];rw[bw];exact b
  obtain⟨w,f,h⟩:=so.sl i _ _ c;exact q a w kp.len f (h.weak λ_ _=>trivial) λj k=>kp.rest j (by simpa[tgIx]using k)
theorem ztn (r:Rep K H B v (.tuple [a,b]))(n:i<σ.length)(o:j<σ.length)(l:i≠j)
  (q:∀c u w,c.length=σ.length->c[i]?=some (some u)->c[j]?=some (some w)->Rep K H AnyB u a->Rep K H AnyB w b->(∀k,k≠i->k≠j->c[k]?=σ[k]?)->Q c H):tDG K (.tp [i,j]) v σ H Q:=by
 have p:∀g e,z1d (g,e)=(.od,e)\/z1d (g,e)=(.al,e):=λg e=>by cases g<;>first|exact .inl rfl|exact .inr rfl
 refine⟨ax σ.length none,F0 H,(.od,.tuple [a,b]),((ax σ.length none).set i (some (z1d (gJ a .od,a)))).set j (some (z1d (gJ b .od,b))),pX (by rw[bw]) λj g z e=>?_,r.old,rfl,λc A so kp=>?_⟩
 ·rw[cr]at e;split at e<;>cases e
 ·have sl:∀k e g,(((ax σ.length none).set i (some (z1d (gJ a .od,a)))).set j (some (z1d (gJ b .od,b))))[k]?=some (some (z1d (g,e)))->∃v,c[k]?=some (some v)/\Rep K H AnyB v e:=fun k e g h=>by
   rcases p g e with m|m
   ·rw[m]at h;obtain⟨v,d,f⟩:=so.sl k _ _ h;exact⟨v,d,f.weak λ_ _=>trivial⟩
   ·rw[m]at h;obtain⟨v,d,f⟩:=so.sl k _ _ h;exact⟨v,d,f.weak λ_ _=>trivial⟩
  obtain⟨u,d,f⟩:=sl i a _ (by rw[bv (Ne.symm l),ce];rw[bw];exact n);obtain⟨w,s,t⟩:=sl j b _ (by rw[ce];rw[cn,bw];exact o);exact q c u w kp.len d s f t λk x y=>kp.rest k (by simpa[tgIx]using⟨x,y⟩)
end
section
variable {Z:Wc}{σ:L2.St}{H:Hp}
theorem zO:StOk Z.K (F0 H) H σ (ax σ.length none):=pX (by rw[bw]) λi g d e=>by rw[cr]at e;split at e<;>cases e
theorem kO (q:∀a,Same H a->Q (.int n) a):wE Z (.bD (.int n)) σ H Q:=⟨_,F0 H,(.fr,.int n),zO,rfl,λv H1 b r=>by cases r;exact q H1 b⟩
theorem Ju (q:∀a,Same H a->Q .aK a):wE Z (.bD .aK) σ H Q:=⟨_,F0 H,(.fr,.none),zO,rfl,λv H1 b r=>by cases r;exact q H1 b⟩
theorem kP (c:PyData.strOk x=true)(q:∀a,Same H a->Q (.str x) a):wE Z (.bD (.str x)) σ H Q:=⟨_,F0 H,(.fr,.str x),zO,rfl,λv H1 b r=>by cases r.1;exact q H1 b⟩
theorem nH {K:W.Frag}(d:Rep K H B x dx)(f:Rep K H B' y dy)(e:cmpD c dx dy=.ok b)(q:∀a,Same H a->Q (.bl b) a):jO K (mB (cmpD c)) x y H Q:=⟨B,B',dx,dy,.bool b,d,f,by show(cmpD c dx dy>>=λb=>Res.ok (PyData.bool b))=_;rw[e];rfl,λw a s r=>by cases r;exact q a s⟩
theorem iN {K:W.Frag}(a:Rep K H B x dx)(e:eO dx (.int i)=.ok d)(q:∀w,Rep K H B w d->Q w H):iY K x (.int i) H Q:=⟨B,AnyB,dx,.int i,d,a,rfl,e,q⟩
theorem zP (h:Z.fn[j]?=some (spD Z.K n m))(q:wA Z as σ H λa H1=>spD Z.K n m a H1 Q Z.E):wE Z (.jS j as) σ H Q:=by show(match Z.fn[j]? with|some b=>nU b [] Z.E (wA Z as)|none=>fX) σ H Q;rw[h];show wA Z as σ H λa H1=>spD Z.K n m (a++[]) H1 Q Z.E;simpa only[dm]using q
theorem SH (h:Z.xf=some y)(q:Q y H):wE Z (.jF f) σ H Q:=by show(match Z.xf with|some v=>(λ_ H Q=>Q v H:TE)|none=>fX) σ H Q;rw[h];exact q
theorem Jv (so:StOk Z.K (F0 H) H σ ρ)(e:aJ Z.Κ Z.Φ c ρ=.ok (g,d))(q:∀v a,Same H a->Rep Z.K a AnyB v d->Q v a):wE Z (.bD c) σ H Q:=⟨ρ,F0 H,(g,d),so,e,λv a s r=>q v a s (r.weak λ_ _=>trivial)⟩
theorem SI (so:StOk Z.K (F0 H) H σ a)(e:dG Z.Κ Z.Φ c a=.ok b)(q:∀d,Same H d->R b d):wT Z (.tp c) σ H R:=⟨a,F0 H,b,so,e,q⟩
theorem jB (q:wE Z a σ H λx H1=>wE Z b σ H1 λy c=>iY Z.K x y c Q):wE Z (.ix a b) σ H Q:=q
theorem SJ (q:wE Z a σ H λx H1=>wE Z b σ H1 λy c=>vR Z.K x y c Q):wE Z (.uT a b) σ H Q:=q
theorem zQ (q:wE Z a σ H λx H1=>wE Z b σ H1 λy c=>jO Z.K (mB (cmpD d)) x y c Q):wE Z (.cmp d a b) σ H Q:=q
theorem aL (q:wE Z a σ H λx H1=>wA Z r σ H1 λb c=>R (x::b) c):wA Z (.cons a r) σ H R:=q
theorem bQ (q:R [] H):wA Z .nil σ H R:=q
theorem aG (e:σ[i]?=some (some v))(q:Q v H):wE Z (.raw i) σ H Q:=⟨v,e,q⟩
theorem zR (q:wE Z a σ H λx H1=>wE Z b σ H1 λy c=>jO Z.K (mB (cmpD d)) x y c λz e=>∃k,z=.bl k/\R k e):wT Z (.tc d a b) σ H R:=q
theorem Jw (q:wT Z a σ H λc H1=>if c=true then wT Z b σ H1 R else R false H1):wT Z (.iA a b) σ H R:=q
theorem zS (q:wE Z a σ H λx b=>∃k,lP Z.K x b k/\R k b):wT Z (.lH a) σ H R:=q
theorem Jx (q:wE Z a σ H λx H1=>∃c,x=.bl c/\if c=true then wE Z b σ H1 Q else Q (.bl false) H1):wE Z (.and a b) σ H Q:=q
theorem pY (q:wA Z b σ H λa H1=>a.length<=ay/\∀p,H1 p=none->Q (.ref p) (upd H1 p (.tup a))):wE Z (.tup b) σ H Q:=q
theorem xF (q:wA Z b σ H λa H1=>a.length<=ay/\∀p,H1 p=none->Q (.ref p) (upd H1 p (.lst a))):wE Z (.lst b) σ H Q:=q
theorem iC {C:Addr}(h:Z.me[j]?=some (C,m,b))(q:wE Z o σ H λx H1=>∃a dx fs,x=.ref a/\H1 a=some (.ins C dx fs)/\fs.lookup m=none/\wA Z as σ H1 λc d=>b (x::(c++[])) d Q Z.E):wE Z (.dF o j as) σ H Q:=by rw[D4 h];exact q
theorem SK {C:Addr}(h:Z.md[j]?=some (C,m,a)):wE Z (.mZ o j as)=jI C m a [.aK] Z.E (wE Z o) (wA Z as):=by show(match Z.md[j]? with|some r=>jI r.1 r.2.1 r.2.2 [.aK] Z.E (wE Z o) (wA Z as)|none=>fX)=_;rw[h]
theorem xG {C:Addr}(h:Z.md[j]?=some (C,m,b))(q:wE Z o σ H λx H1=>∃a dx fs,x=.ref a/\H1 a=some (.ins C dx fs)/\fs.lookup m=none/\wA Z as σ H1 λc d=>b (x::(c++[.aK])) d Q Z.E):wE Z (.mZ o j as) σ H Q:=by rw[SK h];exact q
theorem Jy (q:wE Z it σ H (DQ Z.K en λJ H1=>∀l,H1 l=none->∃P:Nat->Nat->List V->Hp->Prop,(∃m,P 0 m [] (upd H1 l (.lst [])))/\∀i m a g,P i m a g->(J.stop i g/\Q (.ref l) g)\/(J.go i g/\a.length<ay/\∃N:List V->Hp->Prop,(∀d h,N d h->∃j,j<m/\P (i+1) j d h)/\∀x k,J.gE i g x k->tDG Z.K t x (eU n o σ) k λf s=>fL (eU n o σ) f/\wT {Z with E:=λ_ _ _=>False,xf:=none} c f s λb p=>if b=true then wE {Z with E:=λ_ _ _=>False,xf:=none} e f p λy r=>r l=some (.lst a)/\N (a++[y]) (upd r l (.lst (a++[y])))else N a p))):wE Z (.lc n o N' t en it c e) σ H Q:=q
end
mutual
theorem tM:∀(d:ao) (n:Nat),bE n d=true->PyData.eqv d d=true
 |.none,_,_=>rfl
 |.bool b,_,_=>by cases b<;>rfl
 |.int i,_,_=>by rw[PyData.eqv];exact si rfl
 |.str s,_,_=>by rw[PyData.eqv];exact beq_self_eq_true s
 |.tuple xs,0,h=>by cases h
 |.list xs,0,h=>by cases h
 |.tuple xs,n+1,h=>by rw[PyData.eqv];exact ua xs n h
 |.list xs,n+1,h=>by rw[PyData.eqv];exact ua xs n h
 |.dict es,n,h=>by cases n<;>cases h
theorem ua:∀(ds:List ao) (n:Nat),fR n ds=true->PyData.eqvAll ds ds=true
 | [],_,_=>rfl
 |d::ds,n,h=>by obtain⟨h1,h2⟩:=au.mp h;rw[PyData.eqvAll,tM d n h1,ua ds n h2];rfl
end
theorem zT (h:bE 40 d=true):cmpD .NotEq d d=.ok false:=by show(if(bE 40 d&&bE 40 d)=true then Res.ok (!dZ d d)else Res.no)=_;rw[h,show dZ d d=true from tM d 40 h];rfl
abbrev En:=Str×Str×D
def iO (e:En):D:=.tuple [.str e.1,.str e.2.1,e.2.2]
structure Hd where
 es:aY
 en:List En
 ft:List (List D)
 ld:Option Int
def Hd.at (h:Hd)(k:Nat):En:=h.en.getD k ("","",.none)
def Hd.fa (h:Hd)(k:Nat):List D:=h.ft.getD k []
def SM:Option Int->D
 |none=>.none
 |some n=>.int n
structure Ha where
 dx:Addr
 c:Addr
 dc:Addr
 d:Addr
 le:Addr
 lf:Addr
 kvs:List (Key×V)
 as:List Addr
def Ha.own (A:Ha)(x:Addr)(b:Addr):Prop:=b=x\/b=A.d\/b=A.le\/b=A.lf\/b∈A.as
def xH (K:W.Frag)(H:Hp)(as:List Addr)(ft:List (List D)):Prop:=as.length=ft.length/\∀(k:Nat) a,as[k]?=some a->∃ws,H a=some (.lst ws)/\Reps K H NoB ws (ft.getD k [])
structure Hou (K:W.Frag)(HC CC:Addr)(H:Hp)(x:Addr)(A:Ha)(h:Hd):Prop where
 ins:∃vd,H x=some (.ins HC A.dx [("courts",.ref A.c),("entries",.ref A.le),("fates",.ref A.lf),("last_day",vd)])/\Rep K H NoB vd (SM h.ld)
 bZ:Crt K CC H A.c A.dc A.d A.kvs h.es
 ent:∃vs,H A.le=some (.lst vs)/\Reps K H NoB vs (h.en.map iO)
 kQ:H A.lf=some (.lst (A.as.map V.ref))
 dO:xH K H A.as h.ft
 nd:A.as.Nodup
 n1:A.le≠A.lf
 n2:A.le∉A.as
 n3:A.lf∉A.as
section
variable {K:W.Frag}{HC CC:Addr}{H H':Hp}{x:Addr}{A:Ha}{h:Hd}
theorem xH.keep (f:xH K H as ft)(c:∀a∈as,∀o,H a=some o->H' a=some o)(d:∀a o,H a=some o->Fix o->H' a=some o):xH K H' as ft:=⟨f.1,λk a e=>by obtain⟨g,h,r⟩:=f.2 k a e;exact⟨g,c a (aq e) _ h,Reps.keep (λb o e z=>d b o e (z.resolve_left id)) (λ_ z=>z) _ r⟩⟩
theorem Hou.keep (t:Hou K HC CC H x A h)(d:∀b o,A.own x b\/b=A.c->H b=some o->H' b=some o)(g:∀a o,H a=some o->Fix o->H' a=some o):Hou K HC CC H' x A h:=by have f:∀a o,H a=some o->(NoB (some a)\/Fix o)->H' a=some o:=λb o e z=>g b o e (z.resolve_left id);obtain⟨i,j,k⟩:=t.ins;obtain⟨l,m,n⟩:=t.ent;exact⟨⟨i,d _ _ (.inl (.inl rfl)) j,Rep.keep f (λ_ z=>z) _ k⟩,⟨d _ _ (.inr rfl) t.bZ.ins,d _ _ (.inl (.inr (.inl rfl))) t.bZ.fH,aV.keep f (λ_ z=>z) _ t.bZ.re⟩,⟨l,d _ _ (.inl (.inr (.inr (.inl rfl)))) m,Reps.keep f (λ_ z=>z) _ n⟩,d _ _ (.inl (.inr (.inr (.inr (.inl rfl))))) t.kQ,t.dO.keep (λa p o e=>d a o (.inl (.inr (.inr (.inr (.inr p))))) e) g,t.nd,t.n1,t.n2,t.n3⟩
theorem Hou.same (t:Hou K HC CC H x A h)(s:Same H H'):Hou K HC CC H' x A h:=t.keep (λb o _ e=>s b o e) λa o e _=>s a o e
theorem Hou.gT (t:Hou K HC CC H x A h):Rep K H AnyB (.ref A.le) (.list (h.en.map iO)):=by obtain⟨a,b,c⟩:=t.ent;exact⟨_,a,rfl,.inl ⟨b,trivial⟩,c.weak λ_ z=>z.elim⟩
theorem Hou.D8 (t:Hou K HC CC H x A h):Rep K H AnyB (.ref A.lf) (.list (h.ft.map .list)):=by refine⟨_,_,rfl,.inl ⟨t.kQ,trivial⟩,ze (by rw[am,am];exact t.dO.1) λi v d b c=>?_⟩;rw[ar]at b c;obtain⟨a,e,rfl⟩:=bn.mp b;obtain⟨f,hf,rfl⟩:=bn.mp c;obtain⟨g,j,r⟩:=t.dO.2 i a e;rw[aa,hf]at r;exact⟨a,g,rfl,.inl ⟨j,trivial⟩,r.weak λ_ z=>z.elim⟩
end
structure dY where
 G:D->Prop
 sd:List D->D->Bool
 ag:D->D->Bool
 s0:∀f,sd f .none=(f.length==1)
 dy:D->Bool
 d0:dy .none=true
 sh:∀r,G r->bE 39 r=true
def D9 (r:D):Bool:=imm r&&bE 39 r
def Jz (f:List D):Prop:=1<=f.length/\f.length<=2/\∀r∈f,D9 r=true
def ln (es:aY)(s:Str):List Str:=eK es 999 s
def z2c (es:aY)(s:Str):Bool:=stN es (.str s)&&aR es 999 s
structure Hok (φ:dY)(h:Hd):Prop where
 len:h.ft.length=h.en.length
 big:h.en.length<=1000
 gd:∀e∈h.en,φ.G e.2.2/\imm e.2.2=true/\z2c h.es e.1=true
 fo:∀f∈h.ft,Jz f
section
variable (φ:dY)
def lJ (h:Hd)(w:Str)(dy:D):List Nat:=(bu h.en.length).filter λk=>((h.at k).2.1==w)&&φ.sd (h.fa k) dy
def eQ (h:Hd)(s w:Str)(dy:D):List Nat:=(lJ φ h w dy).filter λk=>(ln h.es s).contains (h.at k).1
def fll (h:Hd)(s w:Str)(r:D):List Nat:=(lJ φ h w .none).filter λk=>!((h.at k).1==s)&&(ln h.es (h.at k).1).contains s&&φ.ag (h.at k).2.2 r
def bar (h:Hd)(s w:Str)(r:D):Option Nat:=(eQ φ h s w .none).find? λk=>φ.ag (h.at k).2.2 r
end
def lK (ks:List Nat):List V:=ks.map λ(k:Nat)=>V.int (k:Int)
def z1g (ks:List Nat):List D:=ks.map λ(k:Nat)=>PyData.int (k:Int)
theorem rX {K:W.Frag}:∀{ks:List Nat},Reps K H B (lK ks) (z1g ks)
 | []=>rfl
 |k::ks=>Reps.cons rfl rX
theorem xI {K:W.Frag}:∀{ks:List Nat} {a:List V},Reps K H B a (z1g ks)->a=lK ks
 | [],_,r=>r
 |k::ks,_,r=>by obtain⟨v,t,rfl,b,c⟩:=r;rw[xI c,show v=V.int k from b];rfl
structure HouK (K:W.Frag)(HC:Addr):Prop where
 cls:Cls K HC
 a1:z1x K HC "courts"
 a2:z1x K HC "entries"
 a3:z1x K HC "fates"
 a4:z1x K HC "last_day"
namespace Hs
abbrev CO:W:=.iL (.raw 0) "courts"
abbrev EN:W:=.iL (.raw 0) "entries"
abbrev FA:W:=.iL (.raw 0) "fates"
def about:WS:=.seq (.ret (.lc 2 [0,1,2] ["k","entry","self","word","day"] (.tp [0,1]) true EN (.iA (.tc .Eq (.ix (.raw 1) (.bD (.int 1))) (.raw 3)) (.lH (.jS 0 (.cons (.ix (.iL (.raw 2) "fates") (.raw 0)) (.cons (.raw 4) .nil))))) (.raw 0))) .nil
def fY:WS:=.seq (.ret (.lc 1 [0] ["k","self"] (.nm 0) false (.raw 1) .nil (.ix (.ix (.iL (.raw 1) "entries") (.raw 0)) (.bD (.int 2))))) .nil
def iD:WS:=.seq (.asg 4 (.dF CO 0 (.cons (.raw 1) .nil))) (.seq (.ret (.lc 1 [0,4] ["k","self","line"] (.nm 0) false (.dF (.raw 0) 1 (.cons (.raw 2) (.cons (.raw 3) .nil))) (.tc .In (.ix (.ix (.iL (.raw 1) "entries") (.raw 0)) (.bD (.int 0))) (.raw 2)) (.raw 0))) .nil)
def book:WS:=.seq (.ret (.dF (.raw 0) 0 (.cons (.mZ (.raw 0) 0 (.cons (.raw 1) (.cons (.raw 2) .nil))) .nil))) .nil
def iE:WS:=.seq (.asg 4 (.ix EN (.raw 1))) (.seq (.ret (.and (.cmp .NotEq (.ix (.raw 4) (.bD (.int 0))) (.raw 2)) (.and (.cmp .In (.raw 2) (.dF CO 0 (.cons (.ix (.raw 4) (.bD (.int 0))) .nil))) (.jS 0 (.cons (.ix (.raw 4) (.bD (.int 2))) (.cons (.raw 3) .nil)))))) .nil)
def nI:WS:=.seq (.ret (.lc 1 [0,1,3] ["k","self","court","made"] (.nm 0) false (.dF (.raw 0) 0 (.cons (.raw 2) (.cons (.bD .aK) .nil))) (.lH (.dF (.raw 1) 1 (.cons (.raw 0) (.cons (.raw 2) (.cons (.raw 3) .nil))))) (.raw 0))) .nil
def eY:WS:=.seq (.exp (.dF CO 0 (.cons (.raw 1) .nil))) .nil
def fZ:WS:=.seq (.exp (.dF (.raw 0) 0 (.cons (.raw 2) .nil))) (.seq (.bU (.iA (.ti true (.iL (.raw 0) "last_day")) (.tc .Lt (.raw 1) (.iL (.raw 0) "last_day"))) (.seq (.kA "Late") .nil) .nil) .nil)
def dP:WS:=.seq (.asg 4 (.mZ (.raw 0) 0 (.cons (.raw 1) (.cons (.raw 2) .nil))))
 (.seq (.asg 5 (.jS 0 (.cons (.dF (.raw 0) 0 (.cons (.raw 4) .nil)) (.cons (.raw 3) .nil))))
 (.seq (.bU (.ti true (.raw 5)) (.seq (.xy "NotAllowed" "by" (.ix (.raw 4) (.raw 5))) .nil) .nil) .nil))
end Hs
section
variable {h:Hd}
theorem rY (a:HouK Z.K HC)(t:Hou Z.K HC CC H x A h)(h0:σ[i]?=some (some (.ref x)))(q:Q (.ref A.le) H):wE Z (.iL (.raw i) "entries") σ H Q:=by obtain⟨c,b,_⟩:=t.ins;exact⟨.ref x,h0,x,HC,A.dx,_,.ref A.le,rfl,b,a.cls,a.a2,rfl,q⟩
theorem D' (a:HouK Z.K HC)(t:Hou Z.K HC CC H x A h)(h0:σ[i]?=some (some (.ref x)))(q:Q (.ref A.lf) H):wE Z (.iL (.raw i) "fates") σ H Q:=by obtain⟨c,b,_⟩:=t.ins;exact⟨.ref x,h0,x,HC,A.dx,_,.ref A.lf,rfl,b,a.cls,a.a3,rfl,q⟩
theorem Ea (a:HouK Z.K HC)(t:Hou Z.K HC CC H x A h)(h0:σ[i]?=some (some (.ref x)))(q:Q (.ref A.c) H):wE Z (.iL (.raw i) "courts") σ H Q:=by obtain⟨d,b,_⟩:=t.ins;exact⟨.ref x,h0,x,HC,A.dx,_,.ref A.c,rfl,b,a.cls,a.a1,rfl,q⟩
theorem Hd.get (a:k<h.en.length):h.en[k]?=some (h.at k):=by unfold Hd.at;rw[aa,ae a];rfl
theorem Hd.pZ (a:k<h.ft.length):h.ft[k]?=some (h.fa k):=by unfold Hd.fa;rw[aa,ae a];rfl
theorem zU {k:Nat}(e:a[k]?=some d):eO (.list a) (.int k)=.ok d:=by
 have b:=(aw.mp e).1;show Res.dQ (bW a k)=_;have:bW a k=some d:=by unfold bW iG;rw[rj (by omega),rj (by omega)];rw[i3];exact e
 rw[this];rfl
theorem zV (a:k<h.en.length):eO (.list (h.en.map iO)) (.int k)=.ok (iO (h.at k)):=zU (by rw[ar,Hd.get a];rfl)
theorem SN (a:k<h.ft.length):eO (.list (h.ft.map .list)) (.int k)=.ok (.list (h.fa k)):=zU (by rw[ar,Hd.pZ a];rfl)
theorem eq_str (a b:Str):cmpD .Eq (.str a) (.str b)=.ok (a==b):=rfl
theorem ne_str (a b:Str):cmpD .NotEq (.str a) (.str b)=.ok (!(a==b)):=rfl
theorem zW:∀a:List Str,fR 40 (a.map PyData.str)=true
 | []=>rfl
 |x::a=>by rw[bj];show(true&&fR 40 (a.map PyData.str))=true;rw[zW a];rfl
theorem zX (a:Str)(c:List Str):cmpD .In (.str a) (.list (c.map .str))=.ok (c.contains a):=by
 show(if(true&&fR 40 (c.map PyData.str))=true then Res.ok ((c.map PyData.str).any λy=>dZ y (.str a))else Res.no)=_;rw[zW c,rj (show(true&&true)=true from rfl),List.any_map]
 have:(c.any λb=>b==a)=c.contains a:=by
  induction c with
  |nil=>rfl
  |cons b c d=>rw[gz,jn,d,show(b==a)=(a==b) by rw[jk,beq_iff_eq,beq_iff_eq,eq_comm]]
 exact congrArg Res.ok this
end
theorem Eb (c:a.length=(none::b).length)(h:∀k,k≠0->a[k]?=(none::b)[k]?):fL (none::b) a:=⟨c.symm,λi v e=>by rw[h i (by rintro rfl;cases e)];exact e⟩
theorem SO (c:a.length=(none::none::b).length)(h:∀k,k≠0->k≠1->a[k]?=(none::none::b)[k]?):fL (none::none::b) a:=⟨c.symm,λi v e=>by rw[h i (by rintro rfl;cases e) (by rintro rfl;cases e)];exact e⟩
theorem SQ (es:List En):z2d 0 (es.map iO)=(bu es.length).map λ(i:Nat)=>PyData.tuple [.int i,iO (es.getD i ("","",.none))]:=by
 apply gw;intro i;rw[CL,ar,ar];by_cases a:i<es.length
 ·rw[ae a];simp[aa,a]
 ·rw[fg (by omega),fg (by grind)];rfl
theorem SR (es:List En)(h:es.length<=1000):seqR (.list (es.map iO))=.ok (es.map iO):=by show(if decide ((es.map iO).length<=aS)=true then Res.ok (es.map iO)else Res.no)=_;rw[rj];rw[am];exact si (bq h dc)
def StS (φ:dY)(K:W.Frag)(sp:Sp):Prop:=∃m,sp=spD K 2 m/\∀f d,φ.dy d=true->Jz f->∃g,m [.list f,d]=.ok (g,.bool (φ.sd f d))
def AgS (φ:dY)(K:W.Frag)(sp:Sp):Prop:=∃m,sp=spD K 2 m/\∀r s,φ.G r->φ.G s->∃g,m [r,s]=.ok (g,.bool (φ.ag r s))
def xJ:Option Nat->D
 |none=>.none
 |some k=>.int k
def BrS (φ:dY)(K:W.Frag)(sp:Sp):Prop:=∃m,sp=spD K 2 m/\∀(rs:List D) s,rs.length<=1000->(∀r∈rs,φ.G r)->φ.G s->∃g,m [.list rs,s]=.ok (g,xJ (rs.findIdx? λr=>φ.ag r s))
theorem zce {vw:V}(y:HouK Z.K HC)(I:Z.fn[0]?=some L)(hs:StS φ Z.K L)(t:Hou Z.K HC CC H x A h)(ok:Hok φ h)(e:Rep Z.K H B vw (.str w))(rd:Rep Z.K H B vd dy)(hd:φ.dy dy=true)
  (q:∀b p,Same H b->H p=none->b p=some (.lst (lK (lJ φ h w dy)))->D0.rt (.ref p) b):wS Z Hs.about D0 [some (.ref x),some vw,some vd] H:=by
 obtain⟨m,rfl,hm⟩:=hs;refine rY y t rfl ⟨AnyB,.list (h.en.map iO),h.en.map iO,t.gT,SR _ ok.big,λJ f=>?_⟩;have f:Walk Z.K J AnyB H ((bu h.en.length).map λ(i:Nat)=>PyData.tuple [.int i,iO (h.at i)]):=by have:=f;rw[SQ]at this;exact this
 refine zho (p:=λk=>((h.at k).2.1==w)&&φ.sd (h.fa k) dy) f (λk j v H3 N M n O hN P=>?_) λl ys b o Q R S=>q b l Q o (R▸congrArg (λz=>some (HO.lst z)) (xI S));have c:=d6.mp j;refine ztn (σ:=[none,none,some (.ref x),some vw,some vd]) O (by simp) (by simp) dc λT u U o C W X r rest=>⟨SO o rest,?_⟩;refine⟨U,W,kO λH4 a=>iN (r.same a λ_ z=>z) rfl λw2 r2=>⟨vw,rest 3 dc dc,nH r2 (e.same (n.trans a) λ_ z=>z) (eq_str _ _) λH5 d=>⟨_,rfl,?_⟩⟩⟩;cases s:((h.at k).2.1==w)with
 |false=>exact hN (by rw[s];rfl) H5 (a.trans d)
 |true=>
  have D:=t.same (n.trans (a.trans d));refine zP I ?_;cases X;refine aL (jB (D' y D (rest 2 dc dc) (aG C ?_)));obtain⟨g,hg⟩:=hm (h.fa k) dy hd (ok.fo _ (aq (Hd.pZ (ok.len▸c))));refine iN D.D8 (SN (ok.len▸c)) λw3 r3=>aL (aG (rest 4 dc dc) ⟨AnyB,[.list (h.fa k),dy],_,rfl,Reps.cons r3 (Reps.cons (rd.same (n.trans (a.trans d)) λ_ _=>trivial) rfl),hg,λv6 E F r6=>?_⟩);cases r6;refine⟨_,rfl,?_⟩;cases G:φ.sd (h.fa k) dy with
  |false=>exact hN (by rw[s,G];rfl) E (a.trans (d.trans F))
  |true=>exact⟨_,C,P (by rw[s,G];rfl) _ E (a.trans (d.trans F)) rfl⟩
theorem z6f (m:HouK Z.K HC)(t:Hou Z.K HC CC H x A h)(ok:Hok φ h)(rn:Rep Z.K H B f (.list (z1g ks)))(b:∀k∈ks,k<h.en.length)
  (q:∀a p d,Same H a->H p=none->a p=some (.lst d)->Reps Z.K a NoB d (ks.map λk=>(h.at k).2.2)->D0.rt (.ref p) a):wS Z Hs.fY D0 [some (.ref x),some f] H:=by
 refine⟨f,rfl,B,.list (z1g ks),z1g ks,rn,rfl,λJ n=>?_⟩;refine zho n (λk c v L N M o r hN s=>?_) λl d a e u w g=>q a l d u e w (by rw[eu.mpr λ_ _=>rfl]at g;exact g);refine zeo (σ:=[none,some (.ref x)]) r (by simp) λy O e C r0 rest=>⟨Eb e rest,?_⟩;cases r0;have D:=rest 1 (by decide);have i:=t.same o;refine jB (jB (rY m i D (aG C (iN i.gT (zV (b k c)) λP E=>kO λF j=>iN (E.same j λ_ z=>z) rfl λG I=>?_))));exact s rfl G F j (Rep.bC _ (ok.gd _ (aq (Hd.get (b k c)))).2.1 I)
theorem aV.mem {K:W.Frag}:∀{kvs:List (Key×V)} {es:aY} {e:D×D},aV K H B kvs es->e∈es->∃v,Rep K H B v e.2
 |_,(kd,d)::es,e,r,h=>by
  obtain⟨k,v,t,rfl,_,_,a,b⟩:=r;rcases az.mp h with rfl|h
  ·exact⟨v,a⟩
  ·exact aV.mem b h
theorem SS (h:z0d es k=some d):∃a,(a,d)∈es:=by obtain⟨e,b,c⟩:=bn.mp h;exact⟨e.1,by rw[<-c];exact List.mem_of_find?_eq_some b⟩
theorem JA {K:W.Frag}(c:Crt K f H x dx d kvs es):∀n s,PyData.strOk s=true->∀u∈eK es n s,PyData.strOk u=true
 |0,s,hs,u,hu=>by cases bf.mp hu;exact hs
 |n+1,s,hs,u,hu=>by
  unfold eK at hu;split at hu
  ·rename_i a e;obtain⟨g,hm⟩:=SS e;obtain⟨v,b⟩:=aV.mem c.re hm;rcases az.mp hu with rfl|hu
   ·exact hs
   ·exact JA c n a b.2 u hu
  ·cases bf.mp hu;exact hs
section
variable (φ:dY)(K:W.Frag)(HC CC:Addr)(mg:Str->Option Value)
abbrev kR (H:Hp)(ks:List Nat)(Q:VK):Prop:=∀H' p,Same H H'->H p=none->H' p=some (.lst (lK ks))->Q (.ref p) H'
abbrev cY (c:Str)(H:Hp)(E:XK):Prop:=∀C H',mg c=some (.ref C)->Same H H'->E (.ref C) none H'
def spAb:Sp:=λvs H Q _=>∃x A h vw w vd dy B,vs=[.ref x,vw,vd]/\Hou K HC CC H x A h/\Hok φ h/\Rep K H B vw (.str w)/\Rep K H B vd dy/\φ.dy dy=true/\kR H (lJ φ h w dy) Q
def spRa:Sp:=λvs H Q _=>∃x A h vn ks B,vs=[.ref x,vn]/\Hou K HC CC H x A h/\Hok φ h/\Rep K H B vn (.list (z1g ks))/\(∀k∈ks,k<h.en.length)/\∀H' p ys,Same H H'->H p=none->H' p=some (.lst ys)->Reps K H' NoB ys (ks.map λk=>(h.at k).2.2)->Q (.ref p) H'
def spSt:Sp:=λvs H Q E=>∃x A h vc c vw w vd dy B,vs=[.ref x,vc,vw,vd]/\Hou K HC CC H x A h/\Hok φ h/\Rep K H B vc c/\Rep K H B vw (.str w)/\Rep K H B vd dy/\φ.dy dy=true/\if stN h.es c=true then ∃s,c=.str s/\aR h.es 999 s=true/\kR H (eQ φ h s w dy) Q else cY mg "NoCourt" H E
def spBk:Sp:=λvs H Q E=>∃x A h vc c vw w B,vs=[.ref x,vc,vw]/\Hou K HC CC H x A h/\Hok φ h/\Rep K H B vc c/\Rep K H B vw (.str w)/\if stN h.es c=true then ∃s,c=.str s/\aR h.es 999 s=true/\∀H' p ys,Same H H'->H p=none->H' p=some (.lst ys)->Reps K H' NoB ys ((eQ φ h s w .none).map λk=>(h.at k).2.2)->Q (.ref p) H' else cY mg "NoCourt" H E
def uW (h:Hd)(k:Nat)(s:Str)(r:D):Bool:=!((h.at k).1==s)&&(ln h.es (h.at k).1).contains s&&φ.ag (h.at k).2.2 r
def spIf:Sp:=λvs H Q _=>∃x A h k vc s vm r B,vs=[.ref x,.int (k:Nat),vc,vm]/\Hou K HC CC H x A h/\Hok φ h/\k<h.en.length/\Rep K H B vc (.str s)/\Rep K H B vm r/\φ.G r/\∀H',Same H H'->Q (.bl (uW φ h k s r)) H'
def spFe:Sp:=λvs H Q _=>∃x A h vc s vw w vm r B,vs=[.ref x,vc,vw,vm]/\Hou K HC CC H x A h/\Hok φ h/\Rep K H B vc (.str s)/\Rep K H B vw (.str w)/\Rep K H B vm r/\φ.G r/\kR H (fll φ h s w r) Q
def spCc:Sp:=λvs H Q E=>∃x A h vc c B,vs=[.ref x,vc]/\Hou K HC CC H x A h/\Rep K H B vc c/\if stN h.es c=true then(∃s,c=.str s/\aR h.es 999 s=true)/\∀H',Same H H'->Q .aK H' else cY mg "NoCourt" H E
def late:Option Int->Int->Bool
 |none,_=>false
 |some l,d=>decide (d<l)
def spCd:Sp:=λvs H Q E=>∃x A h vc c n B,vs=[.ref x,.int n,vc]/\Hou K HC CC H x A h/\Rep K H B vc c/\if stN h.es c=true then(∃s,c=.str s/\aR h.es 999 s=true)/\if late h.ld n=true then cY mg "Late" H E else ∀H',Same H H'->Q .aK H' else cY mg "NoCourt" H E
abbrev qz (H:Hp)(k:Nat)(E:XK):Prop:=∀C H' dp,mg "NotAllowed"=some (.ref C)->Same H H'->H dp=none->H' dp=some (.xd [("by",.int k)])->E (.ref C) (some dp) H'
def spCa:Sp:=λvs H Q E=>∃x A h vc s vw w vm r B,vs=[.ref x,vc,vw,vm]/\Hou K HC CC H x A h/\Hok φ h/\Rep K H B vc (.str s)/\Rep K H B vw (.str w)/\Rep K H B vm r/\φ.G r/\z2c h.es s=true/\
 match bar φ h s w r with
 |none=>∀H',Same H H'->Q .aK H'
 |some k=>qz mg H k E
end
theorem xK (a:k∈lJ b h w dy):k<h.en.length:=d6.mp (dj.mp a).1
theorem zY (a:k∈eQ b h s w dy):k<h.en.length:=xK (dj.mp a).1
theorem Hou.cR {K:W.Frag}(t:Hou K HC CC H x A h):∃fs,H x=some (.ins HC A.dx fs)/\∀m:Str,m≠"courts"->m≠"entries"->m≠"fates"->m≠"last_day"->fs.lookup m=none:=by
 obtain⟨j,c,_⟩:=t.ins;refine⟨_,c,λm d e g i=>?_⟩;have f:∀{a b:Str},a≠b->(a==b)=false:=λh=>by simpa using h
 rw[cu,f d,cu,f e,cu,f g,cu,f i];rfl
theorem JB {K:W.Frag}(t:Hou K HC CC H x A h)(hs:PyData.strOk s=true)(a:H p=some (.lst ((ln h.es s).map V.str))):Rep K H AnyB (.ref p) (.list ((ln h.es s).map .str)):=⟨p,_,rfl,.inl ⟨a,trivial⟩,D5 (JA t.bZ 999 s hs)⟩
theorem z7c {vw:V}(n:HouK Z.K HC)(L:Z.me[0]?=some (CC,("line":Str),z7h Z.K CC Z.mg))(O:Z.me[1]?=some (HC,("about":Str),spAb φ Z.K HC CC))(t:Hou Z.K HC CC H x A h)(ok:Hok φ h)(o:Rep Z.K H B r c)(f:Rep Z.K H B vw (.str w))(rd:Rep Z.K H B u dy)(hd:φ.dy dy=true)
  (q:if stN h.es c=true then ∃s,c=.str s/\aR h.es 999 s=true/\kR H (eQ φ h s w dy) D0.rt else cY Z.mg "NoCourt" H Z.E):wS Z Hs.iD D0 [some (.ref x),some r,some vw,some u,none] H:=by
 refine iC L (Ea n t rfl ⟨A.c,A.dc,_,rfl,t.bZ.ins,rfl,aL (aG rfl (bQ ⟨A.c,A.dc,A.d,A.kvs,h.es,r,c,B,rfl,t.bZ,o,?_⟩))⟩);cases hs:stN h.es c with
 |false=>rw[hs]at q;exact q
 |true=>
  rw[hs]at q;obtain⟨s,rfl,P,q⟩:=q;refine⟨s,999,rfl,by decide,P,λH1 p e Q R=>?_⟩;have t1:=t.same e;obtain⟨fs,S,T⟩:=t1.cR;refine Jy (N':=[]) (iC O (aG rfl ⟨x,A.dx,fs,rfl,S,T _ dc dc dc dc,aL (aG rfl (aL (aG rfl (bQ ⟨x,A,h,vw,w,u,dy,B,rfl,t1,ok,f.same e λ_ z=>z,rd.same e λ_ z=>z,hd,λH2 U y W g=>?_⟩))))⟩));refine⟨AnyB,.list (z1g (lJ φ h w dy)),z1g (lJ φ h w dy),⟨U,_,rfl,.inl ⟨g,trivial⟩,rX⟩,rfl,λJ X=>?_⟩;have a:=e.trans y;refine zho X (λk i v H3 N M C Y hN hM=>?_) λl ys H' j s' hy ry=>q H' l (a.trans s') (a.none j) (hy▸congrArg (λz=>some (HO.lst z)) (xI ry));refine zeo (σ:=[none,some (.ref x),some (.ref p)]) Y (by simp) λbP w1 j D r0 rest=>⟨Eb j rest,?_⟩;cases r0;have m:=t.same (a.trans C);refine zR (jB (jB (rY n m (rest 1 dc) (aG D (iN m.gT (zV (xK i)) λw2 r2=>kO λH4 b=>iN (r2.same b λ_ z=>z) rfl λw3 r3=>aG (rest 2 dc) (nH r3 (JB (m.same b) o.2 (b _ _ (C _ _ (y _ _ R)))) (zX _ _) λF G=>⟨_,rfl,?_⟩))))));cases I:(ln h.es s).contains (h.at k).1 with
  |false=>exact hN I F (b.trans G)
  |true=>exact⟨_,D,hM I _ F (b.trans G) rfl⟩
theorem zi7 {vw:V}(j:HouK Z.K HC)(o:Z.me[0]?=some (HC,("rulings_at":Str),spRa φ Z.K HC CC))(r:Z.md[0]?=some (HC,("standing":Str),spSt φ Z.K HC CC Z.mg))(t:Hou Z.K HC CC H x A h)(ok:Hok φ h)(u:Rep Z.K H B l c)(d:Rep Z.K H B vw (.str w))
  (q:if stN h.es c=true then ∃s,c=.str s/\aR h.es 999 s=true/\∀a p b,Same H a->H p=none->a p=some (.lst b)->Reps Z.K a NoB b ((eQ φ h s w .none).map λk=>(h.at k).2.2)->D0.rt (.ref p) a else cY Z.mg "NoCourt" H Z.E):wS Z Hs.book D0 [some (.ref x),some l,some vw] H:=by
 obtain⟨fs,m,n⟩:=t.cR;refine iC o (aG rfl ⟨x,A.dx,fs,rfl,m,n _ dc dc dc dc,aL (xG r (aG rfl ⟨x,A.dx,fs,rfl,m,n _ dc dc dc dc,aL (aG rfl (aL (aG rfl (bQ ⟨x,A,h,l,c,vw,w,.aK,.none,B,rfl,t,ok,u,d,rfl,φ.d0,?_⟩))))⟩))⟩);cases hs:stN h.es c with
 |false=>rw[hs]at q;exact q
 |true=>rw[hs]at q;obtain⟨s,e,v,q⟩:=q;refine⟨s,e,v,λH1 p f y z=>bQ ⟨x,A,h,.ref p,eQ φ h s w .none,AnyB,rfl,t.same f,ok,⟨p,_,rfl,.inl ⟨z,trivial⟩,rX⟩,λk j=>zY j,λC D b F g i G=>q C D b (f.trans F) (f.none g) i G⟩⟩
theorem z89 (v:HouK Z.K HC)(D:Z.me[0]?=some (CC,("line":Str),z7h Z.K CC Z.mg))(E:Z.fn[0]?=some F)(hs:AgS φ Z.K F)(t:Hou Z.K HC CC H x A h)(ok:Hok φ h)(f:k<h.en.length)(w:Rep Z.K H B I (.str s))(rm:Rep Z.K H B J r)(L:φ.G r)
  (q:∀y,Same H y->D0.rt (.bl (uW φ h k s r)) y):wS Z Hs.iE D0 [some (.ref x),some (.int k),some I,some J,none] H:=by
 obtain⟨m,rfl,hm⟩:=hs;refine jB (rY v t rfl (aG rfl (iN t.gT (zV f) λwe re=>?_)));obtain⟨M,g2,N⟩:=ok.gd _ (aq (Hd.get f));obtain⟨O,P⟩:=au.mp N;refine Jx (zQ (jB (aG rfl (kO λH1 j=>iN (re.same j λ_ z=>z) rfl λw1 Q=>aG rfl (nH Q (w.same j λ_ z=>z) (ne_str _ _) λR S=>⟨_,rfl,?_⟩)))));have a:=j.trans S;cases l:((h.at k).1==s)with
 |true=>have:=q R a;unfold uW at this;rw[l]at this;exact this
 |false=>
  refine Jx (zQ (aG rfl (iC D (Ea v (t.same a) rfl ⟨A.c,A.dc,_,rfl,(t.same a).bZ.ins,rfl,aL (jB (aG rfl (kO λH3 n=>iN (re.same (a.trans n) λ_ z=>z) rfl λT C=>bQ ⟨A.c,A.dc,A.d,A.kvs,h.es,T,.str (h.at k).1,AnyB,rfl,(t.same (a.trans n)).bZ,C,?_⟩)))⟩))));rw[rj O];refine⟨(h.at k).1,999,rfl,by decide,P,λH4 p U V W=>?_⟩;have e:=a.trans (n.trans U);refine nH (w.same e λ_ z=>z) (JB (t.same e) C.2 W) (zX _ _) λX Y=>⟨_,rfl,?_⟩;have b:=e.trans Y;cases i:(ln h.es (h.at k).1).contains s with
  |false=>have:=q X b;unfold uW at this;rw[l,i]at this;exact this
  |true=>obtain⟨g,o⟩:=hm _ _ M L;refine zP E (aL (jB (aG rfl (kO λH6 u=>iN (re.same (b.trans u) λ_ z=>z) rfl λw6 r6=>aL (aG rfl (bQ ⟨λ_=>True,[(h.at k).2.2,r],_,rfl,Reps.cons r6 (Reps.cons (rm.same (b.trans u) λ_ _=>trivial) rfl),o,λv7 H7 s7 r7=>?_⟩))))));cases r7;have:=q H7 (b.trans (u.trans s7));unfold uW at this;rw[l,i]at this;exact this
theorem zbp {vw:V}(hk:HouK Z.K HC)(C:Z.me[0]?=some (HC,("about":Str),spAb φ Z.K HC CC))(D:Z.me[1]?=some (HC,("is_felled":Str),spIf φ Z.K HC CC))(t:Hou Z.K HC CC H x A h)(ok:Hok φ h)(E:Rep Z.K H B c (.str s))(d:Rep Z.K H B vw (.str w))(rm:Rep Z.K H B e r)(F:φ.G r)
  (q:kR H (fll φ h s w r) D0.rt):wS Z Hs.nI D0 [some (.ref x),some c,some vw,some e] H:=by
 obtain⟨fs,I,L⟩:=t.cR;refine Jy (N':=[]) (iC C (aG rfl ⟨x,A.dx,fs,rfl,I,L _ dc dc dc dc,aL (aG rfl (aL (Ju λH1 f=>bQ ⟨x,A,h,vw,w,.aK,.none,B,rfl,t.same f,ok,d.same f λ_ z=>z,rfl,φ.d0,λH2 O P Q g=>?_⟩)))⟩));have a:=f.trans P;refine⟨AnyB,.list (z1g (lJ φ h w .none)),z1g (lJ φ h w .none),⟨O,_,rfl,.inl ⟨g,trivial⟩,rX⟩,rfl,λJ R=>?_⟩;refine zho R (λk i v H3 N M S T hN U=>?_) λl ys W j X Y ry=>q W l (a.trans X) (a.none j) (Y▸congrArg (λz=>some (HO.lst z)) (xI ry));refine zeo (σ:=[none,some (.ref x),some c,some e]) T (by simp) λbP w1 j n r0 rest=>⟨Eb j rest,?_⟩;cases r0;have b:=a.trans S;have o:=t.same b;obtain⟨m,j1,j2⟩:=o.cR;refine zS (iC D (aG (rest 1 dc) ⟨x,A.dx,m,rfl,j1,j2 _ dc dc dc dc,aL (aG n (aL (aG (rest 2 dc) (aL (aG (rest 3 dc) (bQ ⟨x,A,h,k,c,s,e,r,B,rfl,o,ok,xK i,E.same b λ_ z=>z,rm.same b λ_ z=>z,F,λp u=>⟨_,rfl,?_⟩⟩))))))⟩));cases y:uW φ h k s r with
 |false=>exact hN y p u
 |true=>exact⟨_,n,U y _ p u rfl⟩
theorem z58 (f:HouK Z.K HC)(g:Z.me[0]?=some (CC,("line":Str),z7h Z.K CC Z.mg))(t:Hou Z.K HC CC H x A h)(i:Rep Z.K H B a c)
  (q:if stN h.es c=true then(∃s,c=.str s/\aR h.es 999 s=true)/\∀b,Same H b->D0.nx [some (.ref x),some a] b else cY Z.mg "NoCourt" H Z.E):wS Z Hs.eY D0 [some (.ref x),some a] H:=by
 refine iC g (Ea f t rfl ⟨A.c,A.dc,_,rfl,t.bZ.ins,rfl,aL (aG rfl (bQ ⟨A.c,A.dc,A.d,A.kvs,h.es,a,c,B,rfl,t.bZ,i,?_⟩))⟩);cases hs:stN h.es c with
 |false=>rw[hs]at q;exact q
 |true=>rw[hs]at q;obtain⟨⟨s,e,j⟩,q⟩:=q;exact⟨s,999,e,by decide,j,λH1 p k l m=>q H1 k⟩
theorem z6g (g:HouK Z.K HC)(r:Z.me[0]?=some (HC,("check_court":Str),spCc Z.K HC CC Z.mg))(t:Hou Z.K HC CC H x A h)(u:Rep Z.K H B b c)
  (q:if stN h.es c=true then(∃s,c=.str s/\aR h.es 999 s=true)/\if late h.ld n=true then cY Z.mg "Late" H Z.E else ∀i,Same H i->D0.nx [some (.ref x),some (.int n),some b] i else cY Z.mg "NoCourt" H Z.E):wS Z Hs.fZ D0 [some (.ref x),some (.int n),some b] H:=by
 obtain⟨fs,f,a⟩:=t.cR;refine iC r (aG rfl ⟨x,A.dx,fs,rfl,f,a _ (by decide) (by decide) (by decide) (by decide),aL (aG rfl (bQ ⟨x,A,h,b,c,B,rfl,t,u,?_⟩))⟩);cases hs:stN h.es c with
 |false=>rw[hs]at q;exact q
 |true=>
  rw[hs]at q;obtain⟨e,q⟩:=q;refine⟨e,λH1 d=>?_⟩;obtain⟨j,f,a⟩:=(t.same d).ins;have la:∀Q:VK,Q j H1->wE Z (.iL (.raw 0) "last_day") [some (.ref x),some (.int n),some b] H1 Q:=λQ q=>⟨.ref x,rfl,x,HC,A.dx,_,j,rfl,f,g.cls,g.a4,rfl,q⟩;refine Jw (la _ ⟨_,rfl,?_⟩);cases k:h.ld with
  |none=>rw[k]at a q;cases a;exact q H1 d
  |some l=>
   rw[k]at a q;cases a;refine zR (aG rfl (la _ (nH (B:=AnyB) (B':=AnyB) (dx:=.int n) (dy:=.int l) rfl rfl rfl λm o=>⟨_,rfl,?_⟩)));cases p:decide (n<l)with
   |false=>rw[show late (some l) n=decide (n<l)from rfl,p]at q;exact q m (d.trans o)
   |true=>rw[show late (some l) n=decide (n<l)from rfl,p]at q;exact λC e=>q C m e (d.trans o)
theorem JC {c:Type}{p:c->Bool}:∀(l:List c),match l.findIdx? p with|none=>l.find? p=none|some i=>∃a,l[i]?=some a/\l.find? p=some a
 | []=>rfl
 |a::l=>by
  rw[jo];cases d:p a with
  |true=>exact⟨a,rfl,by rw[j0 d]⟩
  |false=>
   have b:=JC (p:=p) l;rw[m5 (by rw[d];decide)];cases hf:l.findIdx? p with
   |none=>rw[hf]at b;exact b
   |some i=>rw[hf]at b;exact b
theorem z26 {vw:V}(D:HouK Z.K HC)(Q:Z.me[0]?=some (HC,("rulings_at":Str),spRa φ Z.K HC CC))(R:Z.md[0]?=some (HC,("standing":Str),spSt φ Z.K HC CC Z.mg))(f:Z.fn[0]?=some sp)(hs:BrS φ Z.K sp)(t:Hou Z.K HC CC H x A h)(ok:Hok φ h)(S:Rep Z.K H B F (.str s))(j:Rep Z.K H B vw (.str w))(rm:Rep Z.K H B T r)(U:φ.G r)(W:z2c h.es s=true)
  (q:match bar φ h s w r with|none=>∀l I,Same H I->D0.nx l I|some k=>qz Z.mg H k Z.E):wS Z Hs.dP D0 [some (.ref x),some F,some vw,some T,none,none] H:=by
 obtain⟨m,rfl,hm⟩:=hs;obtain⟨X,g5⟩:=au.mp W;obtain⟨fs,i1,i2⟩:=t.cR;refine xG R (aG rfl ⟨x,A.dx,fs,rfl,i1,i2 _ dc dc dc dc,aL (aG rfl (aL (aG rfl (bQ ⟨x,A,h,F,.str s,vw,w,.aK,.none,B,rfl,t,ok,S,j,rfl,φ.d0,?_⟩))))⟩);rw[rj X];refine⟨s,rfl,g5,λH1 p J JD L=>?_⟩;have t1:=t.same J;obtain⟨n,j1,j2⟩:=t1.cR;have o:((eQ φ h s w .none).map λk=>(h.at k).2.2).length<=1000:=by rw[am];refine bq (dh _ _) (bq (dh _ _) ?_);rw[db];exact ok.big
 obtain⟨g,u⟩:=hm ((eQ φ h s w .none).map λk=>(h.at k).2.2) r o (λz f=>by obtain⟨k,v,rfl⟩:=cf.mp f;exact(ok.gd _ (aq (Hd.get (zY v)))).1) U;refine zP f (aL (iC Q (aG rfl ⟨x,A.dx,n,rfl,j1,j2 _ dc dc dc dc,aL (aG rfl (bQ ⟨x,A,h,.ref p,eQ φ h s w .none,AnyB,rfl,t1,ok,⟨p,_,rfl,.inl ⟨L,trivial⟩,rX⟩,λk D=>zY D,λH2 p2 ys M V2 y r2=>?_⟩))⟩)));have c:=J.trans M;refine aL (aG rfl (bQ ⟨AnyB,[.list ((eQ φ h s w .none).map λk=>(h.at k).2.2),r],_,rfl,Reps.cons ⟨p2,ys,rfl,.inl ⟨y,trivial⟩,r2.weak λ_ z=>z.elim⟩ (Reps.cons (rm.same c λ_ _=>trivial) rfl),u,λN O P a=>?_⟩));have b:=c.trans P;refine⟨N,rfl,_,rfl,?_⟩;have e:=JC (p:=λk=>φ.ag (h.at k).2.2 r) (eQ φ h s w .none);rw[List.findIdx?_map]at a;have a:Rep Z.K O (BC H2 AnyB g) N (xJ ((eQ φ h s w .none).findIdx? λk=>φ.ag (h.at k).2.2 r)):=a;cases hf:(eQ φ h s w .none).findIdx? λk=>φ.ag (h.at k).2.2 r with
 |none=>rw[hf]at a e;cases a;rw[show bar φ h s w r=none from e]at q;exact q _ O b
 |some i=>rw[hf]at a e;cases a;obtain⟨k,e1,e2⟩:=e;rw[show bar φ h s w r=some k from e2]at q;refine λC hC=>jB (aG rfl (aG rfl (iN (B:=AnyB) (dx:=.list (z1g (eQ φ h s w .none))) ⟨p,_,rfl,.inl ⟨P _ _ (M _ _ L),trivial⟩,rX⟩ (zU (by unfold z1g;rw[ar,e1];rfl)) λw4 r4=>?_)));cases r4;exact λdp d=>q C _ dp hC (b.trans (Same.upd d)) (b.none d) bF
namespace Ct
def pairs:WS:=.seq (.ret (.lit AB)) .nil
end Ct
namespace Hs
def init:WS:=.seq (.fld (.raw 0) "courts" (.mk 0 (.cons (.dF (.raw 1) 0 .nil) .nil))) (.seq (.fld (.raw 0) "entries" (.lst .nil)) (.seq (.fld (.raw 0) "fates" (.lst .nil)) (.seq (.fld (.raw 0) "last_day" (.bD .aK)) .nil)))
def eG:WS:=.seq (.asg 2 (.bD (.and (.gL (.var 1) ["int"]) (.not (.gL (.var 1) ["bool"]))))) (.seq (.bU (.not (.iA (.lH (.raw 2)) (.zC .LtE .Lt (.bD (.int 0)) (.raw 1) (.len EN)))) (.seq (.kA "NoRuling") .nil) .nil) .nil)
abbrev FT:W:=.tup (.cons (.bD (.str "fell")) (.cons (.raw 1) (.cons (.raw 8) .nil)))
abbrev SU:W:=.tup (.cons (.bD (.str "entered")) (.cons (.raw 1) (.cons (.raw 2) .nil)))
def enter:WS:=.seq (.exp (.dF (.raw 0) 0 (.cons (.raw 1) (.cons (.raw 2) .nil))))
 (.seq (.asg 7 (.jS 0 (.cons (.raw 4) (.cons (.raw 5) (.cons (.raw 6) .nil)))))
 (.seq (.exp (.dF (.raw 0) 1 (.cons (.raw 2) (.cons (.raw 3) (.cons (.raw 7) .nil)))))
 (.seq (.asg 8 (.len EN))
 (.seq (.kM (.nm 9) (.dF (.raw 0) 2 (.cons (.raw 2) (.cons (.raw 3) (.cons (.raw 7) .nil)))) (.seq (.app (.uT FA (.raw 9)) FT) .nil))
 (.seq (.app EN (.tup (.cons (.raw 2) (.cons (.raw 3) (.cons (.raw 7) .nil)))))
 (.seq (.app FA (.lst (.cons SU .nil)))
 (.seq (.fld (.raw 0) "last_day" (.raw 1))
 (.seq (.ret (.raw 8)) .nil))))))))
end Hs
def xM (h:Hd)(n:Int):Bool:=decide (0<=n)&&decide (n<h.en.length)
section
variable (φ:dY)(K:W.Frag)(HC CC:Addr)(mg:Str->Option Value)
def spPt:Sp:=λvs H Q _=>∃x dx d kvs es,vs=[.ref x]/\Crt K CC H x dx d kvs es/\∀H' v,Same H H'->Rep K H' (nw H) v (.list (es.map ent))->Q v H'
def xO:Sp:=λvs H Q E=>∃x A h n,vs=[.ref x,.int n]/\Hou K HC CC H x A h/\h.en.length<=1000/\if xM h n=true then ∀H',Same H H'->Q .aK H' else cY mg "NoRuling" H E
end
theorem SV (ck:CrtK Z.K CC)(ct:Crt Z.K CC H x dx d kvs es)(q:∀b v,Same H b->Rep Z.K b (nw H) v (.list (es.map ent))->D0.rt v b):wS Z Ct.pairs D0 [some (.ref x)] H:=by refine xB (Q:=λx H1=>tyV Z.K "dict" x H1/\zA x [] H1 λv e=>zB Z.K [v] e D0.rt) ck ct rfl ⟨.inr (.inr (.inl ⟨rfl,.inl ⟨_,ct.fH⟩⟩)),d,kvs,rfl,rfl,ct.fH,λp f=>?_⟩;have c:=Same.upd (o:=.ext λh=>h.IsItemsView p d) f;refine⟨p,d,kvs,es,rfl,bF,c _ _ ct.fH,(ct.same c).re,λw b s r=>q b w (c.trans s) ?_⟩;exact r.weak λa z=>nw.back c z
theorem JE (d:b.length<=aS)(q:∀R:VK,(∀B,Rep Z.K H B v (.list b)->R v H)->wE Z a σ H R)(r:Rep Z.K H AnyB v (.list b))(k:∀c,Same H c->Q (.int b.length) c):wE Z (.len a) σ H Q:=by
 refine q _ λB _=>⟨AnyB,[.list b],.int b.length,Reps.cons r rfl,?_,λw c s e=>by cases e;exact k c s⟩
 first|rfl|(rw[rj d])
theorem SW (m:HouK Z.K HC)(t:Hou Z.K HC CC H x A h)(o:h.en.length<=1000)(q:if xM h n=true then ∀c j,Same H j->D0.nx c j else cY Z.mg "NoRuling" H Z.E):wS Z Hs.eG D0 [some (.ref x),some (.int n),none] H:=by
 refine⟨[none,some (.od,.int n),none],F0 H,(.fr,.bool true),pX rfl λi g d e=>?_,rfl,λv H1 p s=>?_⟩
 ·rcases i with _|_|_|i<;>cases e;exact⟨rfl,.int n,AnyB,rfl,rfl⟩
 cases s;refine Jw (zS (aG rfl ⟨true,rfl,?_⟩));refine kO λF u=>aG rfl (nH (B:=AnyB) (B':=AnyB) (dx:=.int 0) (dy:=.int n) rfl rfl rfl λw y=>⟨_,rfl,?_⟩);have a:=p.trans (u.trans y);unfold xM at q;cases h0:decide (0<=n)with
 |false=>rw[h0]at q;exact⟨_,rfl,λC e=>q C w e a⟩
 |true=>
  rw[h0]at q;have f:=t.same a;refine JE (by rw[am];exact bq o dc) (λR r=>rY m f rfl (r AnyB f.gT)) f.gT λG z=>nH (B:=AnyB) (B':=AnyB) (dx:=.int n) (dy:=.int (h.en.map iO).length) rfl rfl rfl λk D=>⟨_,rfl,?_⟩;have b:=a.trans (z.trans D);rw[am];cases l:decide (n<h.en.length)with
  |false=>rw[l]at q;exact λC e=>q C k e b
  |true=>rw[l]at q;exact q _ k b
def eZ (ft:List (List D))(L:List Nat)(t:D):List (List D):=L.foldl (λft k=>ft.set k (ft.getD k []++[t])) ft
def z8y (n:Int)(k:Nat):D:=.tuple [.str "fell",.int n,.int k]
def zZ (n:Int)(s:Str):D:=.tuple [.str "entered",.int n,.str s]
def Hd.put (h:Hd)(n:Int)(s w:Str)(r:D)(L:List Nat):Hd:=⟨h.es,h.en++[(s,w,r)],eZ h.ft L (z8y n h.en.length)++[[zZ n s]],some n⟩
section
variable {K:W.Frag}{H H':Hp}{HC CC x:Addr}{A:Ha}{h:Hd}
abbrev Frm1 (A:Ha)(x:Addr)(H H':Hp):Prop:=∀b o,¬A.own x b->H b=some o->H' b=some o
theorem Hou.cZ (t:Hou K HC CC H x A h)(a:A.own x b)(e:H b=some o):¬Fix o:=by
 rcases a with rfl|rfl|rfl|rfl|a
 ·obtain⟨i,c,_⟩:=t.ins;rw[c]at e;cases e;exact id
 ·rw[t.bZ.fH]at e;cases e;exact id
 ·obtain⟨j,d,_⟩:=t.ent;rw[d]at e;cases e;exact id
 ·rw[t.kQ]at e;cases e;exact id
 ·obtain⟨k,f⟩:=cb.mp a;obtain⟨l,g,_⟩:=t.dO.2 k b f;rw[g]at e;cases e;exact id
theorem Hou.fix (t:Hou K HC CC H x A h)(f:Frm1 A x H H'):∀a o,H a=some o->Fix o->H' a=some o:=λa o e z=>f a o (λb=>t.cZ b e z) e
theorem Hou.jC (t:Hou K HC CC H x A h)(b:H a=some (.lst f)):x≠a/\A.c≠a/\A.d≠a:=by
 refine⟨?_,?_,?_⟩
 ·rintro rfl
  obtain⟨g,e,_⟩:=t.ins;rw[e]at b;cases b
 ·rintro rfl
  rw[t.bZ.ins]at b;cases b
 ·rintro rfl
  rw[t.bZ.fH]at b;cases b
theorem xP (c:H a=some (.lst d)):∀b o,H b=some o->(NoB (some b)\/Fix o)->upd H a (.lst ys) b=some o:=λb o e z=>by
 rw[aE]
 ·exact e
 ·rintro rfl
  rw[c]at e;cases e;exact z.elim id id
theorem xQ {e:Type}:∀{l:List e} {i j:Nat} {a:e},l.Nodup->l[i]?=some a->l[j]?=some a->i=j
 | [],i,_,_,_,h,_=>by simp at h
 |b::l,0,0,_,_,_,_=>rfl
 |b::l,0,j+1,a,nd,c,d=>by rw[fv]at d;cases c;exact absurd (aq d) (dr.mp nd).1
 |b::l,i+1,0,a,nd,c,d=>by rw[fv]at c;cases d;exact absurd (aq c) (dr.mp nd).1
 |b::l,i+1,j+1,a,nd,c,d=>by rw[xQ (dr.mp nd).2 c d]
theorem Hou.nJ (hh:Hou K HC CC H x A h)(e:A.as[k]?=some a)(o:H a=some (.lst f))(i:Reps K H NoB f (h.fa k))(p:Rep K H NoB y t):Hou K HC CC (upd H a (.lst (f++[y]))) x A {h with ft:=h.ft.set k (h.fa k++[t])}:=by
 obtain⟨n1,n2,n3⟩:=hh.jC o;have c:=aq e;have d:=xP (ys:=f++[y]) o;obtain⟨q,r,s⟩:=hh.ins;obtain⟨u,v,w⟩:=hh.ent;have l:A.le≠a:=λz=>hh.n2 (z▸c);have m:A.lf≠a:=λz=>hh.n3 (z▸c);refine⟨⟨q,by rw[aE n1];exact r,Rep.keep d (λ_ z=>z) _ s⟩,⟨by rw[aE n2];exact hh.bZ.ins,by rw[aE n3];exact hh.bZ.fH,aV.keep d (λ_ z=>z) _ hh.bZ.re⟩,⟨u,by rw[aE l];exact v,Reps.keep d (λ_ z=>z) _ w⟩,by rw[aE m];exact hh.kQ,⟨by rw[cn];exact hh.dO.1,λj b g=>?_⟩,hh.nd,hh.n1,hh.n2,hh.n3⟩;by_cases n:j=k
 ·subst n;rw[e]at g;cases g;refine⟨f++[y],bF,?_⟩;rw[aa,ce (hh.dO.1▸((aw.mp e).1))];exact Reps.keep d (λ_ z=>z) _ (i.append (Reps.cons p rfl))
 ·obtain⟨B,C,D⟩:=hh.dO.2 j b g;refine⟨B,by rw[aE (λz=>by subst z;exact n (xQ hh.nd g e))];exact C,?_⟩;rw[aa,bv (Ne.symm n)];exact Reps.keep d (λ_ z=>z) _ D
theorem Hou.Ec (hh:Hou K HC CC H x A h)(f:H A.le=some (.lst b))(r:Reps K H NoB b (h.en.map iO))(g:Rep K H NoB y (iO e)):Hou K HC CC (upd H A.le (.lst (b++[y]))) x A {h with en:=h.en++[e]}:=by obtain⟨n1,n2,n3⟩:=hh.jC f;have c:=xP (ys:=b++[y]) f;obtain⟨i,j,k⟩:=hh.ins;refine⟨⟨i,by rw[aE n1];exact j,Rep.keep c (λ_ z=>z) _ k⟩,⟨by rw[aE n2];exact hh.bZ.ins,by rw[aE n3];exact hh.bZ.fH,aV.keep c (λ_ z=>z) _ hh.bZ.re⟩,⟨b++[y],bF,?_⟩,by rw[aE (Ne.symm hh.n1)];exact hh.kQ,hh.dO.keep (λa d o e=>by rw[aE (λ(z:a=A.le)=>hh.n2 (z▸d))];exact e) (λa o e z=>c a o e (.inr z)),hh.nd,hh.n1,hh.n2,hh.n3⟩;rw[cv];exact Reps.keep c (λ_ z=>z) _ (r.append (Reps.cons g rfl))
theorem Hou.Ed (hh:Hou K HC CC H x A h)(o:H p=some (.lst l))(g:Reps K H NoB l f)(q:p∉A.as)(r:p≠A.le)(m:p≠A.lf):Hou K HC CC (upd H A.lf (.lst (A.as.map V.ref++[.ref p]))) x {A with as:=A.as++[p]} {h with ft:=h.ft++[f]}:=by
 have d:=hh.kQ;obtain⟨n1,n2,n3⟩:=hh.jC d;have c:=xP (ys:=A.as.map V.ref++[.ref p]) d;obtain⟨s,t,u⟩:=hh.ins;obtain⟨v,w,y⟩:=hh.ent;have i:=hh.dO.1;refine⟨⟨s,by rw[aE n1];exact t,Rep.keep c (λ_ z=>z) _ u⟩,⟨by rw[aE n2];exact hh.bZ.ins,by rw[aE n3];exact hh.bZ.fH,aV.keep c (λ_ z=>z) _ hh.bZ.re⟩,⟨v,by rw[aE hh.n1];exact w,Reps.keep c (λ_ z=>z) _ y⟩,by rw[bF,cv];rfl,⟨by rw[av,av,i];rfl,λk a e=>?_⟩,?_,hh.n1,λz=>?_,λz=>?_⟩
 ·by_cases n:k<A.as.length
  ·have e:(A.as++[p])[k]?=some a:=e;rw[cy n]at e;obtain⟨B,C,D⟩:=hh.dO.2 k a e;refine⟨B,by rw[aE (λ(z:a=A.lf)=>hh.n3 (z▸aq e))];exact C,?_⟩;rw[aa,cy (i▸n),<-aa];exact Reps.keep c (λ_ z=>z) _ D
  ·have e:(A.as++[p])[k]?=some a:=e;rw[b9 (by omega)]at e;have j:k=A.as.length:=by have:=(aw.mp e).1;rw[d5]at this;omega
   subst j;rw[gy]at e;cases e;refine⟨l,by rw[aE m];exact o,?_⟩;rw[aa,i,b9 (ah _),gy];exact Reps.keep c (λ_ z=>z) _ g
 ·exact gx.mpr ⟨hh.nd,by simp,λa d b E z=>q (by rw[<-bf.mp E,<-z];exact d)⟩
 ·rcases b6.mp z with z|z
  ·exact hh.n2 z
  ·exact r (bf.mp z).symm
 ·rcases b6.mp z with z|z
  ·exact hh.n3 z
  ·exact m (bf.mp z).symm
theorem Hou.Ee (hh:Hou K HC CC H x A h)(g:H x=some (.ins HC A.dx [("courts",.ref A.c),("entries",.ref A.le),("fates",.ref A.lf),("last_day",i)])):Hou K HC CC (upd H x (.ins HC A.dx (bT "last_day" (.int n) [("courts",.ref A.c),("entries",.ref A.le),("fates",.ref A.lf),("last_day",i)]))) x A {h with ld:=some n}:=by
 have ne:∀{b:Addr} {o:HO},H b=some o->(∀C dx fs,o≠.ins C dx fs)->b≠x:=λ{b o} e z w=>by subst w;rw[g]at e;cases e;exact z _ _ _ rfl
 have d:∀b o,H b=some o->(NoB (some b)\/Fix o)->upd H x (.ins HC A.dx (bT "last_day" (.int n) [("courts",.ref A.c),("entries",.ref A.le),("fates",.ref A.lf),("last_day",i)])) b=some o:=λb o e z=>by rw[aE (ne e λC dx fs w=>by subst w;exact z.elim id id)];exact e
 obtain⟨l,j,m⟩:=hh.ent;have f:A.c≠x:=λz=>by have:=hh.bZ.ins;rw[z,g]at this;injection this with this;injection this with _ _ this;exact absurd (congrArg ki this) (by simp)
 refine⟨⟨.int n,by rw[bF];rfl,rfl⟩,⟨by rw[aE f];exact hh.bZ.ins,by rw[aE (ne hh.bZ.fH nofun)];exact hh.bZ.fH,aV.keep d (λ_ z=>z) _ hh.bZ.re⟩,⟨l,by rw[aE (ne j nofun)];exact j,Reps.keep d (λ_ z=>z) _ m⟩,by rw[aE (ne hh.kQ nofun)];exact hh.kQ,hh.dO.keep (λa p o e=>?_) (λa o e z=>d a o e (.inr z)),hh.nd,hh.n1,hh.n2,hh.n3⟩;obtain⟨k,q⟩:=cb.mp p;obtain⟨s,r,_⟩:=hh.dO.2 k a q;rw[aE (ne r nofun)];exact e
end
def RuS (φ:dY)(K:W.Frag)(sp:Sp):Prop:=∃m,sp=spD K 3 m/\∀a b c,φ.G (.tuple [a,b,c])->∃g,m [a,b,c]=.ok (g,.tuple [a,b,c])
theorem Ef (ft:List (List D))(t:D):∀L,(eZ ft L t).length=ft.length:=λL=>by
 unfold eZ
 induction L generalizing ft with
 |nil=>rfl
 |cons k L a=>rw[nn,a,cn]
theorem JF (ft:List (List D))(t:D)(L:List Nat)(k:Nat):eZ ft (L++[k]) t=(eZ ft L t).set k ((eZ ft L t).getD k []++[t]):=by unfold eZ;rw[List.foldl_append];rfl
theorem JG (t:D):∀L ft k m,(∀j,(ft.getD j []).length<=m)->((eZ ft L t).getD k []).length<=m+L.length
 | [],ft,k,m,h=>h k
 |i::L,ft,k,m,h=>by
  have:=JG t L (ft.set i (ft.getD i []++[t])) k (m+1) λj=>by
   rw[aa,dg];split
   ·split
    ·rw[Option.getD_some,av];have:=h i;show _+1<=m+1;omega
    ·exact cz _
   ·have :=h j;rw[aa]at this;omega
  rw[bd];show((eZ (ft.set i (ft.getD i []++[t])) L t).getD k []).length<=_;omega
section
variable (φ:dY)(K:W.Frag)(HC CC:Addr)(mg:Str->Option Value)
abbrev put1 (K:W.Frag)(HC CC:Addr)(H:Hp)(x:Addr)(A:Ha)(h:Hd)(Q:VK):Prop:=∀H' p,Frm1 A x H H'->H p=none->Hou K HC CC H' x {A with as:=A.as++[p]} h->Q (.int (h.en.length-1:Nat)) H'
def spEn:Sp:=λvs H Q E=>∃x A h n vc c vw w v4 v5 v6 a b r B,vs=[.ref x,.int n,vc,vw,v4,v5,v6]/\Hou K HC CC H x A h/\Hok φ h/\h.en.length<1000/\Rep K H B vc c/\Rep K H B vw (.str w)/\Rep K H B v4 a/\Rep K H B v5 b/\Rep K H B v6 r/\imms [a,b,r]=true/\φ.G (.tuple [a,b,r])/\
 if stN h.es c=true then ∃s,c=.str s/\aR h.es 999 s=true/\if late h.ld n=true then cY mg "Late" H E else
  match bar φ h s w (.tuple [a,b,r])with
  |some k=>qz mg H k E
  |none=>put1 K HC CC H x A (h.put n s w (.tuple [a,b,r]) (fll φ h s w (.tuple [a,b,r]))) Q
 else cY mg "NoCourt" H E
end
theorem uX (q:wE Z o a H λx H1=>tyV Z.K "list" x H1/\wE Z v a H1 λy b=>yI x [y] b λ_ c=>d.nx a c):wS Z (.app o v) d a H:=q
theorem xR (q:wE Z e b H λy H1=>wE Z o b H1 λx c=>∃a C dx fs,x=.ref a/\c a=some (.ins C dx fs)/\Cls Z.K C/\z1x Z.K C f/\fs.length<1000/\d.nx b (upd c a (.ins C dx (bT f y fs)))):wS Z (.fld o f e) d b H:=q
theorem z0:PyData.strOk "fell"=true:=by decide+kernel
theorem z1:PyData.strOk "entered"=true:=by decide+kernel
theorem gU {K:W.Frag}(b:H p=none)(r:Reps K H NoB a ds):Rep K (upd H p (.tup a)) NoB (.ref p) (.tuple ds):=⟨p,a,rfl,cB.of bF,r.same (Same.upd b) λ_ z=>z⟩
theorem z96 {vw:V}(C:HouK Z.K HC)(h3:Z.me[2]?=some (HC,("felled":Str),spFe φ Z.K HC CC))(t:Hou Z.K HC CC H x A h)(ok:Hok φ h)(rc:Rep Z.K H NoB P (.str c))(U:Rep Z.K H NoB vw (.str w))(rm:Rep Z.K H NoB Q r)(hg:φ.G r)(L:List Nat)(X:L=fll φ h c w r)(I:D)(Y:I=z8y n h.en.length)
  (q:∀a u,a.length=10->(∀j,j≠9->a[j]?=[some (.ref x),some (.int n),some P,some vw,some v4,some v5,some v6,some Q,some (.int h.en.length),b0][j]?)->Frm1 A x H u->Hou Z.K HC CC u x A {h with ft:=eZ h.ft L I}->D0.nx a u):
  wS Z (.kM (.nm 9) (.dF (.raw 0) 2 (.cons (.raw 2) (.cons (.raw 3) (.cons (.raw 7) .nil)))) (.seq (.app (.uT Hs.FA (.raw 9)) Hs.FT) .nil)) D0 [some (.ref x),some (.int n),some P,some vw,some v4,some v5,some v6,some Q,some (.int h.en.length),b0] H:=by
 obtain⟨fs,i1,i2⟩:=t.cR;refine iC h3 (aG rfl ⟨x,A.dx,fs,rfl,i1,i2 _ dc dc dc dc,aL (aG rfl (aL (aG rfl (aL (aG rfl (bQ ⟨x,A,h,P,c,vw,w,Q,r,NoB,rfl,t,ok,rc,U,rm,hg,λH1 p s1 JD hp=>?_⟩))))))⟩);rw[<-X]at hp;have SX:∀k∈L,k<h.en.length:=λk C=>by rw[X]at C;exact xK (dj.mp C).1
 have JH:L.length<=1000:=by rw[X];refine bq (dh _ _) (bq (dh _ _) ?_);rw[db];exact ok.big
 have z3:p∉A.as:=λz=>by obtain⟨k,C⟩:=cb.mp z;obtain⟨R,J,_⟩:=t.dO.2 k p C;rw[JD]at J;cases J
 refine⟨p,rfl,⟨_,SqL.of hp⟩,?_⟩
 let W:Nat->Nat->L2.St->Hp->Prop:=λi m a u=>m=L.length-i/\i<=L.length/\a.length=10/\(∀j,j≠9->a[j]?=[some (.ref x),some (.int n),some P,some vw,some v4,some v5,some v6,some Q,some (.int h.en.length),b0][j]?)/\(∀b o,b∉A.as->H1 b=some o->u b=some o)/\Hou Z.K HC CC u x A {h with ft:=eZ h.ft (L.take i) I}
 refine⟨W,⟨_,rfl,cz _,rfl,λ_ _=>rfl,λ_ _ _ e=>e,(t.same s1)⟩,?_⟩
 rintro i m a u ⟨rfl,hi,hl,M,hf,E⟩
 have v:=hf p _ z3 hp;have lL:(lK L).length=L.length:=am ..;by_cases g:i<L.length
 ·refine .inr ⟨⟨_,_,SqL.of v,ae (lL▸g)⟩,W (i+1) (L.length-(i+1)),λuu H2 w=>⟨_,by omega,w⟩,λy H2 F=>?_⟩;obtain⟨rfl,F⟩:=F;have F:=F _ (SqL.of v);have SY:(lK L)[i]?=some (V.int (L[i]:Nat)):=by unfold lK;rw[ar,ae g];rfl
  rw[SY]at F;cases F;generalize N:L[i]=k at *
  have tk:L.take (i+1)=L.take i++[k]:=by rw[j5,ae g,N];rfl
  refine zeo (d:=.int k) (B:=AnyB) rfl (by rw[hl];decide) λuu w2 S1 e9 r9 rest=>?_;cases r9;have f:=λj S=>(rest j S).trans (M j S);have l:k<A.as.length:=by rw[t.dO.1,ok.len];exact SX k (N▸ei g)
  obtain⟨R,J,r1⟩:=E.dO.2 k A.as[k] (ae l);refine uX (SJ (D' C E (f 0 dc) (aG e9 (.inl ⟨A.lf,_,k,.ref A.as[k],rfl,rfl,SqL.of E.kQ,?_,.inl ⟨rfl,_,SqL.of J⟩,pY (aL (kP z0 λH3 s3=>aL (aG (f 1 dc) (aL (aG (f 8 dc) (bQ ⟨by rw[ci];simp,λp3 O=>?_⟩))))))⟩))))
  ·have :(A.as.map V.ref)[k]?=some (.ref A.as[k]):=by rw[ar,ae l];rfl
   unfold L2.bW;have S2:L2.iG (A.as.map V.ref).length k=some k:=by unfold L2.iG;rw[rj (by omega),rj (by grind),i3]
   rw[S2];exact this
  ·have s:Same H2 (upd H3 p3 (.tup [.str "fell",.int n,.int h.en.length])):=s3.trans (Same.upd O);have ea:=s _ _ J
   have wl:R.length<ay:=by
    have h2:=JG I (L.take i) h.ft k 2 λj=>by
     by_cases S:j<h.ft.length
     ·have :=(ok.fo _ (aq (Hd.pZ S))).2.1;exact this
     ·rw[aa,fg (by omega)];simp_all
    rw[dw]at h2;rw[ci];have h3:((eZ h.ft (L.take i) I).getD k []).length=R.length:=r1.length.symm;omega
   refine⟨A.as[k],R,.ref p3,rfl,rfl,ea,wl,rfl,g,S1.trans hl,f,λb o T e=>?_,?_⟩
   ·rw[aE (λ(z:b=A.as[k])=>T (z▸ei l))];exact s b o (hf b o T e)
   ·rw[tk,JF];exact(E.same s).nJ (ae l) ea (r1.same s λ_ z=>z) (by rw[Y];exact gU O (Reps.cons ⟨rfl,z0⟩ (Reps.cons rfl (Reps.cons rfl rfl))))
 ·have tL:i=L.length:=by omega
  subst tL;refine .inl ⟨⟨_,SqL.of v,by rw[lL];exact ah _⟩,q a u hl M (λb o T e=>hf b o (λz=>T (.inr (.inr (.inr (.inr z))))) (s1 b o e)) ?_⟩;rw[gg]at E;exact E
section
variable (φ:dY)(K:W.Frag)(HC CC:Addr)(mg:Str->Option Value)
def spHi:Sp:=λvs H Q _=>∃x dx y dy d kvs es,vs=[.ref x,.ref y]/\H x=some (.ins HC dx [])/\Crt K CC H y dy d kvs es/\z0h [] (es.map ent)=some es/\es.length<1000/\∀H' A,(∀b o,b≠x->H b=some o->H' b=some o)->(∀b,A.own x b->b=x\/H b=none)->H A.c=none->Hou K HC CC H' x A ⟨es,[],[],none⟩->Q .aK H'
end
theorem zcy {vw:V}(D:HouK Z.K HC)(h1:Z.me[0]?=some (HC,("check_deed":Str),spCd Z.K HC CC Z.mg))(h2:Z.me[1]?=some (HC,("check_allowed":Str),spCa φ Z.K HC CC Z.mg))(h3:Z.me[2]?=some (HC,("felled":Str),spFe φ Z.K HC CC))(hz:Z.fn[0]?=some sp)(hs:RuS φ Z.K sp)
  (t:Hou Z.K HC CC H x A h) (ok:Hok φ h) (i:h.en.length<1000) (rc:Rep Z.K H B j c) (rw':Rep Z.K H B vw (.str w)) (r4:Rep Z.K H B v4 a) (r5:Rep Z.K H B v5 b) (r6:Rep Z.K H B v6 r) (im:imms [a,b,r]=true) (hg:φ.G (.tuple [a,b,r]))
  (q:if stN h.es c=true then ∃s,c=.str s/\aR h.es 999 s=true/\if late h.ld n=true then cY Z.mg "Late" H Z.E else
   match bar φ h s w (.tuple [a,b,r])with
   |some k=>qz Z.mg H k Z.E
   |none=>put1 Z.K HC CC H x A (h.put n s w (.tuple [a,b,r]) (fll φ h s w (.tuple [a,b,r]))) D0.rt
  else cY Z.mg "NoCourt" H Z.E):wS Z Hs.enter D0 [some (.ref x),some (.int n),some j,some vw,some v4,some v5,some v6,none,none,none] H:=by
 obtain⟨m,rfl,hm⟩:=hs;obtain⟨fs,i1,i2⟩:=t.cR;refine iC h1 (aG rfl ⟨x,A.dx,fs,rfl,i1,i2 _ (by decide) (by decide) (by decide) (by decide),aL (aG rfl (aL (aG rfl (bQ ⟨x,A,h,j,c,n,B,rfl,t,rc,?_⟩))))⟩);cases P:stN h.es c with
 |false=>rw[P]at q;exact q
 |true=>
 rw[P]at q;obtain⟨s,rfl,he,q⟩:=q;refine⟨⟨s,rfl,he⟩,?_⟩;cases hla:late h.ld n with
 |true=>rw[hla]at q;exact q
 |false=>
 rw[hla]at q;intro H1 s1;obtain⟨g,S3⟩:=hm a b r hg;obtain⟨ia,ib,ir⟩:imm a=true/\imm b=true/\imm r=true:=by have:=yN.mp im;exact⟨this a (by simp),this b (by simp),this r (by simp)⟩
 have S4:=im;refine zP hz (aL (aG rfl (aL (aG rfl (aL (aG rfl (bQ ⟨AnyB,[a,b,r],_,rfl,Reps.cons (r4.same s1 λ_ _=>trivial) (Reps.cons (r5.same s1 λ_ _=>trivial) (Reps.cons (r6.same s1 λ_ _=>trivial) rfl)),S3,λvm H2 s2 rm=>?_⟩)))))));have rm:Rep Z.K H2 NoB vm (.tuple [a,b,r]):=Rep.bC _ S4 rm;have l:=s1.trans s2;have t2:=t.same l;obtain⟨S5,j1,j2⟩:=t2.cR;have Q:Rep Z.K H2 NoB j (.str s):=Rep.bC _ rfl (rc.same l λ_ z=>z);have S:Rep Z.K H2 NoB vw (.str w):=Rep.bC _ rfl (rw'.same l λ_ z=>z);refine iC h2 (aG rfl ⟨x,A.dx,S5,rfl,j1,j2 _ (by decide) (by decide) (by decide) (by decide),aL (aG rfl (aL (aG rfl (aL (aG rfl (bQ ⟨x,A,h,j,s,vw,w,vm,_,NoB,rfl,t2,ok,Q,S,rm,hg,by unfold z2c;rw[P,he];rfl,?_⟩))))))⟩);cases F:bar φ h s w (.tuple [a,b,r])with
 |some k=>rw[F]at q;exact λC H' dp e s' hd Cs=>q C H' dp e (l.trans s') (l.none hd) Cs
 |none=>
 rw[F]at q;intro H3 s3;have JI:=l.trans s3;have t3:=t.same JI;refine JE (by rw[am];exact bq ok.big (by decide)) (λR r=>rY D t3 rfl (r AnyB t3.gT)) t3.gT λH4 s4=>?_;have JJ:=JI.trans s4;have t4:=t.same JJ;have u:=s3.trans s4;rw[am];generalize hL:fll φ h s w (.tuple [a,b,r])=L at q;generalize z4:z8y n h.en.length=td;refine z96 D h3 t4 ok (Q.same u λ_ z=>z) (S.same u λ_ z=>z) (rm.same u λ_ z=>z) hg L hL.symm td z4.symm λS6 T V3 d f5 t5=>?_;have S7:=t4.fix f5;have U:∀b o,H4 b=some o->(NoB (some b)\/Fix o)->T b=some o:=λb o e z=>S7 b o e (z.resolve_left id);have e0:=d 0 (by decide);have I:=d 1 (by decide);have e2:=d 2 (by decide);have e3:=d 3 (by decide);have e7:=d 7 (by decide);have e8:=d 8 (by decide);have W:=Rep.keep U (λ_ z=>z) _ (Q.same u λ_ z=>z);have S8:=Rep.keep U (λ_ z=>z) _ (S.same u λ_ z=>z);have S9:=Rep.keep U (λ_ z=>z) _ (rm.same u λ_ z=>z);have big:ay>3000:=by rw[ci];decide
 obtain⟨vs,f1,f2⟩:=t5.ent;refine uX (rY D t5 e0 ⟨.inl ⟨rfl,_,SqL.of f1⟩,pY (aL (aG e2 (aL (aG e3 (aL (aG e7 (bQ ⟨by show 3<=ay;omega,λJ JK=>?_⟩)))))))⟩);have s6:Same T (upd T J (.tup [j,vw,vm])):=Same.upd JK;have vl:vs.length<ay:=by have:=f2.length;rw[am]at this;have h9:vs.length=h.en.length:=this;omega
 refine⟨A.le,vs,.ref J,rfl,rfl,s6 _ _ f1,vl,?_⟩;have y:=(t5.same s6).Ec (e:=(s,w,.tuple [a,b,r])) (s6 _ _ f1) (f2.same s6 λ_ z=>z) (gU JK (Reps.cons W (Reps.cons S8 (Reps.cons S9 rfl))));have X:∀b o,b≠A.le->T b=some o->upd (upd T J (.tup [j,vw,vm])) A.le (.lst (vs++[.ref J])) b=some o:=λb o i e=>by rw[aE i];exact s6 b o e
 have JL:Rep Z.K (upd (upd T J (.tup [j,vw,vm])) A.le (.lst (vs++[.ref J]))) NoB j (.str s):=⟨W.1,W.2⟩;generalize V4:upd (upd T J (.tup [j,vw,vm])) A.le (.lst (vs++[.ref J]))=H7 at y X JL;refine uX (D' D y e0 ⟨.inl ⟨rfl,_,SqL.of y.kQ⟩,xF (aL (pY (aL (kP z1 λH8 s8=>aL (aG I (aL (aG e2 (bQ ⟨by show 3<=ay;omega,λM JM=>bQ ⟨by show 1<=ay;omega,λp hp=>?_⟩⟩))))))))⟩);have s9:Same H8 (upd H8 M (.tup [.str "entered",.int n,j])):=Same.upd JM;have uY:Same (upd H8 M (.tup [.str "entered",.int n,j])) (upd (upd H8 M (.tup [.str "entered",.int n,j])) p (.lst [.ref M])):=Same.upd hp;have N:=s8.trans (s9.trans uY);have JN:=y.same N;have v:=(s8.trans s9).none hp;have r9:=(gU (ds:=[.str "entered",.int n,.str s]) JM (Reps.cons ⟨rfl,z1⟩ (Reps.cons rfl (Reps.cons (JL.same s8 λ_ z=>z) rfl)))).same uY λ_ z=>z;have z3:p∉A.as:=λz=>by obtain⟨k,D⟩:=cb.mp z;obtain⟨ws,I,_⟩:=y.dO.2 k p D;rw[v]at I;cases I
 have Y:p≠A.le:=λz=>by obtain⟨ws,I,_⟩:=y.ent;rw[<-z,v]at I;cases I
 have JO:p≠A.lf:=λz=>by have:=y.kQ;rw[<-z,v]at this;cases this
 have al:(A.as.map V.ref).length<ay:=by have h1:=t.dO.1;rw[am,h1,ok.len];omega
 refine⟨A.lf,_,.ref p,rfl,rfl,JN.kQ,al,?_⟩;have Eg:=JN.Ed (f:=[zZ n s]) bF (Reps.cons r9 rfl) z3 Y JO;have O:∀b o,b≠A.lf->H7 b=some o->upd (upd (upd H8 M (.tup [.str "entered",.int n,j])) p (.lst [.ref M])) A.lf (.lst (A.as.map V.ref++[.ref p])) b=some o:=λb o i e=>by rw[aE i];exact N b o e
 generalize S':upd (upd (upd H8 M (.tup [.str "entered",.int n,j])) p (.lst [.ref M])) A.lf (.lst (A.as.map V.ref++[.ref p]))=JP at Eg O;obtain⟨vd,k1,k2⟩:=Eg.ins;refine xR (aG I (aG e0 ⟨x,HC,A.dx,_,rfl,k1,D.cls,D.a4,by show(4:Nat)<1000;decide,?_⟩));subst z4;have Ta:=Eg.Ee (n:=n) k1;show wE Z (.raw 8) S6 _ D0.rt;refine aG e8 ?_;have JQ:=λb o i e=>f5 b o i (JJ b o e);have fin:=q (upd JP x (.ins HC A.dx (bT "last_day" (.int n) _))) p (λb o i e=>?_) ?_ Ta
 ·have:((h.put n s w (.tuple [a,b,r]) L).en.length-1:Nat)=h.en.length:=by
   show(h.en++[_]).length-1=_;rw[av];rfl
  rw[this]at fin;exact fin
 ·have n1:b≠x:=λz=>i (.inl z);have n2:=λz=>i (.inr (.inr (.inl z)));have n3:=λz=>i (.inr (.inr (.inr (.inl z))));rw[aE n1];exact O b o n3 (X b o n2 (JQ b o i e))
 ·cases e:H p with
  |none=>rfl
  |some o=>
   exfalso;by_cases i:A.own x p
   ·rcases i with z|z|z|z|z
    ·obtain⟨vd,i1,_⟩:=y.ins;rw[<-z,v]at i1;cases i1
    ·have :=y.bZ.fH;rw[<-z,v]at this;cases this
    ·exact Y z
    ·exact JO z
    ·exact z3 z
   ·have :=X p o Y (JQ p o i e);rw[v]at this;cases this
theorem Eh:∀{ps:List D} {d es:aY},z0h d ps=some es->imms ps=true/\ps.all isPr=true
 | [],_,_,_=>⟨rfl,rfl⟩
 |p::ps,d,es,h=>by
  unfold z0h at h;split at h
  ·rename_i c a;split at h
   ·rename_i e;obtain⟨f,g⟩:=Eh h;obtain⟨i,b⟩:=au.mp e;have j:imm c=true:=by cases c<;>first|(cases i;done)|rfl
    have k:imm a=true:=by
     rcases dz.mp b with b|b
     ·cases a<;>first|(cases b;done)|rfl
     ·unfold stN at b;cases a<;>first|(cases b;done)|rfl
    exact⟨by show(imms [c,a]&&imms ps)=true;rw[f];simp[imms,j,k],by rw[cx,g];rfl⟩
   ·cases h
  ·cases h
theorem Ei {C:Addr}(h:Z.cl[j]?=some (C,b))(q:wA Z as a H λc H1=>∀x dx,H1 x=none->H1 dx=none->dx≠x->b (.ref x::(c++[])) (upd (upd H1 dx (.own x)) x (.ins C dx [])) (λv d=>v=.aK/\Q (.ref x) d) Z.E):wE Z (.mk j as) a H Q:=by show(match Z.cl[j]? with|some r=>vL r.1 r.2 [] Z.E (wA Z as)|none=>fX) a H Q;rw[h];exact q
theorem zct (s:HouK Z.K HC)(h1:Z.me[0]?=some (CC,("pairs_told":Str),spPt Z.K CC))(h2:Z.cl[0]?=some (CC,za9 Z.K CC Z.mg))(P:H x=some (.ins HC dx []))(ct:Crt Z.K CC H y dy d kvs es)(E:z0h [] (es.map ent)=some es)(hz:es.length<1000)
  (q:∀Q R A,(∀b o,b≠x->H b=some o->R b=some o)->(∀b,A.own x b->b=x\/H b=none)->H A.c=none->Hou Z.K HC CC R x A ⟨es,[],[],none⟩->D0.nx Q R):wS Z Hs.init D0 [some (.ref x),some (.ref y)] H:=by
 refine xR (Ei h2 (aL (iC h1 (aG rfl ⟨y,dy,_,rfl,ct.ins,rfl,bQ ⟨y,dy,d,kvs,es,rfl,ct,λH1 v s1 rv=>bQ λc dc hc S V5=>?_⟩⟩))));have T:Same H1 (upd (upd H1 dc (.own c)) c (.ins CC dc [])):=λb o e=>by rw[aE (bK e hc),aE (bK e S)];exact e
 have l:=s1.trans T;obtain⟨im,U⟩:=Eh E;refine⟨c,dc,v,es.map ent,AnyB,rfl,bF,rv.same T λ_ _=>trivial,im,U,by rw[am];exact hz,?_⟩;have m:=s1.none hc;generalize V6:upd (upd H1 dc (.own c)) c (.ins CC dc [])=H2 at T l;unfold t8;rw[E];intro C d3 F V k3 t;refine⟨rfl,?_⟩;have G:c≠x:=λz=>by subst z;rw[P]at m;cases m
 have I:=k3 _ _ (Ne.symm G) (l _ _ P);have h:=l.none V;have J:=λb o e=>k3 b o (bK e m) (l b o e);refine aG rfl ⟨x,HC,dx,[],rfl,I,s.cls,s.a1,by decide,?_⟩;show wS Z (.seq (.fld (.raw 0) "entries" (.lst .nil)) (.seq (.fld (.raw 0) "fates" (.lst .nil)) (.seq (.fld (.raw 0) "last_day" (.bD .aK)) .nil))) D0 [some (.ref x),some (.ref y)] (upd C x (.ins HC dx [("courts",.ref c)]));have W:∀b o,b≠x->C b=some o->upd C x (.ins HC dx [("courts",.ref c)]) b=some o:=λb o f e=>by rw[aE f];exact e
 have M:upd C x (.ins HC dx [("courts",.ref c)]) x=some (.ins HC dx [("courts",.ref c)]):=bF;generalize upd C x (.ins HC dx [("courts",.ref c)])=u at W M ⊢;refine xR (xF (bQ ⟨cz _,λle n=>aG rfl ⟨x,HC,dx,_,rfl,by rw[aE (bK M n)];exact M,s.cls,s.a2,by show 1<1000;decide,?_⟩⟩));have g:=Ne.symm (bK M n);have X:∀b o,b≠x->u b=some o->upd (upd u le (.lst [])) x (.ins HC dx [("courts",.ref c),("entries",.ref le)]) b=some o:=λb o f e=>by rw[aE f,aE (bK e n)];exact e
 have N:upd (upd u le (.lst [])) x (.ins HC dx [("courts",.ref c),("entries",.ref le)]) x=some (.ins HC dx [("courts",.ref c),("entries",.ref le)]):=bF;have Y:upd (upd u le (.lst [])) x (.ins HC dx [("courts",.ref c),("entries",.ref le)]) le=some (.lst []):=by rw[aE g,bF]
 show wS Z (.seq (.fld (.raw 0) "fates" (.lst .nil)) (.seq (.fld (.raw 0) "last_day" (.bD .aK)) .nil)) D0 [some (.ref x),some (.ref y)] (upd (upd u le (.lst [])) x (.ins HC dx [("courts",.ref c),("entries",.ref le)]));generalize upd (upd u le (.lst [])) x (.ins HC dx [("courts",.ref c),("entries",.ref le)])=B at X N Y ⊢;refine xR (xF (bQ ⟨cz _,λlf i=>aG rfl ⟨x,HC,dx,_,rfl,by rw[aE (bK N i)];exact N,s.cls,s.a3,by show 2<1000;decide,?_⟩⟩));have j:=Ne.symm (bK N i);have k6:∀b o,b≠x->B b=some o->upd (upd B lf (.lst [])) x (.ins HC dx [("courts",.ref c),("entries",.ref le),("fates",.ref lf)]) b=some o:=λb o f e=>by rw[aE f,aE (bK e i)];exact e
 have x6:upd (upd B lf (.lst [])) x (.ins HC dx [("courts",.ref c),("entries",.ref le),("fates",.ref lf)]) x=some (.ins HC dx [("courts",.ref c),("entries",.ref le),("fates",.ref lf)]):=bF;have l6:upd (upd B lf (.lst [])) x (.ins HC dx [("courts",.ref c),("entries",.ref le),("fates",.ref lf)]) lf=some (.lst []):=by rw[aE j,bF]
 show wS Z (.seq (.fld (.raw 0) "last_day" (.bD .aK)) .nil) D0 [some (.ref x),some (.ref y)] (upd (upd B lf (.lst [])) x (.ins HC dx [("courts",.ref c),("entries",.ref le),("fates",.ref lf)]));generalize upd (upd B lf (.lst [])) x (.ins HC dx [("courts",.ref c),("entries",.ref le),("fates",.ref lf)])=H6 at k6 x6 l6 ⊢;refine xR (Ju λH7 O=>aG rfl ⟨x,HC,dx,_,rfl,O _ _ x6,s.cls,s.a4,by show 3<1000;decide,?_⟩);have r:∀b o,b≠x->C b=some o->upd H7 x (.ins HC dx (bT "last_day" .aK [("courts",.ref c),("entries",.ref le),("fates",.ref lf)])) b=some o:=λb o f e=>by rw[aE f];exact O _ _ (k6 b o f (X b o f (W b o f e)))
 have fresh:∀p,(u p=none\/B p=none)->p≠x->H p=none:=λp D L=>by
  cases e:H p with
  |none=>rfl
  |some o=>
   have e4:=W p o L (J p o e);rcases D with D|D
   ·rw[D]at e4;cases e4
   ·rw[X p o L e4]at D;cases D
 refine q _ _ ⟨dx,c,dc,d3,le,lf,F,[]⟩ (λb o f e=>r b o f (J b o e)) (λb f=>?_) m ⟨⟨.aK,bF,rfl⟩,⟨r _ _ G t.ins,r _ _ (λz=>by subst z;rw[P]at h;cases h) t.fH,aV.keep (λb o e z=>r b o (λw=>by subst w;rw[I]at e;cases e;exact z.elim id id) e) (λ_ z=>z) _ t.re⟩,⟨[],by rw[aE g];exact O _ _ (k6 _ _ g Y),rfl⟩,by rw[aE j];exact O _ _ l6,⟨rfl,λk a e=>by cases e⟩,List.nodup_nil,bK Y i,by simp,by simp⟩;rcases f with rfl|rfl|rfl|rfl|f
 ·exact .inl rfl
 ·exact .inr h
 ·exact .inr (fresh _ (.inl n) g)
 ·exact .inr (fresh _ (.inr i) j)
 ·cases f
theorem JR (t:D):∀L ft k,L.Nodup->(eZ ft L t).getD k []=if k∈L/\k<ft.length then ft.getD k []++[t]else ft.getD k []
 | [],ft,k,_=>by rw[rq (by simp)];rfl
 |i::L,ft,k,nd=>by
  obtain⟨c,d⟩:=dr.mp nd;show(eZ (ft.set i (ft.getD i []++[t])) L t).getD k []=_;rw[JR t L _ k d,cn]
  have e:(ft.set i (ft.getD i []++[t])).getD k []=if i=k/\k<ft.length then ft.getD k []++[t]else ft.getD k []:=by
   rw[aa,dg];by_cases a:i=k
   ·subst a;by_cases b:i<ft.length
    ·rw[rj rfl,rj b,rj ⟨rfl,b⟩];rfl
    ·rw[rj rfl,rq b,rq (λz=>b z.2),aa,fg (by omega)]
   ·rw[rq a,rq (λz=>a z.1),aa]
  rw[e];by_cases a:i=k
  ·subst a;rw[rq (λz=>c z.1)];by_cases b:i<ft.length
   ·rw[rj ⟨rfl,b⟩,rj ⟨by simp,b⟩]
   ·rw[rq (λz=>b z.2),rq (λz=>b z.2)]
  ·rw[rq (λ(z:i=k/\k<ft.length)=>a z.1)];by_cases hm:k∈L/\k<ft.length
   ·rw[rj hm,rj ⟨ba _ hm.1,hm.2⟩]
   ·rw[rq hm,rq (λz=>hm ⟨(az.mp z.1).resolve_left (Ne.symm a),z.2⟩)]
theorem Tb (s w:Str)(r:D):(fll φ h s w r).Nodup:=(List.nodup_range.filter _).filter _
theorem Tc (b:k∈fll φ h s w r):(h.fa k).length=1:=by have a:=(au.mp ((dj.mp (dj.mp b).1).2)).2;rw[φ.s0]at a;exact sj a
theorem Hok.put (ok:Hok φ h)(g:h.en.length<1000)(i:φ.G r)(j:imm r=true)(l:z2c h.es s=true):Hok φ (h.put n s w r (fll φ h s w r)) where
 len:=by show(eZ h.ft _ _++[_]).length=(h.en++[_]).length;rw[av,av,Ef,ok.len];rfl
 big:=by show(h.en++[_]).length<=1000;rw[av];exact g
 gd:=λe a=>by
  rcases b6.mp a with a|a
  ·exact ok.gd e a
  ·cases bf.mp a;exact⟨i,j,l⟩
 fo:=λf hf=>by
  rcases b6.mp hf with hf|hf
  ·obtain⟨k,c⟩:=cb.mp hf;have b:k<h.ft.length:=by have:=(aw.mp c).1;rw[Ef]at this;exact this
   have e:=JR (z8y n h.en.length) (fll φ h s w r) h.ft k (Tb s w r);rw[aa,c]at e;have e:f=if k∈fll φ h s w r/\k<h.ft.length then h.ft.getD k []++[z8y n h.en.length]else h.ft.getD k []:=e
   have fo:=ok.fo _ (aq (Hd.pZ b));by_cases hm:k∈fll φ h s w r
   ·rw[rj ⟨hm,b⟩]at e;rw[e];have d:(h.ft.getD k []).length=1:=Tc hm;refine⟨by rw[av,d];exact Nat.le_add_right _ _,by rw[av,d];exact ah 2,λr hr=>?_⟩;rcases b6.mp hr with hr|hr
    ·exact fo.2.2 r hr
    ·cases bf.mp hr;rfl
   ·rw[rq (λz=>hm z.1)]at e;rw[e];exact fo
  ·cases bf.mp hf;exact⟨ah 1,kg 1,λr hr=>by cases bf.mp hr;rfl⟩
abbrev Cw:=Str×Option Str
def gZ:Option Str->D
 |none=>.none
 |some s=>.str s
def cwD (r:Cw):D:=.tuple [.str r.1,gZ r.2]
theorem z5 (o:Option Str):imm (gZ o)=true:=by cases o<;>rfl
theorem Ej (r:Cw):imm (cwD r)=true:=by show imms [.str r.1,gZ r.2]=true;rw[imms,imms,imms,z5];rfl
def GoodC (rs:List Cw):Prop:=∀(k:Nat) (s a:Str),rs[k]?=some (s,some a)->a∈(rs.take k).map (·.1)
theorem GoodC.snoc (h:GoodC rs)(f:∀a,o=some a->a∈rs.map (·.1)):GoodC (rs++[(s,o)]):=λk g a e=>by
 by_cases d:k<rs.length
 ·rw[cy d]at e;rw[kq (gr d)];exact h k g a e
 ·have b:=(aw.mp e).1;rw[av,d5]at b;have c:k=rs.length:=by omega
  subst c;rw[b9 (ah _),gy]at e;cases e;rw[kq (ah _),gg];exact f a rfl
def esC (rs:List Cw):aY:=rs.map λr=>(.str r.1,gZ r.2)
abbrev nmC (rs:List Cw):List Str:=rs.map (·.1)
theorem Td (rs:List Cw):(esC rs).map ent=rs.map cwD:=by unfold esC;rw[ge];rfl
theorem Te (rs:List Cw):(esC rs).length=rs.length:=am ..
theorem xS (h:z0d es k=some w):z0d (es++fs) k=some w:=by
 unfold z0d at *
 rw[l0];obtain⟨e,a,b⟩:=bn.mp h;rw[a];exact congrArg some b
theorem JS (rs:List Cw)(s:Str):z0d (esC rs) (.str s)=(rs.find? λr=>decide (r.1=s)).map λr=>gZ r.2:=by
 unfold z0d esC
 induction rs with
 |nil=>rfl
 |cons r rs a=>
  rw[bj];have b:eqK (PyData.str r.1) (.str s)=decide (r.1=s):=rfl;rw[ey,ey];rw[b];cases e:decide (r.1=s)with
  |true=>rfl
  |false=>exact a
theorem stC:stN (esC rs) (.str s)=true↔s∈nmC rs:=by
 show(z0d (esC rs) (.str s)).isSome=true↔_;rw[JS,iz,qi,cf];constructor
 ·rintro⟨r,a,b⟩
  exact⟨r,a,sg b⟩
 ·rintro⟨r,a,b⟩
  exact⟨r,a,si b⟩
theorem JT (h:s∉nmC rs):stN (esC rs) (.str s)=false:=by
 cases e:stN (esC rs) (.str s)with
 |false=>rfl
 |true=>exact absurd (stC.mp e) h
theorem Ek:∀{n m:Nat} {s:Str},aR es n s=true->n<=m->aR es m s=true
 |0,0,s,h,_=>h
 |0,m+1,s,h,_=>by
  unfold aR at h;split at h
  ·rename_i e;show(match z0d es (.str s)with|some .none=>true|some (.str a)=>aR es m a|_=>false)=true;rw[e]
  ·cases h
 |n+1,0,_,_,h=>by omega
 |n+1,m+1,s,h,hm=>by
  show(match z0d es (.str s)with|some .none=>true|some (.str a)=>aR es m a|_=>false)=true;have h:(match z0d es (.str s)with|some .none=>true|some (.str a)=>aR es n a|_=>false)=true:=h;split at h
  ·rfl
  ·exact Ek h (Nat.le_of_succ_le_succ hm)
  ·cases h
theorem JU:∀{n:Nat} {s:Str},aR es n s=true->eK (es++fs) n s=eK es n s/\aR (es++fs) n s=true
 |0,s,h=>by
  unfold aR at h;split at h
  ·rename_i e;refine⟨rfl,?_⟩;show(match z0d (es++fs) (.str s)with|some .none=>true|_=>false)=true;rw[xS e]
  ·cases h
 |n+1,s,h=>by
  unfold aR at h;split at h
  ·rename_i e;constructor
   ·show(match z0d (es++fs) (.str s)with|some (.str a)=>s::eK (es++fs) n a|_=>[s])=match z0d es (.str s)with|some (.str a)=>s::eK es n a|_=>[s]
    rw[xS e,e]
   ·show(match z0d (es++fs) (.str s)with|some .none=>true|some (.str a)=>aR (es++fs) n a|_=>false)=true;rw[xS e]
  ·rename_i a e;obtain⟨b,c⟩:=JU h;constructor
   ·show(match z0d (es++fs) (.str s)with|some (.str a)=>s::eK (es++fs) n a|_=>[s])=match z0d es (.str s)with|some (.str a)=>s::eK es n a|_=>[s]
    rw[xS e,e];exact congrArg (s:: ·) b
   ·show(match z0d (es++fs) (.str s)with|some .none=>true|some (.str a)=>aR (es++fs) n a|_=>false)=true;rw[xS e];exact c
  ·cases h
section
variable {rs:List Cw}
theorem z6 (a:k<rs.length):rs.take (k+1)=rs.take k++[rs[k]]:=by rw[j5,ae a];rfl
theorem JV (nd:(nmC rs).Nodup)(c:k<rs.length):rs[k].1∉nmC (rs.take k):=λz=>by obtain⟨r,d,e⟩:=cf.mp z;obtain⟨j,a⟩:=cb.mp d;have b:=(aw.mp a).1;rw[dw]at b;rw[jg (by omega)]at a;have:=xQ nd (by rw[ar,a];exact congrArg some e) (by rw[ar,ae c];rfl);omega
theorem Tf (nd:(nmC rs).Nodup)(g:GoodC rs)(b:k<rs.length):iB (esC (rs.take k)) (.str rs[k].1) (gZ rs[k].2)=true:=by
 have c:(z0d (esC (rs.take k)) (.str rs[k].1)).isSome=false:=JT (JV nd b);unfold iB;rw[c];cases e:rs[k].2 with
 |none=>rfl
 |some a=>have:=g k rs[k].1 a (by rw[ae b,<-e]);show(true&&(false||stN (esC (rs.take k)) (.str a)))=true;rw[stC.mpr this];rfl
theorem xT (nd:(nmC rs).Nodup)(g:GoodC rs):∀k,k<=rs.length->∀s∈nmC (rs.take k),aR (esC (rs.take k)) k s=true
 |0,_,s,h=>by cases h
 |k+1,c,s,h=>by
  have b:=c;have e:esC (rs.take (k+1))=esC (rs.take k)++[(.str rs[k].1,gZ rs[k].2)]:=by rw[z6 b];unfold esC;rw[cv];rfl
  have old:∀t∈nmC (rs.take k),aR (esC (rs.take (k+1))) k t=true:=λt d=>by rw[e];exact(JU (xT nd g k (gr b) t d)).2
  rw[z6 b]at h;have h:s∈nmC (rs.take k)++[rs[k].1]:=by rw[<-List.map_singleton,<-cv];exact h
  rcases b6.mp h with h|h
  ·exact Ek (old s h) (kg _)
  ·have hs:s=rs[k].1:=bf.mp h
   have hn:z0d (esC (rs.take (k+1))) (.str s)=some (gZ rs[k].2):=by
    rw[JS,z6 b,l0];have:(rs.take k).find? (λr=>decide (r.1=s))=none:=by rw[lj];intro r hr z;exact JV nd b (cf.mpr ⟨r,hr,(sg z).trans hs⟩)
    rw[this,Option.none_or,ey,show decide (rs[k].1=s)=true from si hs.symm];rfl
   show(match z0d (esC (rs.take (k+1))) (.str s)with|some .none=>true|some (.str a)=>aR (esC (rs.take (k+1))) k a|_=>false)=true;rw[hn];cases f:rs[k].2 with
   |none=>rfl
   |some a=>exact old a (g k rs[k].1 a (by rw[ae b,<-f]))
theorem El (nd:(nmC rs).Nodup)(g:GoodC rs)(b:rs.length<=999)(a:k<=rs.length)(h:s∈nmC (rs.take k)):z2c (esC (rs.take k)) s=true:=by unfold z2c;rw[stC.mpr h,Ek (xT nd g k a s h) (show k<=999 by omega)];rfl
theorem JW (nd:(nmC rs).Nodup)(g:GoodC rs):∀k,k<=rs.length->z0h [] ((rs.take k).map cwD)=some (esC (rs.take k))
 |0,_=>rfl
 |k+1,l=>by
  have d:=l;have f:=JW nd g k (gr d)
  have app:∀{ps:List D} {b es:aY} {c a:D},z0h b ps=some es->iB es c a=true->z0h b (ps++[.tuple [c,a]])=some (es++[(c,a)]):=λ{ps}=>by
   induction ps with
   |nil=>intro b es c a e h;cases e;show(if iB b c a=true then z0h (b++[(c,a)]) []else none)=_;rw[rj h];rfl
   |cons p ps f=>
    intro b es c a e h;unfold z0h at e;split at e
    ·rename_i i j;split at e
     ·rename_i m;show(if iB b i j=true then z0h (b++[(i,j)]) (ps++[.tuple [c,a]])else none)=_;rw[rj m];exact f e h
     ·cases e
    ·cases e
  rw[z6 d,cv];refine(app f (Tf nd g d)).trans ?_;unfold esC;rw[cv];rfl
end
namespace Hl
abbrev Em (i:Nat)(k:Int):W:=.ix (.raw i) (.bD (.int k))
abbrev Th:WS:=.seq (.asg 5 (.tup (.cons (.bD (.str "number")) (.cons (.dF (.raw 0) 0 (.cons (.raw 1) (.cons (.raw 2) (.cons (.raw 3) (.cons (Em 4 0) (.cons (Em 4 1) (.cons (Em 4 2) .nil))))))) .nil)))) .nil
abbrev JX:WS:=.seq (.asg 5 (.tup (.cons (.bD (.str "barred")) (.cons (.jF "by") .nil)))) .nil
def te:WS:=.seq (.asg 5 (.bD (.tup (.cons (.str "number") (.cons (.neg (.int 1)) .nil))))) (.seq (.t7 Th (.hn "NotAllowed" (some "by") JX .nil) 6 7) (.seq (.ret (.raw 5)) .nil))
abbrev rF:WS:=.seq (.ret (.bD (.bl false))) .nil
end Hl
theorem fI (q:wE Z e a H λv H1=>wS Z b c (a.set i (some v)) H1):wS Z (.seq (.asg i e) b) c a H:=q
theorem Ti {rest:WS}(c:wX Z hs ⟨wS Z rest a,a.rt,a.bk,a.ct⟩ i n=E)(q:wS {Z with E:=E} b ⟨wS Z rest a,a.rt,λ_ _=>False,λ_ _=>False⟩ σ H):wS Z (.seq (.t7 b hs i n) rest) a σ H:=by subst c;exact q
theorem z7:PyData.strOk "number"=true:=by decide+kernel
theorem z8:PyData.strOk "barred"=true:=by decide+kernel
section
variable (φ:dY)(K:W.Frag)(HC CC:Addr)(mg:Str->Option Value)
def spTe:Sp:=λvs H Q _=>∃x A h n vc s vw w vm a b r B,vs=[.ref x,.int n,vc,vw,vm]/\Hou K HC CC H x A h/\Hok φ h/\h.en.length<1000/\Rep K H B vc (.str s)/\Rep K H B vw (.str w)/\Rep K H B vm (.tuple [a,b,r])/\imms [a,b,r]=true/\φ.G (.tuple [a,b,r])/\z2c h.es s=true/\late h.ld n=false/\
 match bar φ h s w (.tuple [a,b,r])with
 |some k=>∀H' v,Same H H'->Rep K H' NoB v (.tuple [.str "barred",.int k])->Q v H'
 |none=>∀H' p v,Frm1 A x H H'->H p=none->Hou K HC CC H' x {A with as:=A.as++[p]} (h.put n s w (.tuple [a,b,r]) (fll φ h s w (.tuple [a,b,r])))->Rep K H' NoB v (.tuple [.str "number",.int h.en.length])->Q v H'
end
theorem Tj (s:Same H a)(hd:H d=none):Same H (iM a d):=λb o e=>by unfold iM;rw[rq (bK e hd)];exact s b o e
theorem zpa {vw:V}(O:Z.me[0]?=some (HC,("enter":Str),spEn φ Z.K HC CC Z.mg))(t:Hou Z.K HC CC H x A h)(ok:Hok φ h)(F:h.en.length<1000)(P:Rep Z.K H B M (.str s))(I:Rep Z.K H B vw (.str w))(rm:Rep Z.K H B Q (.tuple [a,b,r]))(R:imms [a,b,r]=true)(S:φ.G (.tuple [a,b,r]))(T:z2c h.es s=true)(J:late h.ld n=false)
  (q:match bar φ h s w (.tuple [a,b,r])with
   |some k=>∀d v,Same H d->Rep Z.K d NoB v (.tuple [.str "barred",.int k])->D0.rt v d
   |none=>∀d p v,Frm1 A x H d->H p=none->Hou Z.K HC CC d x {A with as:=A.as++[p]} (h.put n s w (.tuple [a,b,r]) (fll φ h s w (.tuple [a,b,r])))->Rep Z.K d NoB v (.tuple [.str "number",.int h.en.length])->D0.rt v d):
  wS Z Hl.te D0 [some (.ref x),some (.int n),some M,some vw,some Q,none,none] H:=by
 have big:ay>3000:=by rw[ci];decide
 refine fI (Jv zO rfl λv0 H0 s0 _=>?_);obtain⟨U,W⟩:=au.mp T;generalize N:wX Z (.hn "NotAllowed" (some "by") Hl.JX .nil) ⟨wS Z (.seq (.ret (.raw 5)) .nil) D0,D0.rt,D0.bk,D0.ct⟩ 6 7=E;refine Ti N (fI (pY (aL (kP z7 λH1 X=>aL (iC O (aG rfl ?_))))));have g:=s0.trans X;obtain⟨fs,Y,i2⟩:=(t.same g).cR;have i:=rm.same g λ_ z=>z;refine⟨x,A.dx,fs,rfl,Y,i2 _ dc dc dc dc,aL (aG rfl (aL (aG rfl (aL (aG rfl (aL (jB (aG rfl (kO λH2 m=>iN (i.same m λ_ z=>z) rfl λw4 r4=>aL (jB (aG rfl (kO λH3 u=>iN (i.same (m.trans u) λ_ z=>z) rfl λw5 r5=>aL (jB (aG rfl (kO λH4 y=>iN (i.same (m.trans (u.trans y)) λ_ z=>z) rfl λw6 r6=>bQ ?_)))))))))))))))⟩;have c:=g.trans (m.trans (u.trans y));refine⟨x,A,h,n,M,.str s,vw,w,w4,w5,w6,a,b,r,B,rfl,t.same c,ok,F,P.same c λ_ z=>z,I.same c λ_ z=>z,r4.same (u.trans y) λ_ z=>z,r5.same y λ_ z=>z,r6,R,S,?_⟩;rw[rj U];refine⟨s,rfl,W,?_⟩;rw[rq (by rw[J];decide)];cases f:bar φ h s w (.tuple [a,b,r])with
 |some k=>rw[f]at q;intro C H5 dp hC s5 hd L;rw[<-N];refine .inl ⟨C,hC,rfl,dp,_,rfl,L,?_⟩;refine fI (pY (aL (kP z8 λH6 s6=>aL (SH rfl (bQ ⟨by show 2<=ay;omega,λp D=>?_⟩)))));refine⟨.ref p,rfl,q _ _ ((Tj (c.trans s5) (c.none hd)).trans (s6.trans (Same.upd D))) ?_⟩;exact gU D (Reps.cons ⟨rfl,z8⟩ (Reps.cons rfl rfl))
 |none=>
  rw[f]at q;intro H5 p f5 D t5;refine bQ ⟨by show 2<=ay;omega,λp6 j=>?_⟩;have l:((h.put n s w (.tuple [a,b,r]) (fll φ h s w (.tuple [a,b,r]))).en.length-1:Nat)=h.en.length:=by show(h.en++[_]).length-1=_;rw[av];rfl
  rw[l];refine⟨.ref p6,rfl,q _ p _ (λb o F e=>Same.upd j b o (f5 b o F (c b o e))) (c.none D) (t5.same (Same.upd j)) ?_⟩;exact gU j (Reps.cons ⟨rfl,z7⟩ (Reps.cons rfl rfl))
theorem gW (q:wS Z a {c with nx:=wS Z b c} σ H):wS Z (.seq a b) c σ H:=q
theorem qA (q:wT Z c d H λk H1=>if k=true then wS Z a e d H1 else wS Z b e d H1):wS Z (.bU c a b) e d H:=q
theorem iF (Z:Wc)(q:a.nx b H):wS Z .nil a b H:=q
theorem xU (q:wE Z e a H c.rt):wS Z (.seq (.ret e) b) c a H:=q
theorem JY (ks:List Nat):bE 40 (.list (z1g ks))=true:=sZ.mpr λx a=>by obtain⟨k,_,rfl⟩:=cf.mp a;rfl
end Mi
namespace Mk
open PySem Mi
def xV:S:=(.seq (.bU (.not (.and (.tv (.gL (.var 0) ["str"])) (.tv (.cmp .In (.var 0) (.tup (.cons (.str "for") (.cons (.str "against") .nil)))))))
 (.seq .bad
 .nil)
 .nil)
 .nil)
def ub:Fn:=aT [] [] 1 xV
def xW:S:=(.seq (.drop (.call 0 "check_side" (.cons (.var 1) .nil)))
 (.seq (.ret (.tf (.tv (.cmp .Eq (.var 1) (.str "for"))) (.ix (.var 0) (.int 0)) (.ix (.var 0) (.int 1))))
 .nil))
def nK:Fn:=aT [] [ub] 2 xW
def xX:S:=(.seq (.asg (.nm 2) (.jJ "dict" (.tv (.var 1))))
 (.seq (.ret (.comp 2 [2] ["name","amount","held"] (.tp [0,1]) (.tv (.var 0)) (.tv (.cmp .Gt (.var 1) (.mt "get" (.var 2) (.cons (.var 0) (.cons (.int 0) .nil))))) (.var 0)))
 .nil))
def uc:Fn:=aT [] [] 3 xX
def xY:S:=(.seq (.ret (.cmp .Eq (.call 0 "over" (.cons (.var 0) (.cons (.var 1) .nil))) (.lst .nil))) .nil)
def nM:Fn:=aT [] [uc] 2 xY
def xZ:S:=(.seq (.bU (.not (.tv (.call 0 "within" (.cons (.var 2) (.cons (.call 1 "side_of" (.cons (.var 0) (.cons (.var 1) .nil))) .nil)))))
 (.seq .bad
 .nil)
 .nil)
 (.seq (.ret (.tup (.cons (.var 0) (.cons (.var 1) (.cons (.var 2) .nil)))))
 .nil))
def qB:Fn:=aT [] [nM,nK] 3 xZ
def x4:S:=(.seq (.ret (.and (.cmp .NotEq (.ix (.var 0) (.int 1)) (.ix (.var 1) (.int 1))) (.and (.call 0 "within" (.cons (.ix (.var 0) (.int 2)) (.cons (.call 1 "side_of" (.cons (.ix (.var 1) (.int 0)) (.cons (.ix (.var 0) (.int 1)) .nil))) .nil))) (.call 0 "within" (.cons (.ix (.var 1) (.int 2)) (.cons (.call 1 "side_of" (.cons (.ix (.var 0) (.int 0)) (.cons (.ix (.var 1) (.int 1)) .nil))) .nil)))))) .nil)
def gX:Fn:=aT [] [nM,nK] 2 x4
def x5:S:=(.seq (.bJ (.tp [2,3]) (.enum (.var 0))
 (.seq (.bU (.tv (.call 0 "against" (.cons (.var 3) (.cons (.var 1) .nil))))
 (.seq (.ret (.var 2))
 .nil)
 .nil)
 .nil))
 (.seq (.ret .aK)
 .nil))
def qC:Fn:=aT [] [gX] 4 x5
def x8:S:=(.seq (.bU (.tv (.oQ false (.var 1)))
 (.seq (.ret (.cmp .Eq (.bi "len" (.cons (.var 0) .nil)) (.int 1)))
 .nil)
 .nil)
 (.seq (.ret (.and (.cmp .LtE (.ix (.ix (.var 0) (.int 0)) (.int 1)) (.var 1)) (.or (.cmp .Eq (.bi "len" (.cons (.var 0) .nil)) (.int 1)) (.cmp .Gt (.ix (.ix (.var 0) (.int 1)) (.int 1)) (.var 1)))))
 .nil))
def qD:Fn:=aT [] [] 2 x8
def x9:S:=(.seq (.bU (.tv (.cmp .Lt (.var 1) (.bi "len" (.cons (.var 0) .nil))))
 (.seq (.ret (.ix (.var 0) (.var 1)))
 .nil)
 .nil)
 (.seq (.ret (.int 0))
 .nil))
def qE:Fn:=aT [] [] 2 x9
def x':S:=(.seq (.ret (.and (.gL (.var 0) ["int"]) (.not (.gL (.var 0) ["bool"])))) .nil)
def qF:Fn:=aT [] [] 1 x'
def JZ:S:=(.seq (.asg (.nm 2) (.bin .Mod (.bin .Mult (.bin .Add (.bin .Add (.bin .Add (.bin .Mod (.var 0) (.int 2147483647)) (.bin .Mult (.bin .Mult (.int 7919) (.var 1)) (.var 1))) (.bin .Mult (.var 1) (.var 1))) (.int 1)) (.int 48271)) (.int 2147483629)))
 (.seq (.ret (.bin .Mod (.bin .Mult (.var 2) (.var 2)) (.int 2147483587)))
 .nil))
def kS:Fn:=aT [] [] 3 JZ
def J1:S:=(.seq (.bU (.tv (.var 2))
 (.seq (.ret (.tup (.cons (.ix (.var 0) (.var 1)) (.cons (.bl true) .nil))))
 .nil)
 .nil)
 (.seq (.ret (.tup (.cons (.call 0 "_law_mix" (.cons (.ix (.var 0) (.var 1)) (.cons (.var 1) .nil))) (.cons (.bl false) .nil))))
 .nil))
def Eo:Fn:=aT [] [kS] 3 J1
def Ep:S:=(.seq (.asg (.tp [2,3]) (.var 0))
 (.seq (.bU (.not (.tv (.var 3)))
 (.seq (.ret (.bin .Mod (.call 0 "_law_mix" (.cons (.var 2) (.cons (.var 1) .nil))) (.int 60)))
 .nil)
 .nil)
 (.seq (.bJ (.nm 4) (.eN (.cons (.var 1) .nil))
 (.seq (.asg (.nm 2) (.bin .FloorDiv (.var 2) (.int 60)))
 .nil))
 (.seq (.ret (.bin .Mod (.var 2) (.int 60)))
 .nil))))
def jD:Fn:=aT [] [kS] 5 Ep
def Er:S:=(.seq (.asg (.nm 2) (.str "abcdefghijklmnopqrstuvwxyz"))
 (.seq (.asg (.nm 3) (.mt "join" (.str "") (.cons (.comp 1 [2,0] ["_law_k","_law_letters","_law_cell_here"] (.nm 0) (.eN (.cons (.bin .Mod (.call 0 "_law_mix" (.cons (.var 0) (.cons (.int 29) .nil))) (.int 10)) .nil)) .nil (.ix (.var 1) (.bin .Mod (.call 0 "_law_mix" (.cons (.var 2) (.cons (.bin .Add (.int 30) (.var 0)) .nil))) (.int 26)))) .nil)))
 (.seq (.asg (.nm 4) (.bin .Mod (.call 0 "_law_mix" (.cons (.var 0) (.cons (.int 28) .nil))) (.bin .Add (.bi "len" (.cons (.var 3) .nil)) (.int 1))))
 (.seq (.asg (.nm 5) (.lst (.cons (.str "j") (.cons (.str "q") (.cons (.str "v") (.cons (.str "x") (.cons (.str "z") (.cons (.str "jz") (.cons (.str "qz") (.cons (.str "vz") (.cons (.str "xz") (.cons (.str "zj") .nil))))))))))))
 (.seq (.ret (.comp 1 [3,5,4,0] ["_law_k","_law_base","_law_signs","_law_at","_law_cell_here"] (.nm 0) (.eN (.cons (.var 1) .nil)) .nil (.bin .Add (.bin .Add (.sl (.var 1) .nil (.tv (.var 3))) (.ix (.var 2) (.bin .Mod (.bin .Add (.var 0) (.var 4)) (.int 10)))) (.sl (.var 1) (.tv (.var 3)) .nil))))
 .nil)))))
def Es:Fn:=aT [] [kS] 6 Er
def J3:S:=(.seq (.ret (.ix (.lst (.cons (.int 0) (.cons (.int 1) (.cons (.int 2) (.cons (.var 1) (.cons (.bin .Add (.var 1) (.int 1)) (.cons (.int 0) .nil))))))) (.bin .Mod (.var 0) (.int 6)))) .nil)
def ud:Fn:=aT [] [] 2 J3
def J4:S:=(.seq (.asg (.nm 4) (.comp 1 [0,3,1,2] ["_law_k","_law_names_here","_law_great_here","_law_cell_here","_law_at"] (.nm 0) (.eN (.cons (.bi "len" (.cons (.var 0) .nil)) .nil)) .nil (.tup (.cons (.ix (.var 1) (.var 0)) (.cons (.call 0 "_law_degree" (.cons (.call 1 "_law_pick" (.cons (.var 3) (.cons (.bin .Add (.var 4) (.var 0)) .nil))) (.cons (.var 2) .nil))) .nil)))))
 (.seq (.ret (.jJ "tuple" (.tv (.jJ "sorted" (.tv (.comp 1 [] ["_law_pair"] (.nm 0) (.tv (.var 4)) (.tv (.cmp .Gt (.ix (.var 0) (.int 1)) (.int 0))) (.var 0)))))))
 .nil))
def uZ:Fn:=aT [] [ud,jD] 5 J4
def J5:S:=(.seq (.asg (.nm 2) (.jJ "dict" (.tv (.var 1))))
 (.seq (.bJ (.tp [3,4]) (.tv (.var 0))
 (.seq (.bU (.tv (.cmp .Gt (.var 4) (.mt "get" (.var 2) (.cons (.var 3) (.cons (.int 0) .nil)))))
 (.seq (.ret (.bl false))
 .nil)
 .nil)
 .nil))
 (.seq (.ret (.bl true))
 .nil)))
def rZ:Fn:=aT [] [] 5 J5
def J6:S:=(.seq (.asg (.nm 2) (.jJ "dict" (.tv (.var 1))))
 (.seq (.asg (.nm 3) (.comp 1 [2] ["_law_pair","_law_some"] (.nm 0) (.tv (.var 0)) .nil (.tup (.cons (.ix (.var 0) (.int 0)) (.cons (.bi "min" (.cons (.ix (.var 0) (.int 1)) (.cons (.mt "get" (.var 1) (.cons (.ix (.var 0) (.int 0)) (.cons (.int 0) .nil))) .nil))) .nil)))))
 (.seq (.ret (.jJ "tuple" (.tv (.comp 1 [] ["_law_pair"] (.nm 0) (.tv (.var 3)) (.tv (.cmp .Gt (.ix (.var 0) (.int 1)) (.int 0))) (.var 0)))))
 .nil)))
def ya:Fn:=aT [] [] 4 J6
def J7:S:=(.seq (.bU (.tv (.var 1))
 (.seq (.ret (.bin .Add (.int 3) (.bin .Mod (.bin .FloorDiv (.var 0) (.int 60)) (.bin .Sub (.bin .Pow (.int 10) (.int 30)) (.int 4)))))
 .nil)
 .nil)
 (.seq (.ret (.bin .Add (.int 3) (.bin .Mod (.bin .Mult (.bin .Mult (.bin .Mult (.call 0 "_law_mix" (.cons (.var 0) (.cons (.int 50) .nil))) (.call 0 "_law_mix" (.cons (.var 0) (.cons (.int 51) .nil)))) (.call 0 "_law_mix" (.cons (.var 0) (.cons (.int 52) .nil)))) (.call 0 "_law_mix" (.cons (.var 0) (.cons (.int 53) .nil)))) (.bin .Sub (.bin .Pow (.int 10) (.int 30)) (.int 4)))))
 .nil))
def Et:Fn:=aT [] [kS] 2 J7
def J8:S:=(.seq (.ret (.tup (.cons (.call 0 "_law_pack" (.cons (.sl (.var 0) .nil (.tv (.int 2))) (.cons (.var 1) (.cons (.var 2) (.cons (.var 3) .nil))))) (.cons (.call 0 "_law_pack" (.cons (.sl (.var 0) (.tv (.int 1)) (.tv (.int 3))) (.cons (.var 1) (.cons (.bin .Add (.var 2) (.int 2)) (.cons (.var 3) .nil))))) .nil)))) .nil)
def yb:Fn:=aT [] [uZ] 4 J8
def J9:S:=(.seq (.ret (.ix (.var 0) (.bi "int" (.cons (.cmp .Eq (.var 1) (.str "against")) .nil)))) .nil)
def nN:Fn:=aT [] [] 2 J9
def J':S:=(.seq (.bU (.tv (.cmp .Eq (.ix (.var 0) (.int 1)) (.ix (.var 1) (.int 1))))
 (.seq (.ret (.bl false))
 .nil)
 .nil)
 (.seq (.bU (.not (.tv (.call 0 "_law_within" (.cons (.ix (.var 0) (.int 2)) (.cons (.call 1 "_law_side" (.cons (.ix (.var 1) (.int 0)) (.cons (.ix (.var 0) (.int 1)) .nil))) .nil)))))
 (.seq (.ret (.bl false))
 .nil)
 .nil)
 (.seq (.ret (.call 0 "_law_within" (.cons (.ix (.var 1) (.int 2)) (.cons (.call 1 "_law_side" (.cons (.ix (.var 0) (.int 0)) (.cons (.ix (.var 1) (.int 1)) .nil))) .nil))))
 .nil)))
def Eu:Fn:=aT [] [rZ,nN] 2 J'
def Ew:S:=(.seq (.asg (.nm 3) (.call 4 "_law_case" (.cons (.var 0) (.cons (.var 1) (.cons (.int 4) (.cons (.var 2) .nil))))))
 (.seq (.asg (.nm 4) (.ix (.lst (.cons (.str "for") (.cons (.str "against") .nil))) (.bin .Mod (.call 0 "_law_pick" (.cons (.var 1) (.cons (.int 8) .nil))) (.int 2))))
 (.seq (.asg (.nm 5) (.call 3 "_law_side" (.cons (.var 3) (.cons (.var 4) .nil))))
 (.seq (.bU (.tv (.cmp .Gt (.bin .Mod (.call 0 "_law_pick" (.cons (.var 1) (.cons (.int 9) .nil))) (.int 3)) (.int 0)))
 (.seq (.asg (.nm 5) (.call 1 "_law_meet" (.cons (.var 5) (.cons (.call 2 "_law_pack" (.cons (.sl (.var 0) .nil (.tv (.int 3))) (.cons (.var 1) (.cons (.int 10) (.cons (.var 2) .nil))))) .nil))))
 .nil)
 .nil)
 (.seq (.ret (.tup (.cons (.var 3) (.cons (.var 4) (.cons (.var 5) .nil)))))
 .nil)))))
def Ex:Fn:=aT [] [jD,ya,uZ,nN,yb] 6 Ew
def Ka:S:=(.seq (.asg (.nm 2) (.lst (.cons (.tup (.cons (.ix (.var 1) (.int 0)) (.cons .aK .nil))) .nil)))
 (.seq (.bJ (.nm 3) (.eN (.cons (.int 1) (.cons (.int 5) .nil)))
 (.seq (.asg (.nm 4) (.bin .Add (.bin .Add (.lst (.cons .aK .nil)) (.comp 1 [] ["_law_row"] (.nm 0) (.tv (.var 2)) .nil (.ix (.var 0) (.int 0)))) (.lst (.cons (.ix (.ix (.var 2) (.neg (.int 1))) (.int 0)) .nil))))
 (.seq (.mut "append" 2 (.cons (.tup (.cons (.ix (.var 1) (.var 3)) (.cons (.ix (.var 4) (.bin .Mod (.call 0 "_law_pick" (.cons (.var 0) (.cons (.var 3) .nil))) (.bi "len" (.cons (.var 4) .nil)))) .nil))) .nil))
 .nil)))
 (.seq (.ret (.var 2))
 .nil)))
def z9:Fn:=aT [] [jD] 5 Ka
def Kb:S:=(.seq (.asg (.nm 2) (.jJ "dict" (.tv (.var 0))))
 (.seq (.asg (.nm 3) (.lst (.cons (.var 1) .nil)))
 (.seq (.wh 100000 (.tv (.oQ true (.ix (.var 2) (.ix (.var 3) (.neg (.int 1))))))
 (.seq (.mut "append" 3 (.cons (.ix (.var 2) (.ix (.var 3) (.neg (.int 1)))) .nil))
 .nil))
 (.seq (.ret (.var 3))
 .nil))))
def u1:Fn:=aT [] [] 4 Kb
def Kc:S:=(.seq (.asg (.nm 4) (.call 0 "_law_line" (.cons (.var 0) (.cons (.var 2) .nil))))
 (.seq (.asg (.nm 5) (.lst .nil))
 (.seq (.bJ (.nm 6) (.eN (.cons (.bi "len" (.cons (.var 1) .nil)) .nil))
 (.seq (.asg (.nm 7) (.ix (.var 1) (.var 6)))
 (.seq (.bU (.and (.tv (.cmp .Eq (.ix (.var 7) (.str "word")) (.var 3))) (.and (.tv (.cmp .In (.ix (.var 7) (.str "court")) (.var 4))) (.tv (.cmp .Eq (.bi "len" (.cons (.ix (.var 7) (.str "fate")) .nil)) (.int 1)))))
 (.seq (.mut "append" 5 (.cons (.var 6) .nil))
 .nil)
 .nil)
 .nil)))
 (.seq (.ret (.var 5))
 .nil))))
def Ab:Fn:=aT [] [u1] 8 Kc
theorem Ey (c:PK b):uc [pk a,pk b]=.ok (.fr,.list ((a.filter λp=>decide (look b p.1<p.2)).map λp=>.str p.1)):=by exact eD (fG (zx (xr (aD rfl) rfl (DA _ c.nd) (Iy b)) (Dm b)) (cC (IY nofun (z38 (λp=>decide (look b p.1<p.2)) (λp=>.str p.1) (gR (v_var rfl (fW a)).1 rfl) rfl (λp=>[some (.al,.str p.1),some (.al,.int p.2),some (.al,.dict (en b))]) (λp _=>rfl) (λp _=>aX (eJ (aD rfl) (pQ (aD rfl) (aF (aD rfl) (aF aN.e aW)) (Dz _ _) rfl).e rfl).e rfl) (λp _ _=>v_var rfl rfl)))))
theorem eq_nil (a:List D)(h:fR 39 a=true):cmpD .Eq (.list a) (.list [])=.ok a.isEmpty:=by show(if(bE 40 (.list a)&&bE 40 (.list []))=true then Res.ok (dZ (.list a) (.list []))else .no)=_;rw[rj (by show(fR 39 a&&true)=true;rw[h];rfl)];cases a<;>simp[dZ,PyData.eqv,PyData.eqvAll]
theorem zW (l:P):fR 39 (l.map λp=>PyData.str p.1)=true:=sZ.mpr λx a=>by obtain⟨p,_,rfl⟩:=cf.mp a;rfl
def wi (a b:P):Bool:=(a.filter λp=>decide (look b p.1<p.2)).isEmpty
theorem ue (c:PK b):nM [pk a,pk b]=.ok (.fr,.bool (wi a b)):=by refine eD ?_;refine cC (dN (eJ (lG (aF (aD rfl) (aF (aD rfl) aW)) rfl (Ey c)) (Ev.of (lF fO)) ?_));rw[eq_nil _ (zW _)];unfold wi;rw[List.isEmpty_map]
theorem Tn (c:PK a)(d:PK b):wi a b=true↔∀n,look a n<=look b n:=by
 unfold wi;rw[kb,iu];constructor
 ·intro h n;by_cases hn:n∈ks a
  ·obtain⟨v,e⟩:=Rh hn;have:=h _ (Di e);have f:look a n=v:=by unfold look;rw[e];rfl
   simp at this;rw[f];omega
  ·have :look a n=0:=by unfold look;rw[Iq hn];rfl
   rw[this];exact d.pN n
 ·intro h p g;have:=h p.1;rw[c.hZ g]at this;simp;omega
def sd (b:Bool):Str:=if b then "for"else "against"
def own (b:Bool)(f a:P):P:=if b then f else a
def kT (f a:P):D:=.tuple [pk f,pk a]
def rl (b:Bool)(f a r:P):D:=.tuple [kT f a,.str (sd b),pk r]
theorem u2 (f a:P):imm (kT f a)=true:=by show imms [pk f,pk a]=true;rw[imms,imms,imms,fW,fW];rfl
theorem To (b:Bool)(f a r:P):imm (rl b f a r)=true:=by show imms [kT f a,.str (sd b),pk r]=true;rw[imms,imms,imms,u2,fW];rfl
theorem Tq (b:Bool):ub [.str (sd b)]=.ok (.fr,.none):=by cases b<;>rfl
theorem Tr (h:Ev Κ Φ t a d):aP Κ Φ (.drop t) a=.ok (.nx a):=by obtain⟨g,h⟩:=h;show(aJ Κ Φ t a>>=λ_=>Res.ok (Out.nx a))=_;rw[h];rfl
theorem Ez (b:Bool)(f a:P):nK [kT f a,.str (sd b)]=.ok (.fr,pk (own b f a)):=by
 refine eD (fG (Tr (lG (aF (aD rfl) aW) rfl (Tq b))) ?_);cases b with
 |true=>exact cC (dN (IU (k:=true) (aX (eJ (aD rfl) dM.e rfl).e rfl) (λ_=>aO (aD rfl) aN.e rfl (fW f)) (y:=pk f) λz=>by cases z))
 |false=>exact cC (dN (IU (k:=false) (aX (eJ (aD rfl) dM.e rfl).e rfl) (x:=pk a) nofun λ_=>aO (aD rfl) aN.e rfl (fW a)))
theorem Ke (h:0<b)(c:b<2 ^ 200):dH .FloorDiv (.int a) (.int b)=.ok (.int (a/b)):=by show(if _ then _ else _)=_;rw[rj ⟨h,c⟩]
theorem Ts (cs:List Int):kB "len" [.list (cs.map .int)]=.ok (.int (cs.length:Int)):=by show Res.ok (PyData.int ((cs.map PyData.int).length:Int))=_;rw[am]
theorem qG (e:Ev Κ Φ a f x)(g:Oo Κ Φ b f i)(k:Oo Κ Φ c f j)(h:qW x i j=.ok d):Ev Κ Φ (.sl a b c) f d:=by obtain⟨l,e⟩:=e;unfold Oo at g k;exact⟨_,by rw[xp];rw[e,Res.aB,g,Res.aB,k,Res.aB];dsimp only;rw[h,Res.aB]⟩
def ag (b:Bool)(f a r:P)(b':Bool)(f' a' r':P):Bool:=(!(b==b'))&&(wi r (own b f' a')&&wi r' (own b' f a))
theorem Tu (b:Bool)(f a r:P)(c:Bool)(e g d:P):ag c e g d b f a r=ag b f a r c e g d:=by unfold ag;rw[Bool.and_comm (wi d _)];cases b<;>cases c<;>rfl
theorem Kg (b a:Bool):(sd b==sd a)=(b==a):=by cases b<;>cases a<;>rfl
theorem yc (hf:PK f)(c:PK a):PK (own b f a):=by cases b<;>assumption
theorem EA (hf:PK f)(q:PK a)(l:PK m)(n:PK o):gX [rl b f a r,rl p m o s]=.ok (.fr,.bool (ag b f a r p m o s)):=by refine eD ?_;have c:∀{Φ:List Fn} {d:Rho} {i:Nat} {g:G} {b:Bool} {f a r:P},d[i]?=some (some (g,rl b f a r))->Vv [] Φ (.ix (.var i) (.int 1)) d (.str (sd b)):=λh=>aO (aD h) aN.e rfl rfl;have j:∀{Φ:List Fn} {d:Rho} {i:Nat} {g:G} {b:Bool} {f a r:P},d[i]?=some (some (g,rl b f a r))->Vv [] Φ (.ix (.var i) (.int 2)) d (pk r):=λh=>aO (aD h) aN.e rfl (fW _);have k:∀{Φ:List Fn} {d:Rho} {i:Nat} {g:G} {b:Bool} {f a r:P},d[i]?=some (some (g,rl b f a r))->Vv [] Φ (.ix (.var i) (.int 0)) d (kT f a):=λh=>aO (aD h) aN.e rfl (u2 _ _);refine cC (dN (v_and (eJ (c rfl).e (c rfl).e (by show Res.ok (!(sd b==sd p))=_;rw[Kg])).e λ_=>v_and (cV (aF (j rfl).e (aF (lG (aF (k rfl).e (aF (c rfl).e aW)) rfl (Ez b m o)) aW)) rfl (ue (yc l n)) rfl).e λ_=>cV (aF (j rfl).e (aF (lG (aF (k rfl).e (aF (c rfl).e aW)) rfl (Ez p f a)) aW)) rfl (ue (yc hf q)) rfl))
def Nx (I:Rho->Prop)(z:Res Out):Prop:=∃iJ,z=.ok (.nx iJ)/\I iJ
theorem u3 (a:imm d=true):fF (.nm j) (gJ d g,d) ρ=.ok (ρ.set j (some (.al,d))):=by rw[mY a];rfl
theorem q_nm {Q:Res Out->Prop}{c:Type}{m:c->D}{xs:List c}(h:evF Κ Φ e n=.ok (g,xs.map m,d))(hm:∀x,imm (m x)=true)(I:List c->Rho->Prop)(h0:I [] d)
  (hf:∀pre x a n,xs=pre++x::a->I pre n->Nx (I (pre++[x])) (aP Κ Φ p (n.set j (some (.al,m x))))) (hk:∀b,I xs b->Q (aP Κ Φ rest b)):Q (aP Κ Φ (.seq (.bJ (.nm j) e p) rest) n):=
 ztz h I h0 (λpre x a n f i=>by obtain⟨b,k,l⟩:=hf pre x a n f i;exact⟨_,b,u3 (hm x),k,l⟩) hk
theorem EB {b:Type}(m:b->D){a:List b}{i:Int}(d:b)(h0:0<=i)(c:i<a.length):eO (.list (a.map m)) (.int i)=.ok (m (a.getD i.toNat d)):=by
 show Res.dQ (bW (a.map m) i)=_;rw[zw _ i (m d) h0 (by rw[am];exact c)]
 congr 1
 have:i.toNat<a.length:=by omega
 rw[aa,aa,ar,ae this];rfl
theorem u7 (a:List D):kB "len" [.list a]=.ok (.int (a.length:Int)):=rfl
theorem u9 {a:Type}{m:a->D}(h:∀x,imm (m x)=true)(b:List a):imms (b.map m)=true:=yN.mpr λx c=>by obtain⟨p,_,rfl⟩:=cf.mp c;exact h p
theorem Kh {s:Type}{m:s->D}{Q:Res Out->Prop}(I:List s->Rho->Prop):∀k pre j,(∀l x n j,pre++k=l++x::n->I l j->(∃i,f (m x) j=.ok (.nx i)/\I (l++[x]) i)\/∃g d,f (m x) j=.ok (.rt g d)/\Q (.ok (.rt g d)))->I pre j->(∃i,dD f (k.map m) j=.ok (.nx i)/\I (pre++k) i)\/∃g d,dD f (k.map m) j=.ok (.rt g d)/\Q (.ok (.rt g d))
 | [],pre,j,_,h=>.inl ⟨j,rfl,by rw[dm];exact h⟩
 |x::k,pre,j,hf,h=>by
  rcases hf pre x k j rfl h with⟨i,e,u⟩|⟨g,d,e,q⟩
  ·have t:pre++x::k=(pre++[x])++k:=by simp
   rcases Kh I k (pre++[x]) i (λa b c r hh=>hf a b c r (t.trans hh)) u with⟨o,p,v⟩|⟨g,d,p,q⟩
   ·exact .inl ⟨o,by rw[bj];show(match f (m x) j with|.ok (.nx i)=>dD f (k.map m) i|.ok (.rt g d)=>.ok (.rt g d)|.exc e=>.exc e|.no=>.no)=_;rw[e];exact p,by rw[t];exact v⟩
   ·exact .inr ⟨g,d,by rw[bj];show(match f (m x) j with|.ok (.nx i)=>dD f (k.map m) i|.ok (.rt g d)=>.ok (.rt g d)|.exc e=>.exc e|.no=>.no)=_;rw[e];exact p,q⟩
  ·exact .inr ⟨g,d,by rw[bj];show(match f (m x) j with|.ok (.nx i)=>dD f (k.map m) i|.ok (.rt g d)=>.ok (.rt g d)|.exc e=>.exc e|.no=>.no)=_;rw[e],q⟩
theorem zp9 {Q:Res Out->Prop}{k:Type}{m:k->D}{xs:List k}(h:evF Κ Φ s ρ=.ok (g,xs.map m,j))(I:List k->Rho->Prop)(h0:I [] j)
  (hf:∀pre x c ρ,xs=pre++x::c->I pre ρ->∃a,fF o (gJ (m x) g,m x) ρ=.ok a/\(Nx (I (pre++[x])) (aP Κ Φ p a)\/∃g d,aP Κ Φ p a=.ok (.rt g d)/\Q (.ok (.rt g d)))) (hk:∀b,I xs b->Q (aP Κ Φ rest b)):Q (aP Κ Φ (.seq (.bJ o s p) rest) ρ):=by
 rcases Kh (f:=λx j=>fF o (gJ x g,x) j>>=λa=>aP Κ Φ p a) I xs [] j (λpre x c ρ t u=>by
  obtain⟨a,e,hh⟩:=hf pre x c ρ t u;rcases hh with⟨b,l,n⟩|⟨r,d,l,n⟩
  ·exact .inl ⟨b,by rw[e,Res.aB,l],n⟩
  ·exact .inr ⟨r,d,by rw[e,Res.aB,l],n⟩) h0 with⟨b,e,i⟩|⟨r,d,e,q⟩
 ·rw[fG (DO h e) rfl];exact hk b i
 ·rw[cC (DO h e)];exact q
theorem Tv {a:Type}{b:List a}{x:a×Nat}(h:x∈b.zipIdx):b[x.2]?=some x.1:=kx.mp h
theorem Ki {P:Rho->Prop}(I:Nat->Rho->Prop)(hs:∀k m,I k m->(c m=.ok false/\P m)\/∃b a,k=b+1/\c m=.ok true/\f m=.ok (.nx a)/\I b a):∀k n m,k<n->I k m->∃a,wd c f n m=.ok (.nx a)/\P a
 |k,0,_,h,_=>by omega
 |k,n+1,m,h,j=>by
  rcases hs k m j with⟨d,g⟩|⟨b,a,rfl,d,g,l⟩
  ·exact⟨m,by show(c m>>=_)=_;rw[d];rfl,g⟩
  ·obtain⟨i,e,p⟩:=Ki I hs b n a (by omega) l;refine⟨i,?_,p⟩;show(c m>>=_)=_;rw[d,g];exact e
theorem tS {Q:Res Out->Prop}{P:Rho->Prop}(I:Nat->Rho->Prop)(k:Nat)(hn:k<n)(h0:I k f)(hs:∀k f,I k f->(Tt Κ Φ c f false/\P f)\/∃d a,k=d+1/\Tt Κ Φ c f true/\aP Κ Φ b f=.ok (.nx a)/\I d a)(hk:∀a,P a->Q (aP Κ Φ rest a)):Q (aP Κ Φ (.seq (.wh n c b) rest) f):=by obtain⟨a,e,p⟩:=Ki I hs k n f hn h0;exact cX e (hk a p)
theorem qH (c:Int)(h0:0<=k)(f:k<=100):∃m,(0<=m/\m<2147483587)/\kS [.int c,.int k]=.ok (.fr,.int m):=by generalize b:(c%2147483647+7919*k*k+k*k+1)*48271%2147483629=a;refine⟨a*a%2147483587,⟨gq _ dc,jq _ dc⟩,eD ?_⟩;exact fG (pR (d:=.int a) (by rw[<-b];exact bM (bM (bM (bM (bM (bM (aD rfl) aN.e (gS dc) rfl).e (bM (bM aN.e (aD rfl) (DC dc) rfl).e (aD rfl) (xm ⟨by omega,by omega⟩) rfl).e rfl rfl).e (bM (aD rfl) (aD rfl) (DC ⟨by omega,by omega⟩) rfl).e rfl rfl).e aN.e rfl rfl).e aN.e (xm dc) rfl).e aN.e (gS dc) rfl)) (cC (dN (bM (bM (aD rfl) (aD rfl) (DC ⟨by omega,by omega⟩) rfl).e aN.e (gS dc) rfl)))
theorem Kj (a:List Int)(d:a.length<=63)(h0:0<=k):∃v,qE [.list (a.map .int),.int k]=.ok (.fr,.int v):=by
 have c:Tt [] [] (.tv (.cmp .Lt (.var 1) (.bi "len" (.cons (.var 0) .nil)))) [some (.od,.list (a.map .int)),some (.od,.int k)] (decide (k<a.length)):=aX (eJ (aD rfl) (cW (aF (aD rfl) aW) (by show Res.ok (PyData.int ((a.map PyData.int).length:Nat))=_;rw[am]) rfl).e rfl).e rfl;cases b:decide (k<a.length)with
 |true=>exact⟨_,eD (tW c b (cC (dN (aO (aD rfl) (aD rfl) (DB h0 (sg b)) rfl))))⟩
 |false=>exact⟨0,eD (tX c b (cC (dN aN)))⟩
def clD (c:Int×Bool):D:=.tuple [.int c.1,.bool c.2]
theorem EC (c:Int×Bool):imm (clD c)=true:=rfl
theorem Tw (a:List Int){k:Int}(h0:0<=k)(d:k<a.length)(g:k<=100)(f:Bool):∃c,Eo [.list (a.map .int),.int k,.bool f]=.ok (.fr,clD c):=by
 have b:∀{Φ:List Fn},Vv [] Φ (.ix (.var 0) (.var 1)) [some (.od,.list (a.map .int)),some (.od,.int k),some (.od,.bool f)] (.int (a.getD k.toNat 0)):=aO (aD rfl) (aD rfl) (DB h0 d) rfl;obtain⟨m,_,hm⟩:=qH (a.getD k.toNat 0) h0 g;cases f with
 |true=>exact⟨(_,true),eD (tW (aX (aD rfl) rfl) rfl (cC (dN (pP (bO b (bO kK fO))))))⟩
 |false=>exact⟨(m,false),eD (tX (aX (aD rfl) rfl) rfl (cC (dN (pP (bO (cV (aF b.e (aF (aD rfl) aW)) rfl hm rfl) (bO kK fO))))))⟩
theorem Tz (h:Vv Κ Φ t ρ (.tuple [x,y]))(b:imm x=true)(c:imm y=true):aP Κ Φ (.asg (.tp [i,j]) t) ρ=.ok (.nx ((ρ.set i (some (.al,x))).set j (some (.al,y)))):=by
 show(aJ Κ Φ t ρ>>=λz=>fF (.tp [i,j]) z ρ>>=λa=>Res.ok (Out.nx a))=_;rw[h.1,Res.aB,show fF (.tp [i,j]) (G.fr,PyData.tuple [x,y]) ρ=.ok ((ρ.set i (some (.al,x))).set j (some (.al,y)))from ?_]
 ·rfl
 ·have :=DN (i:=i) (j:=j) (g:=.fr) (ρ:=ρ) b c;rw[mY (by show imms [x,y]=true;rw[imms,imms,b,c];rfl)]at this;exact this
theorem yd (c:Int×Bool)(h0:0<=k)(a:k<=100):∃m,(0<=m/\m<60)/\jD [clD c,.int k]=.ok (.fr,.int m):=by
 obtain⟨n,f⟩:=c
 suffices h:∃m,(0<=m/\m<60)/\aP [] [kS] Ep [some (.od,clD (n,f)),some (.od,.int k),none,none,none]=.ok (.rt .fr (.int m)) by obtain⟨m,a,i⟩:=h;exact⟨m,a,eD i⟩
 let Q:Res Out->Prop:=λz=>∃m,(0<=m/\m<60)/\z=.ok (.rt .fr (.int m))
 show Q _;refine cX (Tz (v_var rfl rfl) rfl rfl) ?_;obtain⟨m,_,hm⟩:=qH n h0 a;cases f with
 |false=>refine⟨m%60,⟨gq _ (by decide),jq _ (by decide)⟩,?_⟩;exact tW (mH (aX (aD rfl) rfl)) rfl (cC (dN (bM (cV (aF (aD rfl) (aF (aD rfl) aW)) rfl hm rfl).e aN.e (gS (by decide)) rfl)))
 |true=>
  refine IZ (mH (aX (aD rfl) rfl)) rfl ?_;refine q_nm (DM (aF (aD rfl) aW) (uP h0 (by omega))) (λ_=>rfl) (λ_ b=>∃z d,b=[some (.od,clD (n,true)),some (.od,.int k),some (.al,.int z),some (.al,.bool true),d]) ⟨n,none,rfl⟩ ?_ ?_
  ·rintro pre x g b j ⟨z,d,rfl⟩
   exact⟨_,fG (pR (bM (aD rfl) aN.e (Ke (by decide) (by decide)) rfl)) kL,z/60,some (.al,.int x),rfl⟩
  ·rintro b ⟨z,d,rfl⟩
   exact⟨z%60,⟨gq _ (by decide),jq _ (by decide)⟩,cC (dN (bM (aD rfl) aN.e (gS (by decide)) rfl))⟩
theorem TB (c:Int)(f:Bool):∃g,3<=g/\Et [.int c,.bool f]=.ok (.fr,.int g):=by
 obtain⟨a,o,j⟩:=qH c (k:=50) dc dc;obtain⟨b,a1,l⟩:=qH c (k:=51) dc dc;obtain⟨d,a2,m⟩:=qH c (k:=52) dc dc;obtain⟨h,a3,n⟩:=qH c (k:=53) dc dc;have i:∀{Φ:List Fn},Vv [] Φ (.bin .Sub (.bin .Pow (.int 10) (.int 30)) (.int 4)) [some (.od,.int c),some (.od,.bool f)] (.int 999999999999999999999999999996):=bM (bM aN.e aN.e RD rfl).e aN.e rfl rfl;cases f with
 |true=>exact⟨3+c/60%999999999999999999999999999996,by have:=gq (c/60) (show 999999999999999999999999999996≠0 by decide);omega,eD (tW (aX (aD rfl) rfl) rfl (cC (dN (bM aN.e (bM (bM (aD rfl) aN.e (Ke dc dc) rfl).e i.e (gS dc) rfl).e rfl rfl))))⟩
 |false=>exact⟨3+a*b*d*h%999999999999999999999999999996,by have:=gq (a*b*d*h) (show 999999999999999999999999999996≠0 by decide);omega,eD (tX (aX (aD rfl) rfl) rfl (cC (dN (bM aN.e (bM (bM (bM (bM (cV (aF (aD rfl) (aF aN.e aW)) rfl j rfl).e (cV (aF (aD rfl) (aF aN.e aW)) rfl l rfl).e (xm ⟨by omega,by omega⟩) rfl).e (cV (aF (aD rfl) (aF aN.e aW)) rfl m rfl).e (xm ⟨by omega,by omega⟩) rfl).e (cV (aF (aD rfl) (aF aN.e aW)) rfl n rfl).e (xm ⟨by omega,by omega⟩) rfl).e i.e (gS dc) rfl).e rfl rfl))))⟩
theorem TC (a:0<=k):∃n,ud [.int k,.int g]=.ok (.fr,.int n):=by refine⟨[0,1,2,g,g+1,0].getD (k%6).toNat 0,eD ?_⟩;exact cC (dN (aO (Ev.of (lF (bO aN (bO aN (bO aN (bO (v_var rfl rfl) (bO (bM (aD rfl) aN.e rfl rfl) (bO aN fO)))))))) (bM (aD rfl) aN.e (gS (by decide)) rfl).e (DB (ns:=[0,1,2,g,g+1,0]) (by omega) (by show k%6<6;omega)) rfl))
theorem TF (a b:Str):(a++b).cps.toList=a.cps.toList++b.cps.toList:=by show(a.cps++b.cps).toList=_;simp
theorem TH {a b:Type}{f:a->b}{l:List a}(h:∀x∈l,∀y∈l,f x=f y->x=y)(nd:l.Nodup):(l.map f).Nodup:=j3.mpr (nd.imp_of_mem λc d hn e=>hn (h _ c _ d e))
def sk:List Str:=["j","q","v","x","z","jz","qz","vz","xz","zj"]
theorem TJ:sk.Nodup:=by decide+kernel
theorem TK (c:Int)(hn:n<=10):∃ns:List Str,(ns.length=n/\ns.Nodup)/\Es [.int c,.int n]=.ok (.fr,.list (ns.map .str)):=by
 suffices h:∃ns:List Str,(ns.length=n/\ns.Nodup)/\aP [] [kS] Er [some (.od,.int c),some (.od,.int n),none,none,none,none]=.ok (.rt .fr (.list (ns.map .str))) by obtain⟨ns,g,q⟩:=h;exact⟨ns,g,eD q⟩
 let Q:Res Out->Prop:=λr=>∃ns:List Str,(ns.length=n/\ns.Nodup)/\r=.ok (.rt .fr (.list (ns.map .str)))
 show Q _;obtain⟨p,⟨U,_⟩,J⟩:=qH c (k:=29) (by decide) (by decide);obtain⟨t,⟨V,_⟩,K⟩:=qH c (k:=28) (by decide) (by decide);have hm:∀i:Nat,i<10->∃m,0<=m/\kS [.int c,.int (30+i)]=.ok (.fr,.int m):=λi b=>by obtain⟨m,g,q⟩:=qH c (k:=30+i) (by omega) (by omega);exact⟨m,g.1,q⟩
 refine cX (pR dM) ?_;have L:0<=p%10:=by omega
 let f:Nat->Int:=λi=>if h:i<10 then(hm i h).choose else 0
 have hf:∀i,i<10->0<=f i/\kS [.int c,.int (30+i)]=.ok (.fr,.int (f i)):=λi b=>by show 0<=(if h:i<10 then(hm i h).choose else 0)/\kS _=.ok (.fr,.int (if h:i<10 then(hm i h).choose else 0));rw[dif_pos b];exact(hm i b).choose_spec
 have C:=z38 (Κ:=[]) (Φ:=[kS]) (ρ:=[some (.od,.int c),some (.od,.int n),some (.al,.str "abcdefghijklmnopqrstuvwxyz"),none,none,none]) (nt:=1) (js:=[2,0]) (N':=["_law_k","_law_letters","_law_cell_here"]) (tg:=.nm 0) (it:=.eN (.cons (.bin .Mod (.call 0 "_law_mix" (.cons (.var 0) (.cons (.int 29) .nil))) (.int 10)) .nil)) (cond:=.nil) (elt:=.ix (.var 1) (.bin .Mod (.call 0 "_law_mix" (.cons (.var 2) (.cons (.bin .Add (.int 30) (.var 0)) .nil))) (.int 26))) (λ_=>true) (λi=>PyData.str (chr "abcdefghijklmnopqrstuvwxyz" (f i%26)))
  (uQ (aF (bM (cV (aF (aD rfl) (aF aN.e aW)) rfl J rfl).e aN.e (gS (by decide)) rfl).e aW) (uP L (by omega))) rfl (λi=>[some (.al,.int i),some (.al,.str "abcdefghijklmnopqrstuvwxyz"),some (.od,.int c)]) (λ_ _=>rfl) (λ_ _=>rfl) λi b _=>by
   have b:i<10:=by have:=d6.mp b;omega
   obtain⟨W,g1⟩:=hf i b;exact aO (aD rfl) (bM (cV (aF (aD rfl) (aF (bM aN.e (aD rfl) rfl rfl).e aW)) rfl g1 rfl).e aN.e (gS (by decide)) rfl).e (A6 (by omega) (by show f i%26<(26:Nat);omega) (by decide)) rfl
 let o:List Str:=(bu (p%10).toNat).map λi=>chr "abcdefghijklmnopqrstuvwxyz" (f i%26)
 have u:(((bu (p%10).toNat).filter λ_=>true).map λi=>PyData.str (chr "abcdefghijklmnopqrstuvwxyz" (f i%26)))=o.map .str:=by rw[eu.mpr λ_ _=>rfl];rw[ge];rfl
 rw[u]at C;have g:∀s∈o,s.length=1:=λs hs=>by obtain⟨i,_,rfl⟩:=cf.mp hs;rfl
 have M:o.length=(p%10).toNat:=by show(qj _ _).length=_;rw[am,db]
 have N:=RE o g;generalize O:qX "" o=B at N;refine cX (pR (d:=.str B) (by rw[<-O];exact pQ dM.e (aF (Ev.of C) aW) (RF g (by omega)) rfl)) ?_;have v:0<=t%((B.length:Int)+1):=gq _ (by omega);refine cX (pR (d:=.int (t%((B.length:Int)+1))) (bM (cV (aF (aD rfl) (aF aN.e aW)) rfl K rfl).e (bM (cW (aF (aD rfl) aW) (by show(if B.length<=aS then Res.ok (PyData.int B.length)else Res.no)=_;rw[rj (by unfold aS;omega)]) rfl).e aN.e rfl rfl).e (gS (by omega)) rfl)) ?_;generalize t%((B.length:Int)+1)=a at v;refine cX (rQ (lF (bO dM (bO dM (bO dM (bO dM (bO dM (bO dM (bO dM (bO dM (bO dM (bO dM fO))))))))))) rfl) ?_;have A:∀k:Nat,(sk.getD k ⟨#[]⟩).length<=2:=λk=>by rcases k with _|_|_|_|_|_|_|_|_|_|k<;>first|decide|exact cz _
 let w:Nat->Str:=λi=>lB B none (some a)++sk.getD (((i:Int)+c)%10).toNat ⟨#[]⟩++lB B (some a) none
 have P:=z38 (Κ:=[]) (Φ:=[kS]) (ρ:=[some (.od,.int c),some (.od,.int n),some (.al,.str "abcdefghijklmnopqrstuvwxyz"),some (.al,.str B),some (.al,.int a),some (.fr,.list (sk.map .str))]) (nt:=1) (js:=[3,5,4,0]) (N':=["_law_k","_law_base","_law_signs","_law_at","_law_cell_here"]) (tg:=.nm 0) (it:=.eN (.cons (.var 1) .nil)) (cond:=.nil) (elt:=.bin .Add (.bin .Add (.sl (.var 1) .nil (.tv (.var 3))) (.ix (.var 2) (.bin .Mod (.bin .Add (.var 0) (.var 4)) (.int 10)))) (.sl (.var 1) (.tv (.var 3)) .nil)) (λ_=>true) (λi=>PyData.str (w i)) (uQ (aF (aD rfl) aW) (uP (by omega) (by omega))) rfl (λi=>[some (.al,.int i),some (.al,.str B),some (.al,.list (sk.map .str)),some (.al,.int a),some (.od,.int c)]) (λ_ _=>rfl) (λ_ _=>rfl) λi b _=>by have X:=IJ B none (some a);have Y:=IJ B (some a) none;have Z:=A (((i:Int)+c)%10).toNat;have l4:=RC (lB B none (some a)) (sk.getD (((i:Int)+c)%10).toNat ⟨#[]⟩);exact bM (bM (xq (aD rfl) tJ (tU (aD rfl)) (yL (by omega)) rfl).e (aO (aD rfl) (bM (bM (aD rfl) (aD rfl) rfl rfl).e aN.e (gS (by decide)) rfl).e (pO (by omega) (by show((i:Int)+c)%10<(10:Nat);omega)) rfl).e (add_str (by omega)) rfl).e (xq (aD rfl) (tU (aD rfl)) tJ (yL (by omega)) rfl).e (add_str (by omega)) rfl
 refine⟨(bu n).map w,⟨by rw[am,db],TH (λx D y E e=>?_) List.nodup_range⟩,cC (IY (λ_ z=>nomatch z) (P.trans ?_))⟩
 ·have D:=d6.mp D;have E:=d6.mp E;have F:=congrArg (λs:Str=>s.cps.toList) e;simp only[w,TF,i0]at F;have R:=List.append_cancel_left F;have G:=Ip (List.append_cancel_right R);have H:(((x:Int)+c)%10).toNat<sk.length:=by show _<10;omega
  have I:(((y:Int)+c)%10).toNat<sk.length:=by show _<10;omega
  rw[aa,aa,ae H,ae I]at G;have S:∀{l:List Str} {i j:Nat} (b:i<l.length) (T:j<l.length),l.Nodup->l[i]=l[j]->i=j:=λ{l i j} b T nd h=>(List.getElem_inj nd).mp h;have:=S H I TJ G;omega
 ·rw[eu.mpr λ_ _=>rfl,ge];rfl
def mr (p:Bool×P×P×P):D:=rl p.1 p.2.1 p.2.2.1 p.2.2.2
theorem oA (p:Bool×P×P×P):imm (mr p)=true:=To _ _ _ _
def eL (p q:Bool×P×P×P):Bool:=ag p.1 p.2.1 p.2.2.1 p.2.2.2 q.1 q.2.1 q.2.2.1 q.2.2.2
structure GR (p:Bool×P×P×P):Prop where
 f:PK p.2.1
 a:PK p.2.2.1
 r:PK p.2.2.2
 w:wi p.2.2.2 (own p.1 p.2.1 p.2.2.1)=true
theorem uf (b:GR p)(c:GR q):gX [mr p,mr q]=.ok (.fr,.bool (eL p q)):=EA b.f b.a c.f c.a
theorem TL (ps:List (Bool×P×P×P)):imms (ps.map mr)=true:=u9 oA ps
theorem Kk {b:Type}(f:b->D):∀(a:List b) (k:Nat),z2d k (a.map f)=(a.zipIdx k).map λx=>.tuple [.int x.2,f x.1]
 | [],_=>rfl
 |x::a,k=>by rw[bj,z2d,List.zipIdx_cons,bj,Kk f a (k+1)]
theorem TM {ps:List (Bool×P×P×P)}(h:a[i]?=some (some (.od,.list (ps.map mr))))(b:ps.length<=1000):evF Κ Φ (.enum (.var i)) a=.ok (.al,ps.zipIdx.map λx=>.tuple [.int x.2,mr x.1],a):=by rw[RU (by rw[xn];rw[h];rfl) rfl (RW (TL ps) (by grind)),Kk]
def ye:Option Nat->D
 |none=>.none
 |some k=>.int k
theorem TN {b:Type}{G:b->Bool}{pre a:List b}{x:b}(h:∀y∈pre,G y=false)(c:G x=true):(pre++x::a).findIdx? G=some pre.length:=by grind
theorem ED {ps:List (Bool×P×P×P)}(c:∀p∈ps,GR p)(o:GR q)(r:ps.length<=1000):qC [.list (ps.map mr),mr q]=.ok (.fr,ye (ps.findIdx? λp=>eL p q)):=by
 refine eD ?_
 let Q:Res Out->Prop:=λz=>z=.ok (.rt .fr (ye (ps.findIdx? λp=>eL p q)))
 show Q _;refine zp9 (TM rfl r) (λpre d=>(∀y∈pre,eL y.1 q=false)/\∃f g,d=[some (.od,.list (ps.map mr)),some (.od,mr q),f,g]) ⟨nofun,none,none,rfl⟩ ?_ ?_
 ·rintro pre x a d h ⟨hn,f,g,rfl⟩
  have i:=Tv (h▸bo _ bh);have hs:ps=pre.map (·.1)++x.1::a.map (·.1):=by have:=congrArg (qj (·.1)) h;rw[List.zipIdx_map_fst,cv]at this;exact this
  have j:x.2=pre.length:=by
   have:=congrArg (λl:List ((Bool×P×P×P)×Nat)=>l[pre.length]?) h;simp only[b9 (ah _),gy,List.getElem?_cons_zero,List.getElem?_zipIdx]at this;cases hh:ps[pre.length]? with
   |none=>rw[hh]at this;cases this
   |some y=>rw[hh]at this;cases this;simp
  refine⟨_,DN rfl (oA x.1),?_⟩;have n:Tt [] [gX] (.tv (.call 0 "against" (.cons (.var 3) (.cons (.var 1) .nil)))) [some (.od,.list (ps.map mr)),some (.od,mr q),some (.al,.int x.2),some (.al,mr x.1)] (eL x.1 q):=aX (cV (aF (aD rfl) (aF (aD rfl) aW)) rfl (uf (c _ (aq i)) o) rfl).e rfl;cases b:eL x.1 q with
  |true=>
   refine .inr ⟨.fr,.int x.2,cC (pS n (λ_=>cC (dN (v_var rfl rfl))) λz=>by rw[b]at z;cases z),?_⟩;show _=_;have e:(ps.findIdx? λp=>eL p q)=some x.2:=by rw[hs,TN (G:=λp=>eL p q) (λy m=>?_) b,am,j];obtain⟨z,i,rfl⟩:=cf.mp m;exact hn z i
   rw[e];rfl
  |false=>exact .inl ⟨_,fG (pS n (λz=>by rw[b]at z;cases z) λ_=>kL) kL,(λy m=>by
   rcases b6.mp m with z|z
   ·exact hn y z
   ·rw[bf.mp z];exact b),_,_,rfl⟩
 ·rintro d ⟨hn,f,g,rfl⟩
  have e:(ps.findIdx? λp=>eL p q)=none:=List.findIdx?_eq_none_iff.mpr λp c=>by obtain⟨k,s⟩:=cb.mp c;exact hn (p,k) (kx.mpr s)
  show aP _ _ _ _=_;rw[e];exact cC (dN DI)
theorem TQ (h:GR p):qB [kT p.2.1 p.2.2.1,.str (sd p.1),pk p.2.2.2]=.ok (.fr,mr p):=by
 refine eD ?_;have c:Vv [] [nM,nK] (.call 0 "within" (.cons (.var 2) (.cons (.call 1 "side_of" (.cons (.var 0) (.cons (.var 1) .nil))) .nil))) [some (.od,kT p.2.1 p.2.2.1),some (.od,.str (sd p.1)),some (.od,pk p.2.2.2)] (.bool true):=by have:=ue (a:=p.2.2.2) (yc (b:=p.1) h.f h.a);rw[h.w]at this;exact cV (aF (aD rfl) (aF (lG (aF (aD rfl) (aF (aD rfl) aW)) rfl (Ez p.1 _ _)) aW)) rfl this rfl
 exact tX (mH (aX c.e rfl)) rfl (cC (dN (pP (bO (v_var rfl (u2 _ _)) (bO (v_var rfl rfl) (bO (v_var rfl (fW _)) fO))))))
theorem TR (a:f.length<=2):qD [.list f,.none]=.ok (.fr,.bool (f.length==1)):=by
 refine eD ?_;refine tW (aX (DK (aD rfl)).e rfl) rfl (cC (dN (eJ (cW (aF (aD rfl) aW) rfl rfl).e aN.e ?_)));show Res.ok (dZ (.int _) (.int _))=_;rw[DD]
 congr 1
 rw[jk,decide_eq_true_iff,beq_iff_eq];omega
theorem yf (l:P):imms (l.map pr)=true:=u9 uO l
theorem TU (a:l.length<64):aggD "sorted" true (l.map pr)=.ok (.list ((pM l).map pr)):=by show(if(true&&yQ (l.map pr)&&decide ((l.map pr).length<64))=true then Res.ok (PyData.list (lX (l.map pr)))else .no)=_;rw[Rm,IB,am,si a];rfl
theorem EE {ns:List Str}(nd:ns.Nodup)(r:ns.length<=10)(c:Int×Bool)(y:0<=k)(z:k<=80):∃l,PK l/\uZ [.list (ns.map .str),clD c,.int k,.int g]=.ok (.fr,pk l):=by
 have hd:∀i:Nat,i<10->∃n,∃m,jD [clD c,.int (k+i)]=.ok (.fr,.int m)/\ud [.int m,.int g]=.ok (.fr,.int n):=λi a=>by obtain⟨m,⟨s,_⟩,hm⟩:=yd c (k:=k+i) (by omega) (by omega);obtain⟨n,hn⟩:=TC s;exact⟨n,m,hm,hn⟩
 let f:Nat->Int:=λi=>if h:i<10 then(hd i h).choose else 0
 have t:∀i:Nat,i<10->∃m,jD [clD c,.int (k+i)]=.ok (.fr,.int m)/\ud [.int m,.int g]=.ok (.fr,.int (f i)):=λi a=>by show ∃m,_/\ud _=.ok (.fr,.int (if h:i<10 then(hd i h).choose else 0));rw[dif_pos a];exact(hd i a).choose_spec
 let d:P:=(bu ns.length).map λi=>(ns.getD i ⟨#[]⟩,f i)
 have j:ks d=ns:=by
  show(qj _ (qj _ _))=_;rw[ge];apply gw;intro i;rw[ar];by_cases a:i<ns.length
  ·rw[et a];show some (ns.getD i ⟨#[]⟩)=_;rw[aa,ae a];rfl
  ·rw[fg (by grind),fg (by omega)];rfl
 let b:P:=d.filter λp=>decide (0<p.2)
 have o:(ks b).Nodup:=by have:(ks b).Sublist ns:=j▸List.filter_sublist.map _;exact this.nodup nd
 have ll:b.length<=10:=by refine bq (dh _ _) ?_;rw[am,db];exact r
 refine⟨pM b,⟨IE o,λp u=>?_⟩,eD ?_⟩
 ·have :=(Dq b).mem_iff.mp u;simpa using(dj.mp this).2
 have q:=z38 (Κ:=[]) (Φ:=[ud,jD]) (ρ:=[some (.od,.list (ns.map .str)),some (.od,clD c),some (.od,.int k),some (.od,.int g),none]) (nt:=1) (js:=[0,3,1,2]) (N':=["_law_k","_law_names_here","_law_great_here","_law_cell_here","_law_at"]) (tg:=.nm 0) (it:=.eN (.cons (.bi "len" (.cons (.var 0) .nil)) .nil)) (cond:=.nil) (elt:=.tup (.cons (.ix (.var 1) (.var 0)) (.cons (.call 0 "_law_degree" (.cons (.call 1 "_law_pick" (.cons (.var 3) (.cons (.bin .Add (.var 4) (.var 0)) .nil))) (.cons (.var 2) .nil))) .nil))) (xs:=bu ns.length) (λ_=>true) (λi=>pr (ns.getD i ⟨#[]⟩,f i)) (uQ (aF (cW (aF (aD rfl) aW) (by rw[u7,am]) rfl).e aW) (uP (by omega) (by omega))) rfl (λi=>[some (.al,.int i),some (.od,.list (ns.map .str)),some (.od,.int g),some (.od,clD c),some (.od,.int k)]) (λ_ _=>rfl) (λ_ _=>rfl) λi a _=>by have a:=d6.mp a;obtain⟨m,v,g1⟩:=t i (by omega);exact pP (bO (aO (aD rfl) (aD rfl) (pO (by omega) (by omega)) rfl) (bO (cV (aF (cV (aF (aD rfl) (aF (bM (aD rfl) (aD rfl) rfl rfl).e aW)) rfl v rfl).e (aF (aD rfl) aW)) rfl g1 rfl) fO))
 have x:(((bu ns.length).filter λ_=>true).map λi=>pr (ns.getD i ⟨#[]⟩,f i))=d.map pr:=by rw[eu.mpr λ_ _=>rfl];rw[ge];rfl
 rw[x]at q;exact fG (rQ q (yf d)) (cC (dN (IV (w:=(true,(pM b).map pr)) (Ev.of (xr (w:=(true,b.map pr)) (Ev.of (z38 (ρ:=[some (.od,.list (ns.map .str)),some (.od,clD c),some (.od,.int k),some (.od,.int g),some (.fr,.list (d.map pr))]) (nt:=1) (js:=[]) (N':=["_law_pair"]) (tg:=.nm 0) (cond:=.tv (.cmp .Gt (.ix (.var 0) (.int 1)) (.int 0))) (elt:=.var 0) (λp=>decide (0<p.2)) pr (gR rfl rfl) rfl (λp=>[some (.al,pr p)]) (λp _=>u3 (uO p)) (λp _=>aX (eJ (aO (aD rfl) aN.e rfl rfl).e aN.e rfl).e rfl) λp _ _=>v_var rfl (uO p))) rfl (TU (by omega)) (yf b))) rfl rfl (fW _))))
theorem TV (f:PK a)(h:PK b):∃r,(PK r/\wi r a=true)/\ya [pk a,pk b]=.ok (.fr,pk r):=by
 let r0:P:=a.map λp=>(p.1,min p.2 (look b p.1))
 let r:P:=r0.filter λp=>decide (0<p.2)
 have c:Sd r0:=by exact j3.mpr f.sd
 refine⟨r,⟨⟨c.filter _,λp d=>by simpa using(dj.mp d).2⟩,?_⟩,eD ?_⟩
 ·unfold wi;rw[kb,iu];intro p d z;obtain⟨q,i,rfl⟩:=cf.mp (dj.mp d).1;have:=sg z;rw[show look a q.1=q.2 from f.hZ i]at this;omega
 refine fG (zx (xr (aD rfl) rfl (DA false h.nd) (yf b)) (Dm b)) ?_;have j:aJ [] [] (.var 0) [some (.od,pk a),some (.od,pk b),some (.fr,.dict (en b)),none]=.ok (.fr,pk a):=by show Res.ok (if imm (pk a)=true then G.fr else _,pk a)=_;rw[fW];rfl
 have g:=z38 (ρ:=[some (.od,pk a),some (.od,pk b),some (.fr,.dict (en b)),none]) (nt:=1) (js:=[2]) (N':=["_law_pair","_law_some"]) (tg:=.nm 0) (cond:=.nil) (elt:=.tup (.cons (.ix (.var 0) (.int 0)) (.cons (.bi "min" (.cons (.ix (.var 0) (.int 1)) (.cons (.mt "get" (.var 1) (.cons (.ix (.var 0) (.int 0)) (.cons (.int 0) .nil))) .nil))) .nil))) (λ_=>true) (λp=>pr (p.1,min p.2 (look b p.1))) (gR j rfl) rfl (λp=>[some (.al,pr p),some (.al,.dict (en b))]) (λp _=>u3 (uO p)) (λ_ _=>rfl) λp _ _=>pP (bO (aO (aD rfl) aN.e rfl rfl) (bO (cW (aF (aO (aD rfl) aN.e rfl rfl).e (aF (pQ (aD rfl) (aF (aO (aD rfl) aN.e rfl rfl).e (aF aN.e aW)) (Dz b p.1) rfl).e aW)) (RA _ _) rfl) fO));have k:((a.filter λ_=>true).map λp=>pr (p.1,min p.2 (look b p.1)))=r0.map pr:=by rw[eu.mpr λ_ _=>rfl];rw[ge];rfl
 rw[k]at g;exact fG (rQ g (yf r0)) (cC (dN (IV (Ev.of (z38 (ρ:=[some (.od,pk a),some (.od,pk b),some (.fr,.dict (en b)),some (.fr,.list (r0.map pr))]) (nt:=1) (js:=[]) (N':=["_law_pair"]) (tg:=.nm 0) (cond:=.tv (.cmp .Gt (.ix (.var 0) (.int 1)) (.int 0))) (elt:=.var 0) (λp=>decide (0<p.2)) pr (gR rfl rfl) rfl (λp=>[some (.al,pr p)]) (λp _=>u3 (uO p)) (λp _=>aX (eJ (aO (aD rfl) aN.e rfl rfl).e aN.e rfl).e rfl) λp _ _=>v_var rfl (uO p))) rfl rfl (fW _))))
theorem vb {b:Type}(a:List b)(i j:Option Int):(cut a i j).Sublist a:=(lw _ _).trans (List.drop_sublist _ _)
theorem Ac (i j:Option Int):qW (.list (ns.map .str)) i j=.ok (.list ((cut ns i j).map .str)):=by show Res.ok (PyData.list (cut (ns.map PyData.str) i j))=_;unfold cut;rw[am,List.map_take,List.map_drop]
theorem TX {ns:List Str}(nd:ns.Nodup)(b:ns.length<=10)(c:Int×Bool)(d:0<=k)(n:k<=60):∃f a,(PK f/\PK a)/\yb [.list (ns.map .str),clD c,.int k,.int g]=.ok (.fr,kT f a):=by have h:=(vb ns none (some 2)).nodup nd;have i:=(vb ns (some 1) (some 3)).nodup nd;obtain⟨f,hf,j⟩:=EE h (bq (vb ns none (some 2)).length_le b) c d (show k<=80 by omega);obtain⟨a,l,m⟩:=EE i (bq (vb ns (some 1) (some 3)).length_le b) c (show 0<=k+2 by omega) (show k+2<=80 by omega);refine⟨f,a,⟨hf,l⟩,eD ?_⟩;exact cC (dN (pP (bO (cV (aF (qG (aD rfl) tJ (tU aN.e) (Ac _ _)) (aF (aD rfl) (aF (aD rfl) (aF (aD rfl) aW)))) rfl j (fW _)) (bO (cV (aF (qG (aD rfl) (tU aN.e) (tU aN.e) (Ac _ _)) (aF (aD rfl) (aF (bM (aD rfl) aN.e rfl rfl).e (aF (aD rfl) aW)))) rfl m (fW _)) fO))))
theorem Kl (b:Bool)(f a:P):nN [kT f a,.str (sd b)]=.ok (.fr,pk (own b f a)):=by
 refine eD ?_;cases b with
 |true=>exact cC (dN (aO (aD rfl) (cW (aF (eJ (aD rfl) dM.e rfl).e aW) rfl rfl).e rfl (fW f)))
 |false=>exact cC (dN (aO (aD rfl) (cW (aF (eJ (aD rfl) dM.e rfl).e aW) rfl rfl).e rfl (fW a)))
theorem TY (h:Ev [] Φ t a (.int (w%2))):Vv [] Φ (.ix (.lst (.cons (.str "for") (.cons (.str "against") .nil))) t) a (.str (sd (decide (w%2=0)))):=by
 refine aO (Ev.of (lF (bO dM (bO dM fO)))) h ?_ rfl;rcases(show w%2=0\/w%2=1 by omega)with e|e
 ·rw[e];rfl
 ·rw[e];rfl
theorem TZ (b:PK a):wi a a=true:=(Tn b b).mpr λ_=>qr _
theorem EF {ns:List Str}(nd:ns.Nodup)(t:ns.length<=10)(c:Int×Bool)(g:Int):∃p,GR p/\Ex [.list (ns.map .str),clD c,.int g]=.ok (.fr,mr p):=by
 obtain⟨f,a,⟨hf,u⟩,A⟩:=TX nd t c (k:=4) dc dc;obtain⟨w,_,B⟩:=yd c (k:=8) dc dc;obtain⟨z,_,C⟩:=yd c (k:=9) dc dc;obtain⟨l,j,el⟩:=EE ((vb ns none (some 3)).nodup nd) (bq (vb ns none (some 3)).length_le t) c (k:=10) dc dc;generalize D:decide (w%2=0)=b;have m:PK (own b f a):=yc hf u;obtain⟨r,⟨hr,E⟩,F⟩:=TV m j
 suffices h:∃p,GR p/\aP [] [jD,ya,uZ,nN,yb] Ew [some (.od,.list (ns.map .str)),some (.od,clD c),some (.od,.int g),none,none,none]=.ok (.rt .fr (mr p)) by obtain⟨p,n,o⟩:=h;exact⟨p,n,eD o⟩
 let Q:Res Out->Prop:=λy=>∃p,GR p/\y=.ok (.rt .fr (mr p))
 show Q _;refine cX (pR (cV (aF (aD rfl) (aF (aD rfl) (aF aN.e (aF (aD rfl) aW)))) rfl A (u2 _ _))) (cX (pR (d:=.str (sd b)) (by rw[<-D];exact TY (bM (cV (aF (aD rfl) (aF aN.e aW)) rfl B rfl).e aN.e (gS dc) rfl).e)) (cX (pR (cV (aF (aD rfl) (aF (aD rfl) aW)) rfl (Kl b f a) (fW _))) ?_));have i:∀s Φ,PK s->wi s (own b f a)=true->∃p,GR p/\aP [] Φ (.seq (.ret (.tup (.cons (.var 3) (.cons (.var 4) (.cons (.var 5) .nil))))) .nil) [some (.od,.list (ns.map .str)),some (.od,clD c),some (.od,.int g),some (.al,kT f a),some (.al,.str (sd b)),some (.al,pk s)]=.ok (.rt .fr (mr p)):=λs Φ n o=>⟨(b,f,a,s),⟨hf,u,n,o⟩,cC (dN (pP (bO (v_var rfl (u2 _ _)) (bO (v_var rfl rfl) (bO (v_var rfl (fW _)) fO)))))⟩;have v:Tt [] [jD,ya,uZ,nN,yb] (.tv (.cmp .Gt (.bin .Mod (.call 0 "_law_pick" (.cons (.var 1) (.cons (.int 9) .nil))) (.int 3)) (.int 0))) [some (.od,.list (ns.map .str)),some (.od,clD c),some (.od,.int g),some (.al,kT f a),some (.al,.str (sd b)),some (.al,pk (own b f a))] (decide (0<z%3)):=aX (eJ (bM (cV (aF (aD rfl) (aF aN.e aW)) rfl C rfl).e aN.e (gS dc) rfl).e aN.e rfl).e rfl;cases x:decide (0<z%3)with
 |false=>exact IZ v x (i _ _ m (TZ m))
 |true=>exact cX (pS v (λ_=>fG (pR (cV (aF (aD rfl) (aF (lG (aF (qG (aD rfl) tJ (tU aN.e) (Ac _ _)) (aF (aD rfl) (aF aN.e (aF (aD rfl) aW)))) rfl el) aW)) rfl F (fW _))) kL) λq=>by rw[x]at q;cases q) (i _ _ hr E)
theorem T1 (rs:List Cw)(r:Cw):eO (.list ((rs++[r]).map cwD)) (.int (-1))=.ok (cwD r):=by show Res.dQ (bW _ _)=_;unfold bW iG;rw[rq (by decide),am,av,d5,rj (by omega)];show Res.dQ (((rs++[r]).map cwD)[((-1:Int)+((rs.length+1:Nat):Int)).toNat]?)=_;rw[show((-1:Int)+((rs.length+1:Nat):Int)).toNat=rs.length by omega,ar,b9 (ah _),gy];rfl
theorem T2 {ns:List Str}(hn:n<=7)(d:1<=n)(R:n<=ns.length)(I:ns.length<=10)(c:Int×Bool)(J:z9=aT [] [jD] 5 (.seq (.asg (.nm 2) (.lst (.cons (.tup (.cons (.ix (.var 1) (.int 0)) (.cons .aK .nil))) .nil)))
 (.seq (.bJ (.nm 3) (.eN (.cons (.int 1) (.cons (.int n) .nil)))
 (.seq (.asg (.nm 4) (.bin .Add (.bin .Add (.lst (.cons .aK .nil)) (.comp 1 [] ["_law_row"] (.nm 0) (.tv (.var 2)) .nil (.ix (.var 0) (.int 0)))) (.lst (.cons (.ix (.ix (.var 2) (.neg (.int 1))) (.int 0)) .nil))))
 (.seq (.mut "append" 2 (.cons (.tup (.cons (.ix (.var 1) (.var 3)) (.cons (.ix (.var 4) (.bin .Mod (.call 0 "_law_pick" (.cons (.var 0) (.cons (.var 3) .nil))) (.bi "len" (.cons (.var 4) .nil)))) .nil))) .nil))
 .nil)))
 (.seq (.ret (.var 2))
 .nil)))):∃rs,(GoodC rs/\rs.map (·.1)=ns.take n)/\z9 [clD c,.list (ns.map .str)]=.ok (.fr,.list (rs.map cwD)):=by
 suffices h:∃rs,(GoodC rs/\rs.map (·.1)=ns.take n)/\aP [] [jD] (.seq (.asg (.nm 2) (.lst (.cons (.tup (.cons (.ix (.var 1) (.int 0)) (.cons .aK .nil))) .nil)))
 (.seq (.bJ (.nm 3) (.eN (.cons (.int 1) (.cons (.int n) .nil)))
 (.seq (.asg (.nm 4) (.bin .Add (.bin .Add (.lst (.cons .aK .nil)) (.comp 1 [] ["_law_row"] (.nm 0) (.tv (.var 2)) .nil (.ix (.var 0) (.int 0)))) (.lst (.cons (.ix (.ix (.var 2) (.neg (.int 1))) (.int 0)) .nil))))
 (.seq (.mut "append" 2 (.cons (.tup (.cons (.ix (.var 1) (.var 3)) (.cons (.ix (.var 4) (.bin .Mod (.call 0 "_law_pick" (.cons (.var 0) (.cons (.var 3) .nil))) (.bi "len" (.cons (.var 4) .nil)))) .nil))) .nil))
 .nil)))
 (.seq (.ret (.var 2))
 .nil))) [some (.od,clD c),some (.od,.list (ns.map .str)),none,none,none]=.ok (.rt .fr (.list (rs.map cwD))) by obtain⟨rs,d,u⟩:=h;exact⟨rs,d,by rw[J];exact eD u⟩
 let Q:Res Out->Prop:=λy=>∃rs,(GoodC rs/\rs.map (·.1)=ns.take n)/\y=.ok (.rt .fr (.list (rs.map cwD)))
 show Q _;have D:∀{k:Nat},k<ns.length->ns.take (k+1)=ns.take k++[ns.getD k ⟨#[]⟩]:=λ{k} K=>by rw[j5,aa,ae K];rfl
 refine cX (rQ (xs:=[cwD (ns.getD 0 ⟨#[]⟩,none)]) (lF (bO (pP (bO (aO (aD rfl) aN.e (pO dc (by omega)) rfl) (bO DI fO))) fO)) rfl) (q_nm (xs:=bu ((n:Int)-1).toNat) (DM (aF aN.e (aF aN.e aW)) (by show(if _ then _ else _)=_;rw[rj (by unfold aS;omega)])) (λ_=>rfl) (λpre t=>pre=bu pre.length/\∃rs r v f,t=[some (.od,clD c),some (.od,.list (ns.map .str)),some (.fr,.list ((rs++[r]).map cwD)),v,f]/\GoodC (rs++[r])/\(rs++[r]).map (·.1)=ns.take (pre.length+1)) ⟨rfl,[],(ns.getD 0 ⟨#[]⟩,none),none,none,rfl,λk s a e=>?_,?_⟩ ?_ ?_)
 ·rcases k with _|k<;>cases e
 ·show[ns.getD 0 ⟨#[]⟩]=ns.take 1;rw[D (by omega)];rfl
 ·rintro pre x E t F ⟨w,rs,r,v,f,rfl,A,hm⟩
  have d:=congrArg ki F;rw[db,av,bd]at d;have g:x=pre.length:=by have:=congrArg (λl:List Nat=>l[pre.length]?) F;simp at this;rw[et (by omega)]at this;exact(se this)▸rfl
  have L:rs.length=pre.length:=by have:=congrArg ki hm;rw[am,av,d5,dw]at this;omega
  let hs:List (Option Str):=none::((rs++[r]).map λq=>some q.1)++[some r.1]
  have M:hs.length=rs.length+3:=by rw[av];simp
  have N:aJ [] [jD] (.var 2) [some (.od,clD c),some (.od,.list (ns.map .str)),some (.fr,.list ((rs++[r]).map cwD)),some (.al,.int (1+x)),f]=.ok (.al,.list ((rs++[r]).map cwD)):=by rw[xn];rfl
  have G:=z38 (ρ:=[some (.od,clD c),some (.od,.list (ns.map .str)),some (.fr,.list ((rs++[r]).map cwD)),some (.al,.int (1+x)),f]) (nt:=1) (js:=[]) (N':=["_law_row"]) (tg:=.nm 0) (cond:=.nil) (elt:=.ix (.var 0) (.int 0)) (λ_=>true) (λq=>.str q.1) (gR N rfl) rfl (λq=>[some (.al,cwD q)]) (λq _=>u3 (Ej q)) (λ_ _=>rfl) λq _ _=>aO (aD rfl) aN.e rfl rfl;rw[eu.mpr λ_ _=>rfl]at G;have i:hs.map gZ=(PyData.none::(rs++[r]).map λq=>PyData.str q.1)++[.str r.1]:=by rw[cv,bj,ge];rfl
  have j:=u9 z5 hs;have B:imms (PyData.none::(rs++[r]).map λq=>PyData.str q.1)=true:=by show(true&&imms ((rs++[r]).map λq=>PyData.str q.1))=true;rw[u9 (λ_=>rfl)];rfl
  have el:aJ [] [jD] (.bin .Add (.bin .Add (.lst (.cons .aK .nil)) (.comp 1 [] ["_law_row"] (.nm 0) (.tv (.var 2)) .nil (.ix (.var 0) (.int 0)))) (.lst (.cons (.ix (.ix (.var 2) (.neg (.int 1))) (.int 0)) .nil))) [some (.od,clD c),some (.od,.list (ns.map .str)),some (.fr,.list ((rs++[r]).map cwD)),some (.al,.int (1+x)),f]=.ok (.fr,.list (hs.map gZ)):=by rw[i];refine IT (x:=.list (PyData.none::(rs++[r]).map λq=>PyData.str q.1)) (Ev.of (IT (Ev.of (lF (bO DI fO))) (Ev.of G) (add_list (by rw[am];simp;omega)) B)) (Ev.of (lF (bO (aO (aO (aD rfl) (Ev.of rfl) (T1 rs r) (Ej r)).e aN.e rfl rfl) fO))) (add_list (by rw[bd];simp;omega)) (i▸j)
  obtain⟨m,⟨S,_⟩,O⟩:=yd c (k:=1+x) (by omega) (by omega);have p:0<=m%(hs.length:Int):=gq _ (by omega);have kF:m%(hs.length:Int)<hs.length:=jq _ (by omega);generalize H:hs.getD (m%(hs.length:Int)).toNat none=o
  have C:∀a,o=some a->a∈(rs++[r]).map (·.1):=λa P=>by
   have b:o∈hs:=H▸getD_mem p kF;rw[P]at b;rcases b6.mp b with z|z
   ·rcases az.mp z with z|z
    ·cases z
    ·obtain⟨q,d,u⟩:=cf.mp z;cases u;exact cf.mpr ⟨q,d,rfl⟩
   ·cases bf.mp z;exact cf.mpr ⟨r,bo _ (bf.mpr rfl),rfl⟩
  refine⟨_,fG (rQ el j) (fG (DL (x:=cwD (ns.getD (1+x) ⟨#[]⟩,o)) (pP (bO (aO (aD rfl) (aD rfl) (pO (by omega) (by omega)) (by rfl)) (bO (aO (aD rfl) (bM (cV (aF (aD rfl) (aF (aD rfl) aW)) rfl O rfl).e (cW (aF (aD rfl) aW) (by rw[u7,am]) rfl).e (gS (by omega)) rfl).e (by rw[EB gZ none p kF,H]) (z5 o)) fO))) rfl (by rw[am];simp;omega)) kL),?_,rs++[r],(ns.getD (1+x) ⟨#[]⟩,o),some (.al,.int (1+x)),nX (some (.fr,.list (hs.map gZ))),?_,A.snoc C,?_⟩
  ·rw[av,d5,List.range_succ,<-w,g]
  ·rw[cv (l₁:=rs++[r])];rfl
  ·rw[cv,hm,av,d5,D (k:=pre.length+1) (by omega),<-g,Nat.add_comm x 1];rfl
 ·rintro t ⟨_,rs,r,v,f,rfl,A,hm⟩
  rw[db]at hm;exact DP (z7e rfl) ⟨rs++[r],⟨A,by rw[hm];congr 1;omega⟩,rfl⟩
theorem T3 (hm:p∈a)(h:look b p.1<p.2):wi a b=false:=by unfold wi;rw[List.isEmpty_eq_false_iff];exact List.ne_nil_of_mem (dj.mpr ⟨hm,si h⟩)
theorem T5 (h:∀p∈a,¬look b p.1<p.2):wi a b=true:=by unfold wi;rw[kb,iu];exact λp c z=>h p c (sg z)
theorem T6 (j:PK b):rZ [pk a,pk b]=.ok (.fr,.bool (wi a b)):=by
 refine eD ?_
 let Q:Res Out->Prop:=λz=>z=.ok (.rt .fr (.bool (wi a b)))
 show Q _;refine cX (zx (xr (aD rfl) rfl (DA false j.nd) (yf b)) (Dm b)) (zp9 (RT rfl dc (fW a) rfl) (λpre d=>(∀p∈pre,¬look b p.1<p.2)/\∃f g,d=[some (.od,pk a),some (.od,pk b),some (.fr,.dict (en b)),f,g]) ⟨nofun,none,none,rfl⟩ ?_ ?_)
 ·rintro pre p h d k ⟨hn,f,g,rfl⟩
  refine⟨_,DN rfl rfl,?_⟩;have i:Tt [] [] (.tv (.cmp .Gt (.var 4) (.mt "get" (.var 2) (.cons (.var 3) (.cons (.int 0) .nil))))) [some (.od,pk a),some (.od,pk b),some (.fr,.dict (en b)),some (.al,.str p.1),some (.al,.int p.2)] (decide (look b p.1<p.2)):=aX (eJ (aD rfl) (pQ (aD rfl) (aF (aD rfl) (aF aN.e aW)) (Dz _ _) rfl).e rfl).e rfl;by_cases c:look b p.1<p.2
  ·refine .inr ⟨.fr,.bool false,cC (pS i (λ_=>cC (dN kK)) λz=>absurd c (of_decide_eq_false z)),?_⟩;show _=_;rw[T3 (k▸bo _ bh) c]
  ·refine .inl ⟨_,fG (pS i (λz=>absurd (sg z) c) λ_=>kL) kL,λq l=>?_,_,_,rfl⟩;rcases b6.mp l with z|z
   ·exact hn q z
   ·rw[bf.mp z];exact c
 ·rintro d ⟨hn,f,g,rfl⟩
  show aP _ _ _ _=_;rw[T5 hn];exact cC (dN kK)
theorem Km (r:GR p)(c:GR q):Eu [mr p,mr q]=.ok (.fr,.bool (eL p q)):=by
 refine eD ?_;have b:∀{ρ:Rho} {i:Nat} {p:Bool×P×P×P},ρ[i]?=some (some (.od,mr p))->Vv [] [rZ,nN] (.ix (.var i) (.int 1)) ρ (.str (sd p.1)):=λh=>aO (aD h) aN.e rfl rfl;have k:∀{ρ:Rho} {i:Nat} {p:Bool×P×P×P},ρ[i]?=some (some (.od,mr p))->Vv [] [rZ,nN] (.ix (.var i) (.int 2)) ρ (pk p.2.2.2):=λh=>aO (aD h) aN.e rfl (fW _);have l:∀{ρ:Rho} {i:Nat} {p:Bool×P×P×P},ρ[i]?=some (some (.od,mr p))->Vv [] [rZ,nN] (.ix (.var i) (.int 0)) ρ (kT p.2.1 p.2.2.1):=λh=>aO (aD h) aN.e rfl (u2 _ _);have m:∀{ρ:Rho} {i j:Nat} {p q:Bool×P×P×P},ρ[i]?=some (some (.od,mr p))->ρ[j]?=some (some (.od,mr q))->GR q->Vv [] [rZ,nN] (.call 0 "_law_within" (.cons (.ix (.var i) (.int 2)) (.cons (.call 1 "_law_side" (.cons (.ix (.var j) (.int 0)) (.cons (.ix (.var i) (.int 1)) .nil))) .nil))) ρ (.bool (wi p.2.2.2 (own p.1 q.2.1 q.2.2.1))):=λn s c=>cV (aF (k n).e (aF (lG (aF (l s).e (aF (b n).e aW)) rfl (Kl _ _ _)) aW)) rfl (T6 (yc c.f c.a)) rfl;have o:Tt [] [rZ,nN] (.tv (.cmp .Eq (.ix (.var 0) (.int 1)) (.ix (.var 1) (.int 1)))) [some (.od,mr p),some (.od,mr q)] (p.1==q.1):=aX (eJ (b rfl).e (b rfl).e (by show Res.ok (sd p.1==sd q.1)=_;rw[Kg])).e rfl;have d:=m (ρ:=[some (.od,mr p),some (.od,mr q)]) (i:=0) (j:=1) rfl rfl c;cases g:p.1==q.1 with
 |true=>
  have:eL p q=false:=by unfold eL ag;rw[g];rfl
  rw[this];exact tW o g (cC (dN kK))
 |false=>
  refine tX o g ?_;cases h:wi p.2.2.2 (own p.1 q.2.1 q.2.2.1)with
  |false=>
   have:eL p q=false:=by unfold eL ag;rw[h,Bool.false_and,Bool.and_false]
   rw[this];rw[h]at d;exact tW (mH (aX d.e rfl)) rfl (cC (dN kK))
  |true=>
   rw[h]at d;have:eL p q=wi q.2.2.2 (own q.1 p.2.1 p.2.2.1):=by unfold eL ag;rw[h,g];rfl
   rw[this];exact tX (mH (aX d.e rfl)) rfl (cC (dN (m rfl rfl r)))
theorem Kn (p q:Bool×P×P×P):eL p q=eL q p:=Tu _ _ _ _ _ _ _ _
theorem Kq (n:Int):qF [.int n]=.ok (.fr,.bool true):=rfl
theorem T7 (a:List Str)(t:Str):eO (.list ((a++[t]).map .str)) (.int (-1))=.ok (.str t):=by rw[cv];show Res.dQ (bW (a.map PyData.str++[.str t]) (-1))=_;unfold bW iG;rw[rq (by decide),av,rj (by simp only[bd,nk];omega)];show Res.dQ ((a.map PyData.str++[.str t])[((-1:Int)+(((a.map PyData.str).length+1:Nat):Int)).toNat]?)=_;rw[show((-1:Int)+(((a.map PyData.str).length+1:Nat):Int)).toNat=(a.map PyData.str).length by omega,b9 (ah _),gy];rfl
theorem Kr:∀b a,(nmC (a++b)).Nodup->iI (esC a) (b.map cwD)=some (esC (a++b))
 | [],a,_=>by rw[dm];rfl
 |r::b,a,nd=>by
  have e:a++r::b=(a++[r])++b:=by simp
  rw[e]at nd
  have hn:=λz=>by
   have c:(nmC (a++[r])).Nodup:=by rw[nmC,cv]at nd;exact(gx.mp nd).1
   rw[nmC,cv]at c;exact(gx.mp c).2.2 _ z _ (.head _) rfl
  have d:dput (esC a) (.str r.1) (gZ r.2)=esC (a++[r]):=by rw[Jl (JT hn)];unfold esC;rw[cv];rfl
  rw[e,<-Kr b (a++[r]) nd,<-d];show(if iH (.str r.1)=true then iI (dput (esC a) (.str r.1) (gZ r.2)) (b.map cwD)else none)=_;rw[rj (Dj _)]
theorem T8 (b:Bool)(nd:(nmC rs).Nodup):aggD "dict" b (rs.map cwD)=.ok (.dict (esC rs)):=by show Res.dQ ((iI (esC []) (rs.map cwD)).map PyData.dict)=_;rw[Kr rs [] nd];rfl
theorem T9 (rs:List Cw):cI (esC rs)=true:=by unfold cI esC;rw[qh];exact bx.mpr λr _=>z5 r.2
theorem Ks (nd:(nmC rs).Nodup)(i:aR (esC rs) 999 s=true):u1 [.list (rs.map cwD),.str s]=.ok (.fr,.list ((ln (esC rs) s).map .str)):=by
 refine eD ?_
 let Q:Res Out->Prop:=λz=>z=.ok (.rt .fr (.list ((ln (esC rs) s).map .str)))
 show Q _;refine cX (zx (xr (aD rfl) rfl (T8 true nd) (u9 Ej rs)) (T9 rs)) ?_;refine cX (rQ (lF (bO (v_var rfl rfl) fO)) rfl) ?_;have ix:∀(b:List Str) (t:Str) (a:D),z0d (esC rs) (.str t)=some a->imm a=true->Vv [] [] (.ix (.var 2) (.ix (.var 3) (.neg (.int 1)))) [some (.od,.list (rs.map cwD)),some (.od,.str s),some (.fr,.dict (esC rs)),some (.fr,.list ((b++[t]).map .str))] a:=λb t a e j=>aO (aD rfl) (aO (aD rfl) (⟨_,rfl⟩:Ev _ _ _ _ _) (T7 b t) rfl).e (by show(if iH (.str t)=true then Res.dQ (z0d (esC rs) (.str t))else Res.no)=_;rw[rj (Dj _),e];rfl) j;refine tS (P:=λc=>c=[some (.od,.list (rs.map cwD)),some (.od,.str s),some (.fr,.dict (esC rs)),some (.fr,.list ((ln (esC rs) s).map .str))]) (λk c=>∃b t,k<=999/\b.length+k=999/\aR (esC rs) k t=true/\ln (esC rs) s=b++eK (esC rs) k t/\c=[some (.od,.list (rs.map cwD)),some (.od,.str s),some (.fr,.dict (esC rs)),some (.fr,.list ((b++[t]).map .str))]) 999 (by decide) ⟨[],s,ah _,rfl,i,rfl,rfl⟩ ?_ ?_
 ·rintro k c ⟨b,t,l,m,f,g,rfl⟩
  rcases Sz f with⟨e,el⟩|⟨a,h,rfl,e,d,el⟩
  ·rw[el]at g;exact .inl ⟨aX (DK (ix b t _ e rfl).e).e rfl,by rw[g]⟩
  ·refine .inr ⟨h,_,rfl,aX (DK (ix b t _ e rfl).e).e rfl,fG (DL (ix b t _ e rfl) rfl (by rw[am,av];show b.length+1<1000;omega)) kL,b++[t],a,by omega,by rw[av];show b.length+1+h=999;omega,d,by rw[g,el];simp,?_⟩;rw[cv (l₁:=b++[t])];rfl
 ·rintro c rfl
  exact cC (z7e rfl)
theorem yg (c:Ev Κ Φ a f x)(e:Ev Κ Φ b f y)(h:eO x y=.ok d):Ev Κ Φ (.ix a b) f d:=by obtain⟨g,c⟩:=c;obtain⟨i,e⟩:=e;exact⟨_,by rw[xo,c,Res.aB,e,Res.aB,h,Res.aB]⟩
def eE (e:En)(f:List D):D:=.dict [(.str "court",.str e.1),(.str "word",.str e.2.1),(.str "ruling",e.2.2),(.str "fate",.list f)]
def hG (h:Hd):List D:=(bu h.en.length).map λk=>eE (h.at k) (h.fa k)
theorem yh (h:Hd):(hG h).length=h.en.length:=by unfold hG;rw[am,db]
theorem Ae {h:Hd}(a:k<h.en.length):eO (.list (hG h)) (.int k)=.ok (eE (h.at k) (h.fa k)):=zU (by unfold hG;rw[ar,et a];rfl)
theorem ug (e:En)(f:List D):eO (eE e f) (.str "court")=.ok (.str e.1):=rfl
theorem yi (e:En)(f:List D):eO (eE e f) (.str "word")=.ok (.str e.2.1):=rfl
theorem qI (e:En)(f:List D):eO (eE e f) (.str "ruling")=.ok e.2.2:=rfl
theorem yj (e:En)(f:List D):eO (eE e f) (.str "fate")=.ok (.list f):=rfl
theorem T' (h:bu n=pre++x::a):x<n:=by
 have:x∈bu n:=by rw[h];exact bo _ bh
 exact d6.mp this
theorem Kt (g:dY)(nd:(nmC rs).Nodup)(t:aR (esC rs) 999 s=true)(l:h.es=esC rs)(v:h.en.length<1000):Ab [.list (rs.map cwD),.list (hG h),.str s,.str w]=.ok (.fr,.list (z1g (eQ g h s w .none))):=by
 refine eD ?_
 let Q:Res Out->Prop:=λz=>z=.ok (.rt .fr (.list (z1g (eQ g h s w .none))))
 show Q _
 let p:Nat->Bool:=λk=>((h.at k).2.1==w)&&((ln (esC rs) s).contains (h.at k).1&&((h.fa k).length==1))
 have m:eQ g h s w .none=(bu h.en.length).filter p:=by unfold eQ lJ;rw[lm,l];refine qk λk _=>?_;rw[g.s0];show(_&&(_&&_))=(_&&(_&&_));cases(h.at k).2.1==w<;>cases(ln (esC rs) s).contains (h.at k).1<;>cases(h.fa k).length==1<;>rfl
 refine cX (rQ (RQ (aF (aD rfl) (aF (aD rfl) aW)) rfl (Ks nd t)) (u9 (λ_=>rfl) _)) (cX (rQ (lF fO) rfl) ?_);refine q_nm (DM (aF (cW (aF (aD rfl) aW) (by rw[u7,yh]) rfl).e aW) (by rw[uP (by omega) (by omega)])) (λ_=>rfl) (λpre n=>∃b a,n=[some (.od,.list (rs.map cwD)),some (.od,.list (hG h)),some (.od,.str s),some (.od,.str w),some (.fr,.list ((ln (esC rs) s).map .str)),some (.fr,.list (z1g (pre.filter p))),b,a]/\nX b=b/\nX a=a) ⟨none,none,rfl,rfl,rfl⟩ ?_ ?_
 ·rintro pre k o n q ⟨b,a,rfl,_,_⟩
  have u:pre.length<1000:=by have:=congrArg ki q;rw[db,av]at this;omega
  let c:Rho:=[some (.od,.list (rs.map cwD)),some (.od,.list (hG h)),some (.od,.str s),some (.od,.str w),some (.fr,.list ((ln (esC rs) s).map .str)),some (.fr,.list (z1g (pre.filter p))),some (.al,.int k),a]
  let f:Rho:=[some (.od,.list (rs.map cwD)),some (.od,.list (hG h)),some (.od,.str s),some (.od,.str w),some (.fr,.list ((ln (esC rs) s).map .str)),some (.fr,.list (z1g (pre.filter p))),some (.al,.int k),some (.od,eE (h.at k) (h.fa k))]
  have r:aP [] [u1] (.asg (.nm 7) (.ix (.var 1) (.var 6))) c=.ok (.nx f):=by show((eO (.list (hG h)) (.int k)>>=λd=>Res.ok (gJ d (if imm (.list (hG h))=true then .fr else .od),d))>>=λx=>Res.ok (Out.nx (c.set 7 (some (z1n x)))))=_;rw[Ae (T' q)];rfl
  have i:Tt [] [u1] (.and (.tv (.cmp .Eq (.ix (.var 7) (.str "word")) (.var 3))) (.and (.tv (.cmp .In (.ix (.var 7) (.str "court")) (.var 4))) (.tv (.cmp .Eq (.bi "len" (.cons (.ix (.var 7) (.str "fate")) .nil)) (.int 1))))) f (p k):=
   xu (aX (eJ (aO (aD rfl) dM.e (yi _ _) rfl).e (aD rfl) (eq_str _ _)).e rfl) λ_=>xu (aX (eJ (k:=(ln (esC rs) s).contains (h.at k).1) (aO (aD rfl) dM.e (ug _ _) rfl).e (aD rfl) (zX _ _)).e rfl) λ_=>aX (eJ (cW (aF (yg (aD rfl) dM.e (yj _ _)) aW) rfl rfl).e aN.e (by
    show Res.ok (dZ (.int _) (.int _))=_;rw[DD]
    congr 1
    rw[jk,decide_eq_true_iff,beq_iff_eq];omega)).e rfl
  cases j:p k with
  |true=>
   rw[j]at i;refine⟨_,fG r (fG (pS i (λ_=>fG (DL (v_var rfl rfl) rfl ?_) kL) λz=>by cases z) kL),some (.al,.int k),some (.od,eE (h.at k) (h.fa k)),?_,rfl,rfl⟩
   ·unfold z1g;rw[am];exact fi (dh _ _) u
   ·rw[jp,jx j];unfold z1g;rw[cv];rfl
  |false=>rw[j]at i;refine⟨_,fG r (fG (pS i nofun λ_=>kL) kL),some (.al,.int k),some (.od,eE (h.at k) (h.fa k)),?_,rfl,rfl⟩;rw[jp,jy (by rw[j];decide),List.filter_nil,dm]
 ·rintro n ⟨b,a,rfl,_,_⟩
  show _=_;rw[m];exact cC (z7e rfl)
open PySem.Spec PyProof.Rows L2
def kvE (e:En)(v:V)(f:Addr):List (Key×V):=[(.inr "court",.str e.1),(.inr "word",.str e.2.1),(.inr "ruling",v),(.inr "fate",.ref f)]
structure Les (K:W.Frag)(H:Hp)(a:Addr)(ds fs:List Addr)(h:Hd):Prop where
 lst:H a=some (.lst (ds.map V.ref))
 dl:ds.length=h.en.length
 ent:∀(k:Nat) d,ds[k]?=some d->∃f v,fs[k]?=some f/\H d=some (.dK (kvE (h.at k) v f))/\Rep K H NoB v (h.at k).2.2/\PyData.strOk (h.at k).1=true/\PyData.strOk (h.at k).2.1=true
 dO:xH K H fs h.ft
 nd:fs.Nodup
 n1:a∉fs
theorem Ku:PyData.strOk "court"=true:=by decide+kernel
theorem Kv:PyData.strOk "word"=true:=by decide+kernel
theorem Kw:PyData.strOk "ruling"=true:=by decide+kernel
theorem EG:PyData.strOk "fate"=true:=by decide+kernel
section
variable {K:W.Frag}{H H':Hp}{a:Addr}{ds fs:List Addr}{h:Hd}
theorem Les.keep (t:Les K H a ds fs h)(c:∀b o,b=a\/b∈ds\/b∈fs->H b=some o->H' b=some o)(g:∀a o,H a=some o->Fix o->H' a=some o):Les K H' a ds fs h:=⟨c _ _ (.inl rfl) t.lst,t.dl,λk d e=>by obtain⟨f,v,i,j,r,s⟩:=t.ent k d e;exact⟨f,v,i,c _ _ (.inr (.inl (aq e))) j,Rep.keep (λb o e z=>g b o e (z.resolve_left id)) (λ_ z=>z) _ r,s⟩,t.dO.keep (λb l o e=>c b o (.inr (.inr l)) e) g,t.nd,t.n1⟩
theorem Les.same (t:Les K H a ds fs h)(s:Same H H'):Les K H' a ds fs h:=t.keep (λb o _ e=>s b o e) λa o e _=>s a o e
theorem Les.rep1 (t:Les K H a ds fs h)(e:ds[k]?=some d):Rep K H AnyB (.ref d) (eE (h.at k) (h.fa k)):=by obtain⟨f,v,c,g,r,i,j⟩:=t.ent k d e;obtain⟨l,m,b⟩:=t.dO.2 k f c;exact⟨d,_,rfl,g,trivial,.inr "court",.str (h.at k).1,_,rfl,rfl,Ku,⟨rfl,i⟩,.inr "word",.str (h.at k).2.1,_,rfl,rfl,Kv,⟨rfl,j⟩,.inr "ruling",v,_,rfl,rfl,Kw,r.weak λ_ z=>z.elim,.inr "fate",.ref f,_,rfl,rfl,EG,⟨f,l,rfl,.inl ⟨m,trivial⟩,b.weak λ_ z=>z.elim⟩,rfl⟩
theorem Les.rep (t:Les K H a ds fs h):Rep K H AnyB (.ref a) (.list (hG h)):=by refine⟨a,_,rfl,.inl ⟨t.lst,trivial⟩,ze (by rw[am,yh];exact t.dl) λi v d e c=>?_⟩;rw[ar]at e;obtain⟨b,f,rfl⟩:=bn.mp e;unfold hG at c;rw[ar,et (t.dl▸(aw.mp f).1)]at c;cases c;exact t.rep1 f
theorem Les.there (t:Les K H a ds fs h)(c:b=a\/b∈ds\/b∈fs):H b≠none:=by
 rcases c with rfl|c|c
 ·rw[t.lst];simp
 ·obtain⟨k,d⟩:=cb.mp c;obtain⟨_,_,_,e,_⟩:=t.ent k b d;rw[e];simp
 ·obtain⟨k,d⟩:=cb.mp c;obtain⟨f,e,_⟩:=t.dO.2 k b d;rw[e];simp
theorem Les.cZ (t:Les K H a ds fs h)(c:b=a\/b∈fs)(e:H b=some o):¬Fix o:=by
 rcases c with rfl|c
 ·rw[t.lst]at e;cases e;exact id
 ·obtain⟨k,d⟩:=cb.mp c;obtain⟨g,f,_⟩:=t.dO.2 k b d;rw[f]at e;cases e;exact id
theorem Les.Ua (t:Les K H a ds fs h)(hd:d∈ds)(c:H b=some (.lst g)):d≠b:=by
 rintro rfl
 obtain⟨k,f⟩:=cb.mp hd;obtain⟨_,_,_,e,_⟩:=t.ent k d f;rw[e]at c;cases c
theorem Les.nJ (t:Les K H a ds fs h)(e:fs[k]?=some f)(hf:H f=some (.lst g))(i:Reps K H NoB g (h.fa k))(u:Rep K H NoB y r):Les K (upd H f (.lst (g++[y]))) a ds fs {h with ft:=h.ft.set k (h.fa k++[r])}:=by
 have l:=aq e;have m:=xP (ys:=g++[y]) hf;have n:=(aw.mp e).1;refine⟨by rw[aE λ(z:a=f)=>t.n1 (z▸l)];exact t.lst,t.dl,λj d c=>?_,⟨by rw[cn];exact t.dO.1,λj b c=>?_⟩,t.nd,t.n1⟩
 ·obtain⟨w,v,x,o,A,s⟩:=t.ent j d c;exact⟨w,v,x,by rw[aE (t.Ua (aq c) hf)];exact o,Rep.keep m (λ_ z=>z) _ A,s⟩
 ·by_cases p:j=k
  ·subst p;rw[e]at c;cases c;refine⟨g++[y],bF,?_⟩;rw[aa,ce (by rw[<-t.dO.1];exact n)];exact Reps.keep m (λ_ z=>z) _ (i.append (Reps.cons u rfl))
  ·obtain⟨B,o,C⟩:=t.dO.2 j b c;have q:b≠f:=λz=>by subst z;exact p (xQ t.nd c e)
   refine⟨B,by rw[aE q];exact o,?_⟩;rw[aa,bv (Ne.symm p),<-aa];exact Reps.keep m (λ_ z=>z) _ C
theorem Ky (e:(l++[x])[k]?=some y):(k<l.length/\l[k]?=some y)\/(k=l.length/\y=x):=by grind
theorem Les.put1 (t:Les K H a ds fs h)(u:h.ft.length=h.en.length)(hd:H d=some (.dK (kvE e v f)))(A:Rep K H NoB v e.2.2)(B:PyData.strOk e.1=true)(C:PyData.strOk e.2.1=true)(hf:H f=some (.lst p))(m:Reps K H NoB p g)(D:f∉fs)(q:f≠a):
  Les K (upd H a (.lst (ds.map V.ref++[.ref d]))) a (ds++[d]) (fs++[f]) ⟨h.es,h.en++[e],h.ft++[g],h.ld⟩:=by
 have j:=xP (ys:=ds.map V.ref++[.ref d]) t.lst;have fl:=t.dO.1;have E:∀{k:Nat},k<h.en.length->Hd.at ⟨h.es,h.en++[e],h.ft++[g],h.ld⟩ k=h.at k:=λ{k} i=>by unfold Hd.at;rw[aa,cy i,<-aa]
 have ne:∀{b:Addr} {o:HO},H b=some o->(∀z,o≠.lst z)->b≠a:=λ{b o} e z w=>by subst w;rw[t.lst]at e;cases e;exact z _ rfl
 refine⟨by rw[bF,cv];rfl,by rw[av,av,t.dl];rfl,λk F c=>?_,⟨by rw[av,av,fl];rfl,λk b c=>?_⟩,?_,λz=>?_⟩
 ·rcases Ky c with⟨i,c⟩|⟨rfl,rfl⟩
  ·obtain⟨G,I,r,l,J,s⟩:=t.ent k F c;rw[E (t.dl▸i)];exact⟨G,I,by rw[cy (aw.mp r).1];exact r,by rw[aE (ne l nofun)];exact l,Rep.keep j (λ_ z=>z) _ J,s⟩
  ·have n:Hd.at ⟨h.es,h.en++[e],h.ft++[g],h.ld⟩ ds.length=e:=by
    unfold Hd.at;rw[aa,t.dl,b9 (ah _),gy];rfl
   rw[n];exact⟨f,v,by rw[t.dl,<-u,<-fl,b9 (ah _),gy];rfl,by rw[aE (ne hd nofun)];exact hd,Rep.keep j (λ_ z=>z) _ A,B,C⟩
 ·rcases Ky c with⟨i,c⟩|⟨rfl,rfl⟩
  ·obtain⟨L,l,M⟩:=t.dO.2 k b c;refine⟨L,by rw[aE λ(z:b=a)=>t.n1 (z▸aq c)];exact l,?_⟩;rw[aa,cy (fl▸i),<-aa];exact Reps.keep j (λ_ z=>z) _ M
  ·refine⟨p,by rw[aE q];exact hf,?_⟩;rw[aa,fl,b9 (ah _),gy];exact Reps.keep j (λ_ z=>z) _ m
 ·exact gx.mpr ⟨t.nd,by simp,λx N y O z=>D (by rw[<-bf.mp O,<-z];exact N)⟩
 ·rcases b6.mp z with z|z
  ·exact t.n1 z
  ·exact q (bf.mp z).symm
theorem Kz (t:D):∀(L:List Nat) (ft:List (List D)) (k:Nat),k∉L->(eZ ft L t).getD k []=ft.getD k []
 | [],ft,k,_=>rfl
 |i::L,ft,k,h=>by show(eZ (ft.set i (ft.getD i []++[t])) L t).getD k []=_;rw[Kz t L _ k λz=>h (.tail _ z),aa,bv (λ(z:i=k)=>h (z▸ .head _)),<-aa]
end
inductive Sl (K:W.Frag)(H:Hp):L2.St->Rho->Prop where
 |nil:Sl K H [] []
 |no {o:Option V} {σ:L2.St} {ρ:Rho} (t:Sl K H σ ρ):Sl K H (o::σ) (none::ρ)
 |da {v:V} {d:D} {B:Ad->Prop} {σ:L2.St} {ρ:Rho} (r:Rep K H B v d) (t:Sl K H σ ρ):Sl K H (some v::σ) (some (.od,d)::ρ)
theorem Sl.len {K:W.Frag}(s:Sl K H σ ρ):σ.length=ρ.length:=by
 induction s with
 |nil=>rfl
 |no t a=>rw[bd,bd,a]
 |da r t a=>rw[bd,bd,a]
theorem Sl.at {K:W.Frag}(s:Sl K H σ ρ):∀(i:Nat) g d,ρ[i]?=some (some (g,d))->g=G.od/\∃v B,σ[i]?=some (some v)/\Rep K H B v d:=by
 induction s with
 |nil=>intro i g d e;cases e
 |no t a=>
  intro i g d e;cases i with
  |zero=>cases e
  |succ i=>exact a i g d e
 |da r t a=>
  intro i g d e;cases i with
  |zero=>cases e;exact⟨rfl,_,_,rfl,r⟩
  |succ i=>exact a i g d e
theorem Sl.so {K:W.Frag}(s:Sl K H a b):StOk K (F0 H) H a b:=pX s.len s.at
theorem Sl.same {K:W.Frag}(s:Sl K H σ ρ)(m:Same H b):Sl K b σ ρ:=by
 induction s with
 |nil=>exact .nil
 |no t a=>exact .no a
 |da r t a=>exact .da (r.same m λ_ z=>z) a
theorem fJ {K:W.Frag}(a:L2.St):Sl K H a (ax a.length none):=by
 induction a with
 |nil=>exact .nil
 |cons o a b=>exact .no b
theorem KA {A:Ha}{x p b:Addr}(hb:({A with as:=A.as++[p]}:Ha).own x b):A.own x b\/b=p:=by
 rcases hb with h|h|h|h|h
 ·exact .inl (.inl h)
 ·exact .inl (.inr (.inl h))
 ·exact .inl (.inr (.inr (.inl h)))
 ·exact .inl (.inr (.inr (.inr (.inl h))))
 ·rcases b6.mp h with h|h
  ·exact .inl (.inr (.inr (.inr (.inr h))))
  ·exact .inr (bf.mp h)
theorem eq_self (h:bE 40 d=true):cmpD .Eq d d=.ok true:=by show(if(bE 40 d&&bE 40 d)=true then Res.ok (dZ d d)else Res.no)=_;rw[h,rj (show(true&&true)=true from rfl),show dZ d d=true from tM d 40 h]
section
variable {K:W.Frag}{HC CC:Addr}{mg:Str->Option Value}{H1:Hp}{Q:Addr->Hp->Prop}{E:XK}
theorem kH (ct:Crt K CC H1 y dy d kvs es)(i:z0h [] (es.map ent)=some es)(j:es.length<1000)(q:∀x A a,Same H1 a->H1 x=none->(∀b,A.own x b->H1 b=none)->H1 A.c=none->Hou K HC CC a x A ⟨es,[],[],none⟩->Q x a):
  ∀x dx,H1 x=none->H1 dx=none->dx≠x->spHi K HC CC (.ref x::([.ref y]++[])) (upd (upd H1 dx (.own x)) x (.ins HC dx [])) (λv k=>v=.aK/\Q x k) E:=by
 intro x dx f h l;have g:Same H1 (upd (upd H1 dx (.own x)) x (.ins HC dx [])):=λb o e=>by rw[aE (bK e f),aE (bK e h)];exact e
 refine⟨x,dx,y,dy,d,kvs,es,rfl,bF,ct.same g,i,j,λa A m n p t=>⟨rfl,q x A a (λb o e=>m b o (bK e f) (g b o e)) f (λb r=>?_) (g.none p) t⟩⟩;rcases n b r with rfl|z
 ·exact f
 ·exact g.none z
theorem kC (l:Rep K H1 B i (.list ps))(j:z0h [] ps=some es)(m:ps.length<1000)(q:∀x dx d kvs a,Same H1 a->H1 x=none->H1 d=none->Crt K CC a x dx d kvs es->Q x a):
  ∀x dx,H1 x=none->H1 dx=none->dx≠x->za9 K CC mg (.ref x::([i]++[])) (upd (upd H1 dx (.own x)) x (.ins CC dx [])) (λv k=>v=.aK/\Q x k) E:=by
 intro x dx f g n;have c:Same H1 (upd (upd H1 dx (.own x)) x (.ins CC dx [])):=λb o e=>by rw[aE (bK e f),aE (bK e g)];exact e
 obtain⟨p,h⟩:=Eh j;refine⟨x,dx,i,ps,AnyB,rfl,bF,l.same c λ_ _=>trivial,p,h,m,?_⟩;generalize upd (upd H1 dx (.own x)) x (.ins CC dx [])=k at c;unfold t8;rw[j];exact λa d kvs hd r ct=>⟨rfl,q x dx d kvs a (λb o e=>r b o (bK e f) (c b o e)) f (c.none hd) ct⟩
end
theorem KC:Hok b ⟨es,[],[],none⟩:=⟨rfl,cz _,(λe a=>(by cases a)),(λf hf=>(by cases hf))⟩
theorem eR (a:Z.Κ=[])(b:Z.Φ=Φ)(s:Sl Z.K H g ρ)(e:Ev [] Φ c ρ d)(q:∀v f,Same H f->Rep Z.K f AnyB v d->Q v f):wE Z (.bD c) g H Q:=by obtain⟨h,e⟩:=e;exact Jv s.so (by rw[a,b];exact e) q
theorem ve (a:Z.Κ=[])(d:Z.Φ=Φ)(s:Sl Z.K H g ρ)(e:Tt [] Φ c ρ b)(q:∀f,Same H f->R b f):wT Z (.tp c) g H R:=SI s.so (by rw[a,d];exact e) q
theorem Sl.jU {K:W.Frag}(t:Sl K H a ρ):Sl K H (some (.int i)::a) (some (.od,.int i)::ρ):=.da (B:=AnyB) (d:=.int i) rfl t
theorem SqL.same {K:W.Frag}(h:SqL K H a b)(s:Same H c):SqL K c a b:=by
 rcases h with(h|⟨o,h⟩)|h
 ·exact .inl (.inl (s _ _ h))
 ·exact .inl (.inr ⟨o,s _ _ h⟩)
 ·exact .inr h
theorem Ub {b:L2.St}(d:a.length=b.length)(e:a[i]?=some (some w))(r:∀j,j≠i->a[j]?=b[j]?):a=b.set i (some w):=by
 refine gw λj=>?_;by_cases c:j=i
 ·subst c;rw[e,ce (d▸(aw.mp e).1)]
 ·rw[r j c,bv (Ne.symm c)]
theorem KD {K:W.Frag}(r:Rep K H B v d)(b:i<a.length)(q:∀w,Rep K H AnyB w d->Q (a.set i (some w)) H):tDG K (.nm i) v a H Q:=zeo r b λc w f e g rest=>by rw[Ub f e rest];exact q w g
namespace L2k
abbrev KG (i:Nat):C:=.ix (.var i) (.str "ruling")
abbrev KH:WS:=.seq (.bU (.tp (.tv (.call 0 "_law_clash" (.cons (.var 5) (.cons (.ix (.ix (.var 1) (.var 6)) (.str "ruling")) .nil))))) (.seq (.ret (.tup (.cons (.bD (.str "barred")) (.cons (.raw 6) .nil)))) .nil) .nil) .nil
abbrev Uc:C:=.and (.tv (.cmp .Eq (.ix (.var 7) (.str "word")) (.var 4))) (.and (.tv (.cmp .Eq (.bi "len" (.cons (.ix (.var 7) (.str "fate")) .nil)) (.int 1))) (.and (.tv (.var 8)) (.tv (.call 0 "_law_clash" (.cons (.var 5) (.cons (KG 7) .nil))))))
abbrev KI:WS:=.seq (.asg 8 (.bD (.and (.cmp .NotEq (.ix (.var 7) (.str "court")) (.var 3)) (.cmp .In (.var 3) (.call 1 "_law_line" (.cons (.var 0) (.cons (.ix (.var 7) (.str "court")) .nil))))))) (.seq (.bU (.tp Uc) (.seq (.app (.uR (.raw 7) (.bD (.str "fate"))) (.tup (.cons (.bD (.str "fell")) (.cons (.raw 2) (.cons (.bD (.bi "len" (.cons (.var 1) .nil))) .nil))))) .nil) .nil) .nil)
abbrev Ud:WS:=.seq (.app (.raw 1) (.d4 "court" "word" "ruling" "fate" (.raw 3) (.raw 4) (.raw 5) (.lst (.cons (.tup (.cons (.bD (.str "entered")) (.cons (.raw 2) (.cons (.raw 3) .nil)))) .nil)))) (.seq (.ret (.tup (.cons (.bD (.str "number")) (.cons (.bD (.bin .Sub (.bi "len" (.cons (.var 1) .nil)) (.int 1))) .nil)))) .nil)
def el:WS:=.seq (.eX 6 (.bD (.call 2 "_law_standing" (.cons (.var 0) (.cons (.var 1) (.cons (.var 3) (.cons (.var 4) .nil)))))) KH) (.seq (.eX 7 (.raw 1) KI) Ud)
end L2k
abbrev Φe:List Fn:=[Eu,u1,Ab]
structure PhL (φ:dY):Prop where
 g1:∀p,GR p->φ.G (mr p)
 g2:∀r,φ.G r->∃p,GR p/\r=mr p
 g3:∀p q,GR p->GR q->φ.ag (mr p) (mr q)=eL p q
theorem z44 (I:Addr->Nat->L2.St->Hp->Prop)(l:∀R,(∀a j,SqL Z.K j a d->I a 0 t j->R (.ref a) j)->wE Z it t H R)(x:∀a k c e,I a k c e->SqL Z.K e a d)
  (one:∀a k v c e,d[k]?=some v->I a k c e->∀n,n.rt=u.rt->(∀f o,I a (k+1) f o->n.nx f o)->wS Z b n (c.set i (some v)) e) (q:∀a c e,I a d.length c e->u.nx c e):wS Z (.eX i it b) u t H:=by
 refine l _ λa j z A=>⟨a,rfl,⟨d,z⟩,λk m c e=>m=d.length-k/\k<=d.length/\I a k c e,⟨_,rfl,cz _,A⟩,?_⟩
 rintro k m c e ⟨rfl,C,p⟩
 have hs:=x a k c e p;by_cases g:k<d.length
 ·refine .inr ⟨⟨d,d[k],hs,ae g⟩,λh r=>d.length-(k+1)=d.length-(k+1)/\k+1<=d.length/\I a (k+1) h r,λh r w=>⟨_,by omega,w⟩,λy r s=>?_⟩;obtain⟨B,s⟩:=s;rw[B];exact one a k y c e (s _ hs) p _ rfl λf o w=>⟨rfl,g,w⟩
 ·have :k=d.length:=by omega
  subst this;exact .inl ⟨⟨d,hs,ah _⟩,q a c e p⟩
abbrev FrmL (a:Addr)(fs:List Addr)(H H':Hp):Prop:=∀b o,b≠a->b∉fs->H b=some o->H' b=some o
abbrev fA (φ:dY)(K:W.Frag)(H:Hp)(a:Addr)(ds fs:List Addr)(h:Hd)(n:Int)(s w:Str)(r:D)(Q:VK):Prop:=
 match bar φ h s w r with
 |some k=>∀H' v,Same H H'->Rep K H' NoB v (.tuple [.str "barred",.int k])->Q v H'
 |none=>∀H' d f v,FrmL a fs H H'->H d=none->H f=none->Les K H' a (ds++[d]) (fs++[f]) (h.put n s w r (fll φ h s w r))->Rep K H' NoB v (.tuple [.str "number",.int h.en.length])->Q v H'
theorem Ue {a:Type}{f:a->Bool}{L:List a}{x:a}(e:L[k]?=some x)(c:∀y∈L.take k,f y=false)(d:f x=true):L.find? f=some x:=by have b:=(aw.mp e).1;have this:=(nv k L).symm;rw[gm b,show L[k]=x by rw[ae b]at e;exact se e]at this;rw[this,l0,lj.mpr λy g=>by rw[c y g];decide,j0 d];rfl
theorem Ug (m:Nat):cmpD .Eq (.int m) (.int 1)=.ok (m==1):=by
 show Res.ok (dZ (.int _) (.int _))=_;rw[DD]
 congr 1
 rw[jk,decide_eq_true_iff,beq_iff_eq];omega
section
variable {φ:dY}{Z:Wc}{H:Hp}{a:Addr}{ds fs:List Addr}{h:Hd}{rs:List Cw}{D0:Ends}{vr vc vw vm:V}{n:Int}{s w:Str}{p:Bool×P×P×P}{B:Ad->Prop}
abbrev oB (vr:V)(a:Addr)(n:Int)(vc vw vm:V)(tl:L2.St):L2.St:=some vr::some (.ref a)::some (.int n)::some vc::some vw::some vm::tl
abbrev KJ (rs:List Cw)(h:Hd)(n:Int)(s w:Str)(p:Bool×P×P×P)(tl:Rho):Rho:=some (.od,.list (rs.map cwD))::some (.od,.list (hG h))::some (.od,.int n)::some (.od,.str s)::some (.od,.str w)::some (.od,mr p)::tl
theorem uh {K:W.Frag}(t:Les K H a ds fs h)(rr:Rep K H B vr (.list (rs.map cwD)))(d:Rep K H B vc (.str s))(b:Rep K H B vw (.str w))(rm:Rep K H B vm (mr p))(e:Sl K H tl c):Sl K H (oB vr a n vc vw vm tl) (KJ rs h n s w p c):=.da rr (.da t.rep (.jU (.da d (.da b (.da rm e)))))
theorem KN (ok:Hok φ h)(a:PhL φ)(b:k<h.en.length):∃q,GR q/\(h.at k).2.2=mr q:=a.g2 _ (ok.gd _ (aq (Hd.get b))).1
theorem Uh (h:ρ[i]?=some (some (.od,eE e f)))(a:imm e.2.2=true):Vv [] Φ (L2k.KG i) ρ e.2.2:=aO (aD h) dM.e (qI e f) a
theorem zn2 (r:Z.Κ=[])(u:Z.Φ=Φe)(P:PhL φ)(nd:(nmC rs).Nodup)(A:h.es=esC rs)(ok:Hok φ h)(hb:h.en.length<900)(t:Les Z.K H a ds fs h)(rr:Rep Z.K H B vr (.list (rs.map cwD)))(Q:Rep Z.K H B vc (.str s))(C:Rep Z.K H B vw (.str w))(rm:Rep Z.K H B vm (mr p))(S:GR p)(X:z2c h.es s=true)
  (Y:∀k,bar φ h s w (mr p)=some k->∀d v,Same H d->Rep Z.K d NoB v (.tuple [.str "barred",.int k])->D0.rt v d)
  (q2:bar φ h s w (mr p)=none->∀q d,Same H d->D0.nx (oB vr a n vc vw vm [q,none,none]) d):
  wS Z (.eX 6 (.bD (.call 2 "_law_standing" (.cons (.var 0) (.cons (.var 1) (.cons (.var 3) (.cons (.var 4) .nil)))))) L2k.KH) D0 (oB vr a n vc vw vm [none,none,none]) H:=by
 obtain⟨_,T⟩:=au.mp X;rw[A]at T
 let L:=eQ φ h s w .none
 let g:Nat->Bool:=λk=>φ.ag (h.at k).2.2 (mr p)
 have hL:∀k∈L,k<h.en.length:=λk hk=>xK (dj.mp hk).1;refine z44 (λb k j d=>Same H d/\SqL Z.K d b (lK L)/\(∀y∈L.take k,g y=false)/\∃q,j=oB vr a n vc vw vm [q,none,none]) (λR k=>?_) (λ_ _ _ _ z=>z.2.1) (λb k v j d hv z D2 G nx=>?_) λb j d z=>?_
 ·refine eR r u (uh t rr Q C rm (fJ [none,none,none])) (lG (aF (aD rfl) (aF (aD rfl) (aF (aD rfl) (aF (aD rfl) aW)))) rfl (Kt φ nd T A (by omega))) λv H1 l r1=>?_;obtain⟨b,vs,rfl,I,J⟩:=lC r1;rw[xI J]at I;exact k b H1 I ⟨l,I,(λy i=>by cases i),none,rfl⟩
 ·obtain⟨l,sq,c,q,rfl⟩:=z;have M:L[k]?.map (λ(k:Nat)=>V.int (k:Int))=some v:=by rw[<-ar];exact hv
  obtain⟨m,hm,rfl⟩:=bn.mp M;have D:=hL m (aq hm);obtain⟨N,E,o⟩:=KN ok P D;have U:g m=eL p N:=by show φ.ag (h.at m).2.2 (mr p)=_;rw[o,P.g3 _ _ E S,Kn]
  refine gW (qA (ve r u ((uh t rr Q C rm (.jU (fJ _))).same l) (aX (cV (aF (aD rfl) (aF (aO (yg (aD rfl) (aD rfl) (Ae D)) dM.e (qI _ _) (by rw[o];exact oA N)).e aW)) rfl (by rw[o];exact Km S E) rfl).e rfl) λH2 O=>?_));cases F:eL p N with
  |true=>refine xU (pY (aL (kP z8 λH3 s3=>aL (aG rfl (bQ ⟨by rw[ci];simp,λx W=>?_⟩)))));rw[G];exact Y m (Ue (f:=g) hm c (by rw[U,F])) _ _ (l.trans (O.trans (s3.trans (Same.upd W)))) (gU W (Reps.cons ⟨rfl,z8⟩ (Reps.cons rfl rfl)))
  |false=>
   refine iF Z (iF Z (nx _ H2 ⟨l.trans O,SqL.same sq O,λy i=>?_,some (.int m),rfl⟩));have:L.take (k+1)=L.take k++[m]:=by rw[j5,hm];rfl
   rw[this]at i;rcases b6.mp i with i|i
   ·exact c y i
   ·rw[bf.mp i,U,F]
 ·obtain⟨l,_,c,q,rfl⟩:=z;refine q2 (lj.mpr λy i=>?_) q d l;have:=c y (by rw[m6 (by unfold lK;rw[am];exact ah _)];exact i);show ¬g y=true;rw[this];decide
end
theorem Ui (e:En)(v:V)(f:Addr):cG (kvE e v f) (.inr "fate")=some (.ref f):=by unfold kvE;rw[sQ (by simp;decide),sQ (by simp;decide),sQ (by simp;decide),vM rfl]
def gF (φ:dY)(rs:List Cw)(h:Hd)(s w:Str)(r:D)(k:Nat):Bool:=((h.at k).2.1==w)&&(((h.fa k).length==1)&&((!((h.at k).1==s)&&(ln (esC rs) (h.at k).1).contains s)&&φ.ag (h.at k).2.2 r))
theorem Uj (a:h.es=esC rs):fll b h s w r=(bu h.en.length).filter (gF b rs h s w r):=by unfold fll lJ;rw[lm,a];refine qk λk _=>?_;rw[b.s0];unfold gF;cases(h.at k).2.1==w<;>cases(h.fa k).length==1<;>cases(h.at k).1==s<;>cases(ln (esC rs) (h.at k).1).contains s<;>cases b.ag (h.at k).2.2 r<;>rfl
theorem KO (g:Nat->Bool)(k:Nat):(bu (k+1)).filter g=(bu k).filter g++(if g k then[k]else[]):=by
 rw[List.range_succ]
 congr 1
 cases e:g k<;>simp[e]
section
variable {φ:dY}{Z:Wc}{H:Hp}{a:Addr}{ds fs:List Addr}{h:Hd}{rs:List Cw}{D0:Ends}{vr vc vw vm:V}{n:Int}{s w:Str}{p:Bool×P×P×P}{B:Ad->Prop}
theorem zmh (C:Z.Κ=[])(E:Z.Φ=Φe)(hF:PhL φ)(nd:(nmC rs).Nodup)(N:h.es=esC rs)(ok:Hok φ h)(hb:h.en.length<900)(t:Les Z.K H a ds fs h)(rr:Rep Z.K H B vr (.list (rs.map cwD)))(rc:Rep Z.K H B vc (.str s))(rw':Rep Z.K H B vw (.str w))(rm:Rep Z.K H B vm (mr p))(hp:GR p)(hB:∀b,B (some b)->b≠a/\b∉fs)
  (q:∀M F c,FrmL a fs H c->Les Z.K c a ds fs {h with ft:=eZ h.ft (fll φ h s w (mr p)) (z8y n h.en.length)}->D0.nx (oB vr a n vc vw vm [o6,M,F]) c):
  wS Z (.eX 7 (.raw 1) L2k.KI) D0 (oB vr a n vc vw vm [o6,none,none]) H:=by
 generalize z4:z8y n h.en.length=O at q;generalize P:gF φ rs h s w (mr p)=g;have Uk:fll φ h s w (mr p)=(bu h.en.length).filter g:=P▸Uj N;rw[Uk]at q;have fix:∀{c},FrmL a fs H c->∀b o,H b=some o->Fix o->c b=some o:=λ{c} f b o e z=>f b o (λy=>t.cZ (.inl y) e z) (λy=>t.cZ (.inr y) e z) e
 have Y:∀{c} {v:V} {d:D},FrmL a fs H c->Rep Z.K H B v d->Rep Z.K c B v d:=λ{c v d} f r=>Rep.keep (λb o e z=>by
  rcases z with z|z
  ·exact f b o (hB b z).1 (hB b z).2 e
  ·exact fix f b o e z) (λ_ z=>z) d r
 refine z44 (λb k l c=>b=a/\FrmL a fs H c/\Les Z.K c a ds fs {h with ft:=eZ h.ft ((bu k).filter g) O}/\∃M F,l=oB vr a n vc vw vm [o6,M,F]) (λR k=>aG rfl (k a H (SqL.of t.lst) ⟨rfl,λb o _ _ e=>e,t,none,none,rfl⟩)) (λb k l c z=>by rw[z.1];exact SqL.of z.2.2.1.lst) (λb k v l c hv z D2 KP nx=>?_) λb l c z=>?_
 ·obtain⟨rfl,fr,u,M,F,rfl⟩:=z;rw[ar]at hv;obtain⟨d,hd,rfl⟩:=bn.mp hv;have Q:k<h.en.length:=t.dl▸(aw.mp hd).1;obtain⟨pq,S,G⟩:=KN ok hF Q;generalize I:eZ h.ft ((bu k).filter g) O=ft at u;have T:ft.getD k []=h.fa k:=by rw[<-I];exact Kz O _ _ k λz=>absurd (d6.mp (dj.mp z).1) (cq k)
  have re:Rep Z.K c AnyB (.ref d) (eE (h.at k) (h.fa k)):=by have:=u.rep1 hd;rw[show Hd.fa {h with ft:=ft} k=h.fa k from T]at this;exact this
  have U:=(au.mp (ok.gd _ (aq (Hd.get Q))).2.2).2;rw[N]at U;have sl:∀{J:Hp} {o:Option V} {L:Rho},Same c J->Sl Z.K J [o] L->Sl Z.K J (oB vr b n vc vw vm [o6,some (.ref d),o]) (KJ rs {h with ft:=ft} n s w p (none::some (.od,eE (h.at k) (h.fa k))::L)):=λ{J o L} A tl=>uh (u.same A) ((Y fr rr).same A λ_ z=>z) ((Y fr rc).same A λ_ z=>z) ((Y fr rw').same A λ_ z=>z) ((Y fr rm).same A λ_ z=>z) (.no (.da (re.same A λ_ z=>z) tl));refine fI (eR C E (sl (Same.refl c) (fJ [F])) (v_and (eJ (k:=!((h.at k).1==s)) (aO (aD rfl) dM.e (ug _ _) rfl).e (aD rfl) (ne_str _ _)).e λ_=>eJ (k:=(ln (esC rs) (h.at k).1).contains s) (aD rfl) (lG (aF (aD rfl) (aF (aO (aD rfl) dM.e (ug _ _) rfl).e aW)) rfl (Ks nd U)) (zX _ _)).e λv8 H1 s1 r8=>?_);cases r8;have W:g k=(((h.at k).2.1==w)&&(((h.fa k).length==1)&&((!((h.at k).1==s)&&(ln (esC rs) (h.at k).1).contains s)&&eL p pq))):=by rw[<-P];unfold gF;rw[G,hF.g3 _ _ S hp,Kn]
  refine gW (qA (ve C E (sl s1 (.da (B:=AnyB) (d:=.bool (!((h.at k).1==s)&&(ln (esC rs) (h.at k).1).contains s)) rfl .nil)) (b:=g k) (by rw[W];exact xu (aX (eJ (aO (aD rfl) dM.e (yi _ _) rfl).e (aD rfl) (eq_str _ _)).e rfl) λ_=>xu (aX (eJ (cW (aF (yg (aD rfl) dM.e (yj _ _)) aW) rfl rfl).e aN.e (Ug _)).e rfl) λ_=>xu (aX (aD rfl) rfl) λ_=>aX (cV (aF (aD rfl) (aF (Uh rfl (G▸oA pq)).e aW)) rfl (G▸Km hp S) rfl).e rfl) λJ A=>?_));have i:=s1.trans A;cases j:g k with
  |false=>refine iF Z (iF Z (nx _ J ⟨rfl,λb o h1 h2 e=>i b o (fr b o h1 h2 e),?_,_,_,rfl⟩));rw[KO,j];show Les _ _ _ _ _ {h with ft:=eZ h.ft (_++[]) O};rw[dm,I];exact u.same i
  |true=>
   have t2:=u.same i;obtain⟨f,v,e1,e2,_,_⟩:=t2.ent k d hd;obtain⟨ws,e3,X⟩:=t2.dO.2 k f e1;refine gW (uX (show wE Z (.uR (.raw 7) (.bD (.str "fate"))) (oB vr b n vc vw vm [o6,some (.ref d),some (.bl _)]) J _ from⟨.ref d,rfl,kP EG λH3 s3=>⟨d,.ref f,rfl,Ui (h.at k) v f▸DGet.k (k:=.inr "fate") (s3 _ _ e2),.inl ⟨rfl,_,SqL.of (s3 _ _ e3)⟩,pY (aL (kP z0 λH4 s4=>aL (aG rfl (aL (eR C E (sl (i.trans (s3.trans s4)) (fJ _)) (cW (aF (aD rfl) aW) (by rw[u7,yh]) rfl).e λvl H5 s5 r5=>bQ ⟨by rw[ci];simp,λx hx=>?_⟩)))))⟩⟩));cases r5;have m:=(s3.trans (s4.trans s5)).trans (Same.upd (o:=.tup [.str "fell",.int n,.int h.en.length]) hx);have e6:=m _ _ e3;have Ul:(h.fa k).length=1:=by rw[W]at j;simp at j;exact j.2.1
   refine⟨f,ws,.ref x,rfl,rfl,e6,?_,iF Z (iF Z (nx _ _ ⟨rfl,λb o h1 h2 e=>?_,?_,_,_,rfl⟩))⟩
   ·have :=X.length;rw[T,Ul]at this;rw[this];decide
   ·rw[aE (λ(z:b=f)=>h2 (z▸aq e1))];exact m b o (i b o (fr b o h1 h2 e))
   ·rw[KO,j];show Les _ _ _ _ _ {h with ft:=eZ h.ft (_++[k]) O};rw[JF,I];exact(t2.same m).nJ e1 e6 (X.same m λ_ z=>z) (z4▸gU hx (Reps.cons ⟨rfl,z0⟩ (Reps.cons rfl (Reps.cons rfl rfl))))
 ·obtain⟨rfl,fr,u,M,F,rfl⟩:=z;rw[am,t.dl]at u;exact q M F c fr u
end
theorem Um (e:En)(v:V)(f:Addr):sT [] (kvE e v f)=kvE e v f:=by
 have a:("court":Str)≠"word":=by decide
 have b:("court":Str)≠"ruling":=by decide
 have c:("court":Str)≠"fate":=by decide
 have d:("word":Str)≠"ruling":=by decide
 have g:("word":Str)≠"fate":=by decide
 have h:("ruling":Str)≠"fate":=by decide
 unfold sT kvE;simp[putK,a,b,c,d,g,h]
def spEl (φ:dY)(K:W.Frag):Sp:=λvs H Q _=>∃vr a n vc vw vm ds fs h rs s w p B,vs=[vr,.ref a,.int n,vc,vw,vm]/\(nmC rs).Nodup/\h.es=esC rs/\Hok φ h/\h.en.length<900/\Les K H a ds fs h/\Rep K H B vr (.list (rs.map cwD))/\Rep K H B vc (.str s)/\Rep K H B vw (.str w)/\Rep K H B vm (mr p)/\GR p/\z2c h.es s=true/\(∀b,B (some b)->b≠a/\b∉fs)/\fA φ K H a ds fs h n s w (mr p) Q
section
variable {φ:dY}{Z:Wc}{H:Hp}{a:Addr}{ds fs:List Addr}{h:Hd}{rs:List Cw}{D0:Ends}{vr vc vw vm:V}{n:Int}{s w:Str}{p:Bool×P×P×P}{B:Ad->Prop}
theorem zqq (l:Z.Κ=[])(m:Z.Φ=Φe)(hF:PhL φ)(nd:(nmC rs).Nodup)(I:h.es=esC rs)(ok:Hok φ h)(T:h.en.length<900)(t:Les Z.K H a ds fs h)(rr:Rep Z.K H B vr (.list (rs.map cwD)))(U:Rep Z.K H B vc (.str s))(u:Rep Z.K H B vw (.str w))(rm:Rep Z.K H B vm (mr p))(hp:GR p)(hc:z2c h.es s=true)(W:∀b,B (some b)->b≠a/\b∉fs)
  (q:fA φ Z.K H a ds fs h n s w (mr p) D0.rt):wS Z L2k.el D0 (oB vr a n vc vw vm [none,none,none]) H:=by
 refine gW (zn2 l m hF nd I ok T t rr U u rm hp hc (λk hk=>?_) λX o6 H1 Y=>?_)
 ·unfold fA at q;rw[hk]at q;exact q
 unfold fA at q;rw[X]at q;have up:∀{v:V} {d:D},Rep Z.K H B v d->Rep Z.K H1 B v d:=λr=>r.same Y λ_ z=>z;refine gW (zmh l m hF nd I ok T (t.same Y) (up rr) (up U) (up u) (up rm) hp W λo7 o8 J f2 M=>?_);have A:=λb o i N e=>f2 b o i N (Y b o e);have O:=λb o e z=>A b o (λy=>t.cZ (.inl y) e z) (λy=>t.cZ (.inr y) e z) e;have Uo:Rep Z.K J NoB vm (mr p):=Rep.fM O _ (oA p) rm;obtain⟨rfl,hs⟩:=U;obtain⟨rfl,hw⟩:=u
 have new:∀{b:Addr},J b=none->H b=none:=λ{b} e=>by
  cases eb:H b with
  |none=>rfl
  |some o=>
   by_cases i:b=a\/b∈ds\/b∈fs
   ·exact absurd e (M.there i)
   ·rw[A b o (λz=>i (.inl z)) (λz=>i (.inr (.inr z))) eb]at e;cases e
 generalize hL:fll φ h s w (mr p)=L at *
 refine gW (uX (aG rfl ⟨.inl ⟨rfl,_,SqL.of M.lst⟩,λd hd=>?_⟩));have d1:Same J (upd J d (.dK [])):=Same.upd hd;refine kP Ku λH3 s3=>aG rfl (kP Kv λH4 s4=>aG rfl (kP Kw λH5 s5=>aG rfl (kP EG λH6 s6=>xF (aL (pY (aL (kP z1 λC s7=>aL (aG rfl (aL (aG rfl (bQ ⟨by rw[ci];simp,λx hx=>bQ ⟨by rw[ci];simp,λf hf=>?_⟩⟩)))))))))));have E:=s3.trans (s4.trans (s5.trans (s6.trans s7)));have x7:Same C (upd C x (.tup [.str "entered",.int n,.str s])):=Same.upd hx;have f7:Same (upd C x (.tup [.str "entered",.int n,.str s])) (upd (upd C x (.tup [.str "entered",.int n,.str s])) f (.lst [.ref x])):=Same.upd hf;have rx:Rep Z.K (upd C x (.tup [.str "entered",.int n,.str s])) NoB (.ref x) (zZ n s):=gU hx (Reps.cons ⟨rfl,z1⟩ (Reps.cons rfl (Reps.cons ⟨rfl,hs⟩ rfl)));have P:=E.trans (x7.trans f7);have EH:=d1.trans P;have Up:upd (upd C x (.tup [.str "entered",.int n,.str s])) f (.lst [.ref x]) f=some (.lst [.ref x]):=bF;have Uq:=rx.same f7 λ_ z=>z;have nf:=(d1.trans (E.trans x7)).none hf;have Ur:f≠d:=λz=>by have:=(E.trans x7) d _ bF;rw[<-z,hf]at this;cases this
 generalize upd (upd C x (.tup [.str "entered",.int n,.str s])) f (.lst [.ref x])=G at *
 have Q:=P _ _ bF;refine⟨Q,kvE (s,w,mr p) vm f,rfl,by show 4<=15;decide,?_⟩;rw[Um];have ne:∀{b:Addr},J b≠none->b≠d:=λh z=>h (z▸hd);have k9:∀b o,b≠d->G b=some o->upd G d (.dK (kvE (s,w,mr p) vm f)) b=some o:=λb o T e=>by rw[aE T];exact e
 have F:=λb o e=>k9 b o (ne (by rw[e];simp)) (EH b o e);have R:∀b o,G b=some o->Fix o->upd G d (.dK (kvE (s,w,mr p) vm f)) b=some o:=λb o e z=>k9 b o (λy=>by subst y;rw[Q]at e;cases e;exact z) e;have Us:upd G d (.dK (kvE (s,w,mr p) vm f)) d=some (.dK (kvE (s,w,mr p) vm f)):=bF;have Ut:=k9 f _ Ur Up;have Uu:=Rep.keep (λb o e z=>R b o e (z.resolve_left id)) (λ_ z=>z) _ Uq;generalize upd G d (.dK (kvE (s,w,mr p) vm f))=H9 at *
 have t9:=M.same F;have j:=t9.put1 (g:=[zZ n s]) (by show(eZ h.ft L _).length=_;rw[Ef,ok.len]) Us (Uo.same F λ_ z=>z) hs hw Ut (Reps.cons Uu rfl) (λz=>M.there (.inr (.inr z)) nf) (λz=>M.there (.inl z) nf);have j:Les Z.K (upd H9 a (.lst (ds.map V.ref++[.ref d]))) a (ds++[d]) (fs++[f]) (h.put n s w (mr p) L):=⟨j.1,j.2,j.3,j.4,j.5,j.6⟩;refine⟨a,_,.ref d,rfl,rfl,t9.lst,by rw[am,t.dl,ci];omega,?_⟩;have fr:FrmL a fs H (upd H9 a (.lst (ds.map V.ref++[.ref d]))):=λb o i N e=>by rw[aE i];exact F b o (A b o i N e)
 have Uv:=Rep.keep (λb o e z=>by
  rcases z with z|z
  ·exact fr b o (W b z).1 (W b z).2 e
  ·exact fr b o (λy=>t.cZ (.inl y) e z) (λy=>t.cZ (.inr y) e z) e) (λ_ z=>z) _ rr
 generalize upd H9 a (.lst (ds.map V.ref++[.ref d]))=Af at *
 refine xU (pY (aL (kP z7 λJP S=>aL (eR l m (ρ:=some (.od,.list (rs.map cwD))::some (.od,.list (hG (h.put n s w (mr p) L)))::ax 7 none) ((Sl.da Uv (.da j.rep (fJ _))).same S) (d:=.int ((h.en.length+1:Nat)-1:Int)) (bM (cW (d:=.int (h.en.length+1:Nat)) (aF (aD rfl) aW) (by rw[u7,yh];show Res.ok (PyData.int ((h.en++[_]).length:Int))=_;rw[av];rfl) rfl).e aN.e rfl rfl).e λvl V7 Uw Ux=>bQ ⟨by rw[ci];simp,λy hy=>?_⟩))));cases Ux;rw[show((h.en.length+1:Nat)-1:Int)=h.en.length by omega];have c:=S.trans Uw;refine q _ d f _ (λb o i N e=>Same.upd hy b o (c b o (fr b o i N e))) (new hd) (new nf) (j.same (c.trans (Same.upd hy))) (gU hy (Reps.cons ⟨rfl,z7⟩ (Reps.cons rfl rfl)))
end
namespace L2k
abbrev EI (i c w:Nat):W:=.mZ (.raw i) 0 (.cons (.raw c) (.cons (.raw w) .nil))
abbrev KQ:C:=.comp 1 [2] ["_law_number","_law_entries"] (.nm 0) (.tv (.var 5)) .nil (.ix (.ix (.var 1) (.var 0)) (.str "ruling"))
abbrev Uy:WS:=.seq (.app (.raw 6) (.bD (.int 7))) (.seq (.xx (.raw 8)) (.seq (.ret (.cmp .Eq (EI 0 3 4) (.raw 5))) .nil))
abbrev Uz:WS:=.seq (.asg 8 (.dF (.raw 0) 0 (.cons (.raw 3) (.cons (.raw 4) .nil)))) (.seq (.bU (.tp (.or (.not (.tv (.gL (.var 8) ["list"]))) (.tv (.cmp .NotEq (.var 8) KQ)))) Hl.rF .nil) Uy)
abbrev UA:WS:=.seq (.bU (.tp (.not (.tv (.call 0 "_law_whole" (.cons (.var 7) .nil))))) Hl.rF .nil) .nil
def lg:WS:=.seq (.asg 5 (.bD (.call 1 "_law_standing" (.cons (.var 1) (.cons (.var 2) (.cons (.var 3) (.cons (.var 4) .nil))))))) (.seq (.asg 6 (EI 0 3 4)) (.seq (.bU (.tp (.or (.not (.tv (.gL (.var 6) ["list"]))) (.tv (.cmp .NotEq (.var 6) (.var 5))))) Hl.rF .nil) (.seq (.eX 7 (.raw 6) UA) Uz)))
end L2k
abbrev Φg:List Fn:=[qF,Ab]
def spLg (φ:dY)(K:W.Frag)(HC CC:Addr):Sp:=λvs H Q _=>∃x A a ds fs h vr rs vc s vw w B,vs=[.ref x,vr,.ref a,vc,vw]/\(nmC rs).Nodup/\h.es=esC rs/\Hou K HC CC H x A h/\Hok φ h/\h.en.length<900/\Les K H a ds fs h/\Rep K H B vr (.list (rs.map cwD))/\Rep K H B vc (.str s)/\Rep K H B vw (.str w)/\z2c h.es s=true/\∀H',Same H H'->Q (.bl true) H'
theorem KR {vw:V}(j:Z.md[0]?=some (e,("standing":Str),spSt a Z.K e k Z.mg))(t:Hou Z.K e k H x A h)(ok:Hok a h)(l:b[i]?=some (some (.ref x)))(m:b[c]?=some (some f))(n:b[w]?=some (some vw))(o:Rep Z.K H B f (.str s))(d:Rep Z.K H B vw (.str g))(p:z2c h.es s=true)(q:kR H (eQ a h s g .none) Q):wE Z (L2k.EI i c w) b H Q:=by obtain⟨fs,r,u⟩:=t.cR;obtain⟨g1,g2⟩:=au.mp p;refine xG j (aG l ⟨x,A.dx,fs,rfl,r,u _ (by decide) (by decide) (by decide) (by decide),aL (aG m (aL (aG n (bQ ⟨x,A,h,f,.str s,vw,g,.aK,.none,B,rfl,t,ok,o,d,rfl,a.d0,?_⟩))))⟩);rw[rj g1];exact⟨s,rfl,g2,q⟩
theorem UB (q:wE Z o a H λx b=>tyV Z.K "list" x b/\yJ x [] b λ_ c=>d.nx a c):wS Z (.xx o) d a H:=q
section
variable {φ:dY}{Z:Wc}{HC CC x:Addr}{A:Ha}{H:Hp}{a:Addr}{ds fs:List Addr}{h:Hd}{rs:List Cw}{D0:Ends}{vr vc vw:V}{s w:Str}{B:Ad->Prop}
theorem zpe (g:Z.Κ=[])(i:Z.Φ=Φg)(X:Z.md[0]?=some (HC,("standing":Str),spSt φ Z.K HC CC Z.mg))(h2:Z.me[0]?=some (HC,("book":Str),spBk φ Z.K HC CC Z.mg))(nd:(nmC rs).Nodup)(J:h.es=esC rs)(th:Hou Z.K HC CC H x A h)(ok:Hok φ h)(hb:h.en.length<900)(t:Les Z.K H a ds fs h)(rr:Rep Z.K H B vr (.list (rs.map cwD)))(Y:Rep Z.K H B vc (.str s))(j:Rep Z.K H B vw (.str w))(hc:z2c h.es s=true)
  (q:∀r,Same H r->D0.rt (.bl true) r):wS Z L2k.lg D0 [some (.ref x),some vr,some (.ref a),some vc,some vw,none,none,none,none] H:=by
 obtain⟨g1,g2⟩:=au.mp hc;have g3:=g2;rw[J]at g3;generalize F:eQ φ h s w .none=L;have sl:∀{M:Hp} {tl:L2.St} {u:Rho},Same H M->Sl Z.K M tl u->Sl Z.K M (some (.ref x)::some vr::some (.ref a)::some vc::some vw::tl) (none::some (.od,.list (rs.map cwD))::some (.od,.list (hG h))::some (.od,.str s)::some (.od,.str w)::u):=λ{M tl u} d ht=>.no (.da (rr.same d λ_ z=>z) (.da (t.same d).rep (.da (Y.same d λ_ z=>z) (.da (j.same d λ_ z=>z) ht))));refine fI (eR g i (sl (Same.refl H) (fJ [none,none,none,none])) (lG (aF (aD rfl) (aF (aD rfl) (aF (aD rfl) (aF (aD rfl) aW)))) rfl (Kt φ nd g3 J (by omega))) λv5 M d r5=>?_);rw[F]at r5;refine fI (KR X (th.same d) ok rfl rfl rfl (Y.same d λ_ z=>z) (j.same d λ_ z=>z) hc λH2 f s2 n6 G=>?_);rw[F]at G;have N:=d.trans s2;have O:=r5.same s2 λ_ z=>z;have UC:Rep Z.K H2 AnyB (.ref f) (.list (z1g L)):=⟨f,_,rfl,.inl ⟨G,trivial⟩,rX⟩;refine gW (qA (ve g i (sl N (.da O (.da UC (fJ [none,none])))) (tV (mH (k:=true) (aX (IW (aD rfl)).e rfl)) λ_=>aX (eJ (aD rfl) (aD rfl) (zT (JY L))).e rfl) λH3 I=>iF Z ?_));have P:=N.trans I;refine gW (z44 (λb k l r=>Same H3 r/\b=f/\∃o7,l=[some (.ref x),some vr,some (.ref a),some vc,some vw,some v5,some (.ref f),o7,none]) (λR k=>aG rfl (k f H3 (SqL.of (I _ _ G)) ⟨Same.refl H3,rfl,none,rfl⟩)) (λb k l r z=>by rw[z.2.1];exact SqL.of (z.1 _ _ (I _ _ G))) (λb k v l r hv z D2 KP nx=>?_) λb l r z=>?_)
 ·obtain⟨y,rfl,o7,rfl⟩:=z;obtain⟨m,hm,rfl⟩:=bn.mp (ar▸hv);exact gW (qA (ve g i (sl (P.trans y) (.no (.no (.jU (fJ _))))) (mH (aX (cV (aF (aD rfl) aW) rfl (Kq m) rfl).e rfl)) λH4 s4=>iF Z (iF Z (nx _ H4 ⟨y.trans s4,rfl,_,rfl⟩))))
 obtain⟨y,_,o7,rfl⟩:=z;have c:=P.trans y;have Q:=th.same c;obtain⟨nO,i1,i2⟩:=Q.cR;refine fI (iC h2 (aG rfl ⟨x,A.dx,nO,rfl,i1,i2 _ dc dc dc dc,aL (aG rfl (aL (aG rfl (bQ ⟨x,A,h,vc,.str s,vw,w,B,rfl,Q,ok,Y.same c λ_ z=>z,j.same c λ_ z=>z,?_⟩))))⟩));rw[rj g1];refine⟨s,rfl,g2,λH5 C ys s5 n8 e8 r8=>?_⟩;rw[F]at r8;have S:=c.trans s5;have D:=I.trans (y.trans s5);have E:∀k∈L,k<h.en.length:=λk n=>by rw[<-F]at n;exact zY n
 have sh:=sZ.mpr λz hz=>by obtain⟨k,n,rfl⟩:=cf.mp hz;exact φ.sh _ (ok.gd _ (aq (Hd.get (E k n)))).1
 have UD:Rep Z.K H5 AnyB (.ref C) (.list (L.map λk=>(h.at k).2.2)):=⟨C,_,rfl,.inl ⟨e8,trivial⟩,r8.weak λ_ z=>z.elim⟩
 let ρ:Rho:=none::some (.od,.list (rs.map cwD))::some (.od,.list (hG h))::some (.od,.str s)::some (.od,.str w)::some (.od,.list (z1g L))::none::none::[some (.od,.list (L.map λk=>(h.at k).2.2))]
 have ec:Ev [] Φg L2k.KQ ρ (.list (L.map λk=>(h.at k).2.2)):=by have e5:aJ [] Φg (.var 5) ρ=.ok (_,.list (z1g L)):=rfl;have:=z38 (nt:=1) (js:=[2]) (N':=["_law_number","_law_entries"]) (tg:=.nm 0) (cond:=.nil) (elt:=.ix (.ix (.var 1) (.var 0)) (.str "ruling")) (λ_=>true) (λk=>(h.at k).2.2) (gR e5 rfl) rfl (λk=>[some (.al,.int k),some (.od,.list (hG h))]) (λk _=>u3 rfl) (λ_ _=>rfl) λk n _=>aO (yg (aD rfl) (aD rfl) (Ae (E k n))) dM.e (qI _ _) ((λk n=>(ok.gd _ (aq (Hd.get (E k n)))).2.1) k n);rw[eu.mpr λ_ _=>rfl]at this;exact Ev.of this
 refine gW (qA (ve g i (sl S (.da (O.same D λ_ z=>z) (.no (.no (.da UD .nil))))) (tV (mH (k:=true) (aX (IW (aD rfl)).e rfl)) λ_=>aX (eJ (aD rfl) ec (zT sh)).e rfl) λH6 T=>iF Z ?_));have U:=(D.trans T) _ _ G;have V:f≠C:=λz=>by have:=(I.trans y) _ _ G;rw[z,n8]at this;cases this
 have JH:L.length<ay:=by rw[<-F,ci];refine fi (bq (dh _ _) (dh _ _)) ?_;rw[db];omega
 refine gW (uX (aG rfl ⟨.inl ⟨rfl,_,SqL.of U⟩,kO λH7 W=>⟨f,_,.int 7,rfl,rfl,W _ _ U,by unfold lK;rw[am];exact JH,?_⟩⟩));refine gW (UB (aG rfl ⟨.inl ⟨rfl,_,SqL.of (by rw[aE (Ne.symm V)];exact(T.trans W) _ _ e8)⟩,C,_,rfl,rfl,by rw[aE (Ne.symm V)];exact(T.trans W) _ _ e8,?_⟩));have ks:∀b o,b≠f->b≠C->H7 b=some o->upd (upd H7 f (.lst (lK L++[.int 7]))) C (.lst []) b=some o:=λb o X h2 e=>by rw[aE h2,aE X];exact e
 generalize upd (upd H7 f (.lst (lK L++[.int 7]))) C (.lst [])=H8 at ks;have p:Same H H8:=λb o e=>ks b o (bK e (d.none n6)) (bK e (c.none n8)) (((S.trans T).trans W) b o e);have EH:=λb o e=>ks b o (bK e n6) (λz=>by have h9:=(s2.trans (I.trans y)) b o e;rw[z,n8]at h9;cases h9) ((s2.trans (D.trans (T.trans W))) b o e);refine xU (zQ (KR X (th.same p) ok rfl rfl rfl (Y.same p λ_ z=>z) (j.same p λ_ z=>z) hc λH9 p9 s9 n9 e9=>aG rfl ?_));rw[F]at e9;exact nH (B:=AnyB) (dx:=.list (z1g L)) ⟨p9,_,rfl,.inl ⟨e9,trivial⟩,rX⟩ (r5.same (λb o e=>s9 b o (EH b o e)) λ_ z=>z) (eq_self (JY L)) λAf uY=>q Af (p.trans (s9.trans uY))
end
namespace L2k
def ro:WS:=.seq (.exp (.dF (.raw 0) 0 (.cons (.raw 1) .nil))) (.seq (.ret (.ix (.ix Hs.EN (.raw 1)) (.bD (.int 2)))) .nil)
end L2k
def spRo (φ:dY)(K:W.Frag)(HC CC:Addr):Sp:=λvs H Q _=>∃x A h k,vs=[.ref x,.int (k:Nat)]/\Hou K HC CC H x A h/\Hok φ h/\k<h.en.length/\∀H' v,Same H H'->Rep K H' AnyB v (h.at k).2.2->Q v H'
theorem UE (f:HouK Z.K a)(g:Z.me[0]?=some (a,("check_number":Str),xO Z.K a i Z.mg))(t:Hou Z.K a i H x A h)(ok:Hok u h)(j:k<h.en.length)(q:∀b v,Same H b->Rep Z.K b AnyB v (h.at k).2.2->l.rt v b):wS Z L2k.ro l [some (.ref x),some (.int k)] H:=by obtain⟨fs,m,n⟩:=t.cR;refine iC g (aG rfl ⟨x,A.dx,fs,rfl,m,n _ dc dc dc dc,aL (aG rfl (bQ ⟨x,A,h,k,rfl,t,ok.big,?_⟩))⟩);rw[rj (by unfold xM;simp;omega)];intro y c;have d:=t.same c;refine xU (jB (jB (rY f d rfl (aG rfl (iN d.gT (zV j) λw r=>?_)))));exact kO λo e=>iN (r.same e λ_ z=>z) rfl λp s=>q o p (c.trans e) s
structure Bo (φ:dY)(K:W.Frag)(HC CC:Addr)(H:Hp)(x:Addr)(A:Ha)(a:Addr)(ds fs:List Addr)(h:Hd)(rs:List Cw):Prop where
 th:Hou K HC CC H x A h
 tl:Les K H a ds fs h
 ok:Hok φ h
 es:h.es=esC rs
 d1:∀b,A.own x b->¬(b=a\/b∈ds\/b∈fs)
 d2:∀b,b=a\/b∈fs->b≠A.c
def Ow (x:Addr)(A:Ha)(a:Addr)(fs:List Addr)(b:Addr):Prop:=A.own x b\/b=a\/b∈fs
section
variable {φ:dY}{K:W.Frag}{HC CC:Addr}{H H':Hp}{x:Addr}{A:Ha}{a:Addr}{ds fs:List Addr}{h:Hd}{rs:List Cw}{n:Int}{s w:Str}{r:D}
theorem Bo.same (t:Bo φ K HC CC H x A a ds fs h rs)(s:Same H H'):Bo φ K HC CC H' x A a ds fs h rs:=⟨t.th.same s,t.tl.same s,t.ok,t.es,t.d1,t.d2⟩
theorem ui (t:Hou K HC CC H x A h)(a:A.own x b\/b=A.c):H b≠none:=λz=>by
 rcases a with(rfl|rfl|rfl|rfl|a)|rfl
 ·obtain⟨i,d,_⟩:=t.ins;rw[z]at d;cases d
 ·have :=t.bZ.fH;rw[z]at this;cases this
 ·obtain⟨j,e,_⟩:=t.ent;rw[z]at e;cases e
 ·have :=t.kQ;rw[z]at this;cases this
 ·obtain⟨k,g⟩:=cb.mp a;obtain⟨l,f,_⟩:=t.dO.2 k b g;rw[z]at f;cases f
 ·have :=t.bZ.ins;rw[z]at this;cases this
structure oE (φ:dY)(K:W.Frag)(HC CC:Addr)(H H':Hp)(x:Addr)(A A':Ha)(a:Addr)(fs sm nO:List Addr)(h':Hd)(rs:List Cw):Prop where
 b:Bo φ K HC CC H' x A' a sm nO h' rs
 fr:∀b o,¬Ow x A a fs b->H b=some o->H' b=some o
 ow:∀b,Ow x A' a nO b->Ow x A a fs b\/H b=none
theorem Bo.put (t:Bo φ K HC CC H x A a ds fs h rs)(c:h.en.length<1000)(v:φ.G r)(B:imm r=true)(C:z2c h.es s=true)(l:Frm1 A x H g)(n1:H p=none)(j:Hou K HC CC g x {A with as:=A.as++[p]} (h.put n s w r (fll φ h s w r)))(k:FrmL a fs g H')(n2:g d=none)(n3:g f=none)(D:Les K H' a (ds++[d]) (fs++[f]) (h.put n s w r (fll φ h s w r)))(m:Les K g a ds fs h):
  oE φ K HC CC H H' x A {A with as:=A.as++[p]} a fs (ds++[d]) (fs++[f]) (h.put n s w r (fll φ h s w r)) rs:=by
 have E:∀{b:Addr},b=a\/b∈ds\/b∈fs->b≠p:=λ{b} c z=>t.tl.there c (z▸n1)
 have i:∀b,({A with as:=A.as++[p]}:Ha).own x b->¬(b=a\/b∈ds\/b∈fs):=λb c z=>by
  rcases KA c with c|c
  ·exact t.d1 b c z
  ·exact E z c
 have F:∀{b:Addr},g b=none->H b=none\/A.own x b:=λ{b} e=>by
  by_cases q:A.own x b
  ·exact .inr q
  ·cases I:H b with
   |none=>exact .inl rfl
   |some o=>rw[l b o q I]at e;cases e
 refine⟨⟨j.keep (λb o c e=>k b o (λz=>?_) (λz=>?_) e) (λb o e z=>k b o (λy=>m.cZ (.inl y) e z) (λy=>m.cZ (.inr y) e z) e),D,t.ok.put c v B C,t.es,λb c z=>?_,λb c z=>?_⟩,λb o c e=>k b o (λz=>c (.inr (.inl z))) (λz=>c (.inr (.inr z))) (l b o (λz=>c (.inl z)) e),λb c=>?_⟩
 ·rcases c with c|c
  ·exact i b c (.inl z)
  ·exact t.d2 b (.inl z) c
 ·rcases c with c|c
  ·exact i b c (.inr (.inr z))
  ·exact t.d2 b (.inr z) c
 ·have u:=ui j (.inl c);rcases z with z|z|z
  ·exact i b c (.inl z)
  ·rcases b6.mp z with z|z
   ·exact i b c (.inr (.inl z))
   ·exact u (bf.mp z▸n2)
  ·rcases b6.mp z with z|z
   ·exact i b c (.inr (.inr z))
   ·exact u (bf.mp z▸n3)
 ·rcases c with c|c
  ·exact t.d2 b (.inl c) z
  ·rcases b6.mp c with c|c
   ·exact t.d2 b (.inr c) z
   ·exact ui j (.inr z) (bf.mp c▸n3)
 ·rcases c with c|c|c
  ·rcases KA c with c|c
   ·exact .inl (.inl c)
   ·exact .inr (c▸n1)
  ·exact .inl (.inr (.inl c))
  ·rcases b6.mp c with c|c
   ·exact .inl (.inr (.inr c))
   ·rcases F (bf.mp c▸n3)with z|z
    ·exact .inr z
    ·exact .inl (.inl z)
end
namespace L2k
abbrev ca (k:Int):C:=.call 0 "_law_cell_at" (.cons (.var 0) (.cons (.int k) .nil))
abbrev Ag (k:Int):C:=.call 5 "_law_pick" (.cons (.var 10) (.cons (.int k) .nil))
abbrev bZ (k:Int):C:=.ix (.var 1) (.bin .Mod (Ag k) (.int 5))
abbrev EJ (k:Int):C:=.ix (.var 1) (.bin .Add (.int 5) (.bin .Mod (Ag k) (.int 2)))
abbrev UG:C:=.lst (.cons (.int 0) (.cons (.int 0) (.cons (.int 1) (.cons (.int 2) (.cons (.bin .Pow (.int 10) (.int 20)) .nil)))))
abbrev qJ:WS:=.seq (.bU (.tp (.or (.tv (.cmp .NotEq (.var 14) (.var 15))) (.not (.tv (.call 6 "_law_whole" (.cons (.ix (.var 14) (.int 1)) .nil)))))) Hl.rF .nil) (.seq (.bU (.not (.lH (.jS 2 (.cons (.raw 5) (.cons (.raw 4) (.cons (.raw 7) (.cons (.bD (bZ 20)) (.cons (.bD (EJ 21)) .nil)))))))) Hl.rF .nil) .nil)
abbrev yk:WS:=.seq (.asg 14 (.jS 0 (.cons (.raw 5) (.cons (.raw 8) (.cons (.raw 11) (.cons (.raw 12) (.cons (.raw 13) .nil))))))) (.seq (.asg 15 (.jS 1 (.cons (.raw 4) (.cons (.raw 7) (.cons (.raw 8) (.cons (.raw 11) (.cons (.raw 12) (.cons (.raw 13) .nil)))))))) qJ)
abbrev EK:WS:=.seq (.asg 10 (.bD (.call 4 "_law_cell" (.cons (.var 0) (.cons (.var 9) (.cons (.var 2) .nil))))))
 (.seq (.asg 8 (.bD (.bin .Add (.var 8) (.ix UG (.bin .Mod (Ag 1) (.int 5))))))
 (.seq (.asg 11 (.bD (bZ 2))) (.seq (.asg 12 (.bD (EJ 3))) (.seq (.asg 13 (.bD (.call 7 "_law_ruling" (.cons (.var 1) (.cons (.var 10) (.cons (.var 3) .nil)))))) yk))))
end L2k
abbrev Φl:List Fn:=[qE,Es,Et,z9,Eo,jD,qF,Ex]
structure Fx2 (rs:List Cw)(ns:List Str):Prop where
 nd:ns.Nodup
 l8:ns.length=8
 l5:rs.length=5
 nm:nmC rs=ns.take 5
 gd:GoodC rs
theorem Fx2.yl (f:Fx2 rs ns):(nmC rs).Nodup:=f.nm▸(lw 5 ns).nodup f.nd
theorem Fx2.bZ (f:Fx2 rs ns)(h:s∈nmC rs):z2c (esC rs) s=true:=by have:=El f.yl f.gd (by rw[f.l5];decide) (ah rs.length) (by rw[gg];exact h);rw[gg]at this;exact this
theorem Fx2.at (f:Fx2 rs ns){k:Int}(h0:0<=k)(a:k<5):ns.getD k.toNat ⟨#[]⟩∈nmC rs:=by rw[f.nm,aa,ae (by rw[f.l8];omega)];exact cb.mpr ⟨k.toNat,by rw[jg (by omega),ae];rfl⟩
theorem UH (h0:0<=k)(a:k<5):∃n,0<=n/\eO (.list [.int 0,.int 0,.int 1,.int 2,.int 100000000000000000000]) (.int k)=.ok (.int n):=by
 obtain rfl|rfl|rfl|rfl|rfl:k=0\/k=1\/k=2\/k=3\/k=4:=by omega
 ·exact⟨0,by decide,rfl⟩
 ·exact⟨0,by decide,rfl⟩
 ·exact⟨1,by decide,rfl⟩
 ·exact⟨2,by decide,rfl⟩
 ·exact⟨100000000000000000000,by decide,rfl⟩
section
variable {H:Hp}{rs:List Cw}{ns:List Str}
variable {v0 vr vn:V}{xs:List Int}{B:Ad->Prop}
abbrev eS (v0 vn:V)(f:Bool)(g:Int)(vr:V)(x y a:Addr)(dy:Int)(tl:L2.St):L2.St:=some v0::some vn::some (.bl f)::some (.int g)::some vr::some (.ref x)::some (.ref y)::some (.ref a)::some (.int dy)::tl
abbrev oF (xs:List Int)(ns:List Str)(f:Bool)(g:Int)(rs:List Cw)(dy:Int)(tl:Rho):Rho:=some (.od,.list (xs.map .int))::some (.od,.list (ns.map .str))::some (.od,.bool f)::some (.od,.int g)::some (.od,.list (rs.map cwD))::none::none::none::some (.od,.int dy)::tl
structure Dt (K:W.Frag)(H:Hp)(B:Ad->Prop)(xs:List Int)(rs:List Cw)(ns:List Str)(v0 vr vn:V):Prop where
 r0:Rep K H B v0 (.list (xs.map .int))
 rr:Rep K H B vr (.list (rs.map cwD))
 rn:Rep K H B vn (.list (ns.map .str))
theorem Dt.same {K:W.Frag}(d:Dt K H B xs rs ns v0 vr vn)(s:Same H H'):Dt K H' B xs rs ns v0 vr vn:=⟨d.r0.same s λ_ z=>z,d.rr.same s λ_ z=>z,d.rn.same s λ_ z=>z⟩
theorem Dt.keep {K:W.Frag}(d:Dt K H B xs rs ns v0 vr vn)(k:∀b o,H b=some o->(B (some b)\/Fix o)->H' b=some o):Dt K H' B xs rs ns v0 vr vn:=⟨Rep.keep k (λ_ z=>z) _ d.r0,Rep.keep k (λ_ z=>z) _ d.rr,Rep.keep k (λ_ z=>z) _ d.rn⟩
theorem fP {K:W.Frag}(d:Dt K H B xs rs ns v0 vr vn)(t:Sl K H tl b):Sl K H (eS v0 vn f g vr x y a dy tl) (oF xs ns f g rs dy b):=.da d.r0 (.da d.rn (.da (B:=AnyB) rfl (.jU (.da d.rr (.no (.no (.no (.jU t))))))))
theorem EL (c:Int×Bool)(h0:0<=k)(a:k<=100)(b:ρ[10]?=some (some (.od,clD c))):∃n,(0<=n/\n<60)/\Vv [] Φl (L2k.Ag k) ρ (.int n):=by obtain⟨n,hn,e⟩:=yd c h0 a;exact⟨n,hn,cV (aF (aD b) (aF aN.e aW)) rfl e rfl⟩
theorem KS (fx:Fx2 rs ns)(c:Int×Bool)(h0:0<=k)(a:k<=100)(b:ρ[10]?=some (some (.od,clD c)))(hn:ρ[1]?=some (some (.od,.list (ns.map .str)))):∃s,s∈nmC rs/\Vv [] Φl (L2k.bZ k) ρ (.str s):=by obtain⟨n,d,e⟩:=EL c h0 a b;exact⟨_,fx.at (by omega) (by omega),aO (aD hn) (bM e.e aN.e (gS (by decide)) rfl).e (pO (by omega) (by rw[fx.l8];omega)) rfl⟩
theorem KU (fx:Fx2 rs ns)(c:Int×Bool)(h0:0<=k)(b:k<=100)(d:ρ[10]?=some (some (.od,clD c)))(hn:ρ[1]?=some (some (.od,.list (ns.map .str)))):∃s,s≠ns.getD 7 ⟨#[]⟩/\Vv [] Φl (L2k.EJ k) ρ (.str s):=by
 obtain⟨n,f,e⟩:=EL c h0 b d;refine⟨_,λz=>?_,aO (aD hn) (bM aN.e (bM e.e aN.e (gS dc) rfl).e rfl rfl).e (pO (by omega) (by rw[fx.l8];omega)) rfl⟩;have l8:=fx.l8;have a:(5+n%2).toNat<ns.length:=by omega
 rw[aa,ae a,aa,ae (by omega:7<ns.length)]at z;have:=xQ fx.nd (ae a) (j:=7) (by rw[ae (by omega)];exact congrArg some z.symm);omega
theorem za3 {b:Bool}(n:Z.Κ=[])(o:Z.Φ=Φl)(Q:Z.fn[2]?=some (spLg φ Z.K HC CC))(fx:Fx2 rs ns)(d:Dt Z.K H B xs rs ns v0 vr vn)(t:Bo φ Z.K HC CC H x A a ds fs h rs)(R:h.en.length<900)(F:Rep Z.K H AnyB i (clD c))
  (G:Rep Z.K H AnyB j (.tuple [.str (if b then "number"else "barred"),.int k])) (I:Rep Z.K H AnyB l (.tuple [.str (if b then "number"else "barred"),.int k]))
  (q:∀M,Same H M->D0.nx (eS v0 vn f g vr x y a dy [J,some i,p,r,u,some j,some l,v]) M):wS Z L2k.qJ D0 (eS v0 vn f g vr x y a dy [J,some i,p,r,u,some j,some l,v]) H:=by
 have sl:∀{D:Hp},Same H D->Sl Z.K D (eS v0 vn f g vr x y a dy [J,some i,p,r,u,some j,some l,v]) (oF xs ns f g rs dy [none,some (.od,clD c),none,none,none,some (.od,.tuple [.str (if b then "number"else "barred"),.int k]),some (.od,.tuple [.str (if b then "number"else "barred"),.int k]),none]):=λm=>fP (d.same m) (.no (.da (F.same m λ_ z=>z) (.no (.no (.no (.da (G.same m λ_ z=>z) (.da (I.same m λ_ z=>z) (.no .nil))))))));refine gW (qA (ve n o (sl (Same.refl H)) (tV (aX (eJ (aD rfl) (aD rfl) (zT (by cases b<;>rfl))).e rfl) λ_=>mH (aX (cV (aF (aO (aD rfl) aN.e rfl rfl).e aW) rfl (Kq k) rfl).e rfl)) λD m=>iF Z ?_));obtain⟨s,hs,es⟩:=KS (ρ:=oF xs ns f g rs dy [none,some (.od,clD c),none,none,none,some (.od,.tuple [.str (if b then "number"else "barred"),.int k]),some (.od,.tuple [.str (if b then "number"else "barred"),.int k]),none]) fx c (k:=20) dc dc rfl rfl;obtain⟨w,_,S⟩:=KU (ρ:=oF xs ns f g rs dy [none,some (.od,clD c),none,none,none,some (.od,.tuple [.str (if b then "number"else "barred"),.int k]),some (.od,.tuple [.str (if b then "number"else "barred"),.int k]),none]) fx c (k:=21) dc dc rfl rfl;refine gW (qA ?_);refine zS ?_;show(match Z.fn[2]? with|some T=>nU T [] Z.E (wA Z _)|none=>fX) (eS v0 vn f g vr x y a dy [J,some i,p,r,u,some j,some l,v]) D _;rw[Q];refine aL (aG rfl (aL (aG rfl (aL (aG rfl (aL (eR n o (sl m) es.e λU H2 N V=>aL (eR n o (sl (m.trans N)) S.e λvw H3 O L=>bQ ?_))))))));have C:=m.trans (N.trans O);have P:=t.same C;exact⟨x,A,a,ds,fs,h,vr,rs,U,s,vw,w,AnyB,rfl,fx.yl,t.es,P.th,t.ok,R,P.tl,(d.same C).rr.weak λ_ _=>trivial,V.same O λ_ z=>z,L,by rw[t.es];exact fx.bZ hs,λW X=>⟨true,rfl,iF Z (iF Z (q W (C.trans X)))⟩⟩
end
section
variable {φ:dY}{K:W.Frag}{HC CC:Addr}{H H' pU:Hp}{x a:Addr}{A A':Ha}{ds fs sm nO:List Addr}{h h':Hd}{rs:List Cw}
theorem oE.same (p:oE φ K HC CC H H' x A A' a fs sm nO h' rs)(s:Same H' pU):oE φ K HC CC H pU x A A' a fs sm nO h' rs:=⟨p.b.same s,λb o n e=>s b o (p.fr b o n e),p.ow⟩
theorem oE.from (s:Same H H')(p:oE φ K HC CC H' pU x A A' a fs sm nO h' rs):oE φ K HC CC H pU x A A' a fs sm nO h' rs:=⟨p.b,λb o n e=>p.fr b o n (s b o e),λb o=>(p.ow b o).imp id λz=>s.none z⟩
theorem Bo.UI (t:Bo φ K HC CC H x A a ds fs h rs)(s:Same H H'):oE φ K HC CC H H' x A A a fs ds fs h rs:=⟨t.same s,λb o _ e=>s b o e,λb o=>.inl o⟩
theorem Bo.cZ (t:Bo φ K HC CC H x A a ds fs h rs)(c:Ow x A a fs b)(e:H b=some o):¬Fix o:=by
 rcases c with c|c
 ·exact t.th.cZ c e
 ·exact t.tl.cZ c e
end
theorem zgx {vw:V}(T:Z.Κ=[])(U:Z.Φ=Φl)(hF:PhL φ)(f0:Z.fn[0]?=some (spTe φ Z.K HC CC))(f1:Z.fn[1]?=some (spEl φ Z.K))(f2:Z.fn[2]?=some (spLg φ Z.K HC CC))(fx:Fx2 rs ns)(d:Dt Z.K H B xs rs ns v0 vr vn)(t:Bo φ Z.K HC CC H x A a ds fs h rs)(W:∀b,B (some b)->¬Ow x A a fs b)(hb:h.en.length<800)(hla:late h.ld dy=false)
  (X:Rep Z.K H AnyB i (clD c)) (rc:Rep Z.K H AnyB u (.str s)) (I:Rep Z.K H AnyB vw (.str w)) (rm:Rep Z.K H AnyB vm (mr p)) (hp:GR p) (hs:s∈nmC rs)
  (q:∀H' A' sm nO h' J m,oE φ Z.K HC CC H H' x A A' a fs sm nO h' rs->h'.en.length<=h.en.length+1->(h'.ld=h.ld\/h'.ld=some dy)->(∀e∈h'.en,e∈h.en\/e.2.1=w)->D0.nx (eS v0 vn f g vr x y a dy [o9,some i,some u,some vw,some vm,J,m,n]) H'):
  wS Z L2k.yk D0 (eS v0 vn f g vr x y a dy [o9,some i,some u,some vw,some vm,J,m,n]) H:=by
 have hc:z2c h.es s=true:=by rw[t.es];exact fx.bZ hs
 have gp:=hF.g1 p hp;refine fI ?_;show(match Z.fn[0]? with|some sp=>nU sp [] Z.E (wA Z _)|none=>fX) (eS v0 vn f g vr x y a dy [o9,some i,some u,some vw,some vm,J,m,n]) H _;rw[f0];refine aL (aG rfl (aL (aG rfl (aL (aG rfl (aL (aG rfl (aL (aG rfl (bQ ⟨x,A,h,dy,u,s,vw,w,vm,kT p.2.1 p.2.2.1,.str (sd p.1),pk p.2.2.2,AnyB,rfl,t.th,t.ok,by omega,rc,I,rm,oA p,gp,hc,hla,?_⟩))))))))));have own:∀{l:Hp} {j:V},Les Z.K l a ds fs h->Dt Z.K l B xs rs ns v0 vr vn->Rep Z.K l AnyB u (.str s)->Rep Z.K l AnyB vw (.str w)->Rep Z.K l AnyB vm (mr p)->fA φ Z.K l a ds fs h dy s w (mr p) (λL H2=>wS Z L2k.qJ D0 (eS v0 vn f g vr x y a dy [o9,some i,some u,some vw,some vm,some j,some L,n]) H2)->wS Z (.seq (.asg 15 (.jS 1 (.cons (.raw 4) (.cons (.raw 7) (.cons (.raw 8) (.cons (.raw 11) (.cons (.raw 12) (.cons (.raw 13) .nil)))))))) L2k.qJ) D0 (eS v0 vn f g vr x y a dy [o9,some i,some u,some vw,some vm,some j,m,n]) l:=λ{l j} R d1 c1 w1 m1 k=>by refine fI ?_;show(match Z.fn[1]? with|some sp=>nU sp [] Z.E (wA Z _)|none=>fX) (eS v0 vn f g vr x y a dy [o9,some i,some u,some vw,some vm,some j,m,n]) l _;rw[f1];exact aL (aG rfl (aL (aG rfl (aL (aG rfl (aL (aG rfl (aL (aG rfl (aL (aG rfl (bQ ⟨vr,a,dy,u,vw,vm,ds,fs,h,rs,s,w,p,B,rfl,fx.yl,t.es,t.ok,by omega,R,d1.rr,Rep.bC _ rfl c1,Rep.bC _ rfl w1,Rep.bC _ (oA p) m1,hp,hc,λb z=>⟨λe=>W b z (.inr (.inl e)),λe=>W b z (.inr (.inr e))⟩,k⟩))))))))))))
 show match bar φ h s w (mr p)with|some k=>_|none=>_
 cases G:bar φ h s w (mr p)with
 |some k=>intro l j S M;refine own (t.tl.same S) (d.same S) (rc.same S λ_ z=>z) (I.same S λ_ z=>z) (rm.same S λ_ z=>z) ?_;unfold fA;rw[G];intro H2 L s2 N;have C:=S.trans s2;exact za3 (b:=false) T U f2 fx (d.same C) (t.same C) (by omega) (X.same C λ_ z=>z) (M.same s2 λ_ z=>z.elim) (N.weak λ_ z=>z.elim) λH3 s3=>q H3 A ds fs h _ _ (t.UI (C.trans s3)) (kg _) (.inl rfl) λe he=>.inl he
 |none=>
  intro l p' j F n1 UJ M;have O:=t.th.fix F;have R:=t.tl.keep (λb o hb e=>F b o (λz=>t.d1 b z hb) e) O
  have d1:=d.keep λb o e z=>by
   rcases z with z|z
   ·exact F b o (λy=>W b z (.inl y)) e
   ·exact O b o e z
  have im:∀{v:V} {e:D},imm e=true->Rep Z.K H AnyB v e->Rep Z.K l AnyB v e:=λ{v e} hi r=>Rep.fM O e hi r;refine own R d1 (im rfl rc) (im rfl I) (im (oA p) rm) ?_;unfold fA;rw[G];intro H2 dd ff L P n2 n3 t2 N;have ps:=t.put (by omega) gp (oA p) hc F n1 UJ P n2 n3 t2 R;have Q:=λb o e z=>P b o (λy=>R.cZ (.inl y) e z) (λy=>R.cZ (.inr y) e z) e
  have d2:=d1.keep λb o e z=>by
   rcases z with z|z
   ·exact P b o (λy=>W b z (.inr (.inl y))) (λy=>W b z (.inr (.inr y))) e
   ·exact Q b o e z
  refine za3 (b:=true) T U f2 fx d2 ps.b ?_ (Rep.fM Q _ (EC c) (im (EC c) X)) (Rep.fM Q _ rfl M) (N.weak λ_ z=>z.elim) λH3 s3=>q H3 _ _ _ _ _ _ (ps.same s3) ?_ (.inr rfl) λe he=>(b6.mp he).imp id λz=>by rw[bf.mp z]
  ·show(h.en++[_]).length<900;rw[av];show h.en.length+1<900;omega
  ·show(h.en++[_]).length<=_;rw[av];exact ah _
theorem zke (u:Z.Κ=[])(v:Z.Φ=Φl)(hF:PhL φ)(f0:Z.fn[0]?=some (spTe φ Z.K HC CC))(f1:Z.fn[1]?=some (spEl φ Z.K))(f2:Z.fn[2]?=some (spLg φ Z.K HC CC))(fx:Fx2 rs ns)(d:Dt Z.K H B xs rs ns v0 vr vn)(t:Bo φ Z.K HC CC H x A a ds fs h rs)(hB:∀b,B (some b)->¬Ow x A a fs b)(l63:xs.length<=63)(hi:2+i<xs.length)(hen:h.en.length<=i)(hld:∀l,h.ld=some l->l<=dy)
  (q:∀N P C D G I E ym vf r n o,oE φ Z.K HC CC H N x A P a fs C D G rs->G.en.length<=i+1->(∀l,G.ld=some l->l<=I)->(∀e∈G.en,e∈h.en\/e.2.1≠ns.getD 7 ⟨#[]⟩)->D0.nx (eS v0 vn f g vr x y a I [some (.int (2+i)),E,ym,vf,r,n,o,qK]) N):
  wS Z L2k.EK D0 (eS v0 vn f g vr x y a dy [some (.int (2+i)),E,ym,vf,r,n,o,qK]) H:=by
 obtain⟨c,ec⟩:=Tw xs (k:=2+i) (by omega) (by omega) (by omega) f;refine fI (eR u v (fP d (.jU (fJ [E,ym,vf,r,n,o,qK]))) (cV (aF (aD rfl) (aF (aD rfl) (aF (aD rfl) aW))) rfl ec (EC c)).e λv10 H1 T j=>?_);obtain⟨n1,V8,e1⟩:=EL (ρ:=oF xs ns f g rs dy (some (.od,.int (2+i))::some (.od,clD c)::ax 6 none)) c (k:=1) (by decide) (by decide) rfl;obtain⟨m,hm,em⟩:=UH (k:=n1%5) (by omega) (by omega);refine fI (eR u v (fP (d.same T) (.jU (.da j (fJ [ym,vf,r,n,o,qK])))) (bM (aD rfl) (aO (Ev.of (lF (bO aN (bO aN (bO aN (bO aN (bO (bM aN.e aN.e rfl rfl) fO))))))) (bM e1.e aN.e (gS (by decide)) rfl).e em rfl).e rfl rfl).e λv8 H2 U r8=>?_);cases r8;have J:=T.trans U;have j:=j.same U λ_ z=>z;obtain⟨s,hs,es⟩:=KS (ρ:=oF xs ns f g rs (dy+m) (some (.od,.int (2+i))::some (.od,clD c)::ax 6 none)) fx c (k:=2) (by decide) (by decide) rfl rfl;refine fI (eR u v (fP (d.same J) (.jU (.da j (fJ [ym,vf,r,n,o,qK])))) es.e λV H3 s3 rc=>?_);have L:=J.trans s3;have j:=j.same s3 λ_ z=>z;obtain⟨w,Q,ew⟩:=KU (ρ:=oF xs ns f g rs (dy+m) (some (.od,.int (2+i))::some (.od,clD c)::ax 6 none)) fx c (k:=3) (by decide) (by decide) rfl rfl;refine fI (eR u v (fP (d.same L) (.jU (.da j (fJ [some V,vf,r,n,o,qK])))) ew.e λvw H4 R S=>?_);have M:=L.trans R;have j:=j.same R λ_ z=>z;obtain⟨p,hp,ep⟩:=EF fx.nd (by rw[fx.l8];decide) c g;refine fI (eR u v (fP (d.same M) (.jU (.da j (fJ [some V,some vw,r,n,o,qK])))) (cV (aF (aD rfl) (aF (aD rfl) (aF (aD rfl) aW))) rfl ep (oA p)).e λvm H5 O rm=>?_);have F:=M.trans O;refine zgx (o9:=some (.int (2+i))) u v hF f0 f1 f2 fx (d.same F) (t.same F) hB (by omega) ?_ (j.same O λ_ z=>z) (rc.same (R.trans O) λ_ z=>z) (S.same O λ_ z=>z) rm hp hs λN P C D G n o ps hl hd hn=>q N P C D G (dy+m) _ _ _ _ _ _ (ps.from F) (by omega) (λl e=>?_) λe he=>(hn e he).imp id λz=>by rw[z];exact Q
 ·cases e:h.ld with
  |none=>rfl
  |some l=>exact decide_eq_false (by have:=hld l e;omega)
 ·rcases hd with z|z
  ·have:=hld l (z▸e);omega
  ·rw[z]at e;cases e;exact qr _
namespace L2k
abbrev KW:WS:=.seq (.ret (.cmp .Eq (.mZ (.raw 5) 0 (.cons (.bD (.ix (.var 1) (.int 0))) (.cons (.bD (.ix (.var 1) (.int 7))) .nil))) (.bD (.lst .nil)))) .nil
abbrev EM:W:=.not (.lH (.jS 2 (.cons (.raw 5) (.cons (.raw 4) (.cons (.raw 7) (.cons (.raw 11) (.cons (.bD (.ix (.var 1) (.int 5))) .nil)))))))
abbrev EO:W:=.tc .NotEq (.mZ (.raw 6) 0 (.cons (.raw 11) (.cons (.bD (.ix (.var 1) (.int 5))) .nil))) (.bD (.lst .nil))
abbrev KY:WS:=.seq (.eX 11 (.bD (.sl (.var 1) .nil (.tv (.int 5)))) (.seq (.bU (.uS EM EO) Hl.rF .nil) .nil)) KW
abbrev ER:WS:=.seq (.bJ (.nm 16) (.eN (.cons (.bi "len" (.cons (.var 7) .nil)) .nil)) (.seq (.bU (.tc .NotEq (.dF (.raw 5) 0 (.cons (.raw 16) .nil)) (.bD (.ix (.ix (.var 7) (.var 16)) (.str "ruling")))) Hl.rF .nil) .nil)) KY
end L2k
theorem UK (q:wT Z a d H λc e=>if c=true then R true e else wT Z b d e R):wT Z (.uS a b) d H R:=q
theorem ES {K:W.Frag}:∀{a:List Str} {b:List V},Reps K H B b (a.map .str)->b=a.map V.str/\∀s∈a,PyData.strOk s=true
 | [],_,r=>⟨r,nofun⟩
 |s::a,_,r=>by obtain⟨v,t,rfl,⟨rfl,h⟩,c⟩:=r;obtain⟨rfl,d⟩:=ES c;exact⟨rfl,λx f=>(az.mp f).elim (λe=>e▸h) (d x)⟩
theorem UL {K:W.Frag}{a:List Str}(r:Rep K H B v (.list (a.map .str)))(h:s∈a):PyData.strOk s=true:=by obtain⟨_,b,_,_,rs⟩:=r;exact(ES rs).2 s h
theorem KZ (n:Nat)(p:Bool×P×P×P):bE (n+4) (mr p)=true:=by
 refine sZ.mpr λw a=>?_;simp only[az,eh,or_false]at a;rcases a with rfl|rfl|rfl
 ·show fR (n+2) [pk p.2.1,pk p.2.2.1]=true;refine sZ.mpr λw a=>?_;simp only[az,eh,or_false]at a;rcases a with rfl|rfl<;>exact Iz n _
 ·rfl
 ·exact Iz (n+1) _
theorem UM (h:ns.length=8):cut ns none (some 5)=ns.take 5:=by unfold cut aZ;rw[h];rfl
theorem zlg (b:Z.Κ=[])(c:Z.Φ=Φl)(C:Z.md[0]?=some (HC,("standing":Str),spSt φ Z.K HC CC Z.mg))(fx:Fx2 rs ns)(d:Dt Z.K H B xs rs ns v0 vr vn)(t:Hou Z.K HC CC H x A h)(ok:Hok φ h)(es:h.es=esC rs)(D:∀e∈h.en,e.2.1≠ns.getD 7 ⟨#[]⟩)(q:∀s,Same H s->D0.rt (.bl true) s):
  wS Z L2k.KW D0 (eS v0 vn f g vr x y a dy tl) H:=by
 have sl:∀{l:Hp},Same H l->Sl Z.K l (eS v0 vn f g vr x y a dy tl) (oF xs ns f g rs dy (ax tl.length none)):=λi=>fP (d.same i) (fJ tl);obtain⟨m,E,F⟩:=t.cR;have u:=fx.bZ (fx.at (k:=0) (by decide) (by decide));rw[<-es]at u;obtain⟨g1,g2⟩:=au.mp u;refine xU (zQ (xG C (aG rfl ⟨x,A.dx,m,rfl,E,F _ (by decide) (by decide) (by decide) (by decide),aL (eR b c (sl (Same.refl H)) (aO (aD rfl) aN.e (pO (by decide) (by rw[fx.l8];decide)) rfl).e λG l i I=>aL (eR b c (sl i) (aO (aD rfl) aN.e (pO (by decide) (by rw[fx.l8];decide)) rfl).e λvw P n o=>bQ ⟨x,A,h,G,.str (ns.getD (0:Int).toNat ⟨#[]⟩),vw,ns.getD (7:Int).toNat ⟨#[]⟩,.aK,.none,AnyB,rfl,t.same (i.trans n),ok,I.same n λ_ z=>z,o,rfl,φ.d0,?_⟩))⟩)));rw[rj g1];refine⟨_,rfl,g2,λQ p J n3 v=>?_⟩;have r:eQ φ h (ns.getD (0:Int).toNat ⟨#[]⟩) (ns.getD (7:Int).toNat ⟨#[]⟩) .none=[]:=by unfold eQ lJ;rw[lm,iu];intro k L z;simp only[bt,beq_iff_eq]at z;exact D _ (aq (Hd.get (d6.mp L))) z.2.1
 rw[r]at v;have j:=i.trans (n.trans J);refine eR b c (sl j) (Ev.of (lF fO)) λR S w M=>?_;exact nH (B:=AnyB) (dx:=.list []) ⟨p,[],rfl,.inl ⟨w _ _ v,trivial⟩,rfl⟩ M rfl λN O=>q N (j.trans (w.trans O))
theorem zli (c:Z.Κ=[])(i:Z.Φ=Φl)(h1:Z.md[0]?=some (HC,("standing":Str),spSt φ Z.K HC CC Z.mg))(f2:Z.fn[2]?=some (spLg φ Z.K HC CC))(fx:Fx2 rs ns)(d:Dt Z.K H B xs rs ns v0 vr vn)(t:Bo φ Z.K HC CC H x A a ds fs h rs)(hb:h.en.length<900)(t2:Hou Z.K HC CC H y A2 ⟨esC rs,[],[],none⟩)(hw:∀e∈h.en,e.2.1≠ns.getD 7 ⟨#[]⟩)(q:∀C,Same H C->D0.rt (.bl true) C):
  wS Z L2k.KY D0 (eS v0 vn f g vr x y a dy [N,l,I,m,n,r,u,w]) H:=by
 refine gW (z44 (λb k D C=>Same H C/\SqL Z.K C b ((ns.take 5).map V.str)/\∃o,D=eS v0 vn f g vr x y a dy [N,l,o,m,n,r,u,w]) (λR k=>?_) (λ_ _ _ _ z=>z.2.1) (λb k v D C hv z D2 KP nx=>?_) λb D C z=>?_)
 ·refine eR c i (fP d (fJ [N,l,I,m,n,r,u,w])) (d:=.list ((ns.take 5).map .str)) (qG (aD rfl) tJ (tU aN.e) (by rw[Ac,UM fx.l8])) λv O j r1=>?_;obtain⟨b,vs,rfl,Q,S⟩:=lC r1;have:vs=(ns.take 5).map V.str:=(ES S).1;rw[this]at Q;exact k b O Q ⟨j,Q,I,rfl⟩
 ·obtain⟨j,sq,o,rfl⟩:=z;rw[ar]at hv;obtain⟨s,hs,rfl⟩:=bn.mp hv;have J:=UL (d.rn) (ol (aq hs));have hc:=fx.bZ (fx.nm▸aq hs);obtain⟨g1,g2⟩:=au.mp hc;have sl:∀{O:Hp},Same H O->Sl Z.K O (eS v0 vn f g vr x y a dy [N,l,some (.str s),m,n,r,u,w]) (oF xs ns f g rs dy (ax 8 none)):=λj=>fP (d.same j) (fJ _);have L:Vv [] Φl (.ix (.var 1) (.int 5)) (oF xs ns f g rs dy (ax 8 none)) (.str (ns.getD (5:Int).toNat ⟨#[]⟩)):=aO (aD rfl) aN.e (pO dc (by rw[fx.l8];decide)) rfl;refine gW (qA (UK ?_));refine zS ?_;show(match Z.fn[2]? with|some sp=>nU sp [] Z.E (wA Z _)|none=>fX) (eS v0 vn f g vr x y a dy [N,l,some (.str s),m,n,r,u,w]) C _;rw[f2];refine aL (aG rfl (aL (aG rfl (aL (aG rfl (aL (aG rfl (aL (eR c i (sl j) L.e λvw H2 P T=>bQ ?_)))))))));have F:=j.trans P;have b2:=t.same F;refine⟨x,A,a,ds,fs,h,vr,rs,.str s,s,vw,_,AnyB,rfl,fx.yl,t.es,b2.th,t.ok,hb,b2.tl,(d.same F).rr.weak λ_ _=>trivial,⟨rfl,J⟩,T,by rw[t.es];exact hc,λH3 s3=>⟨true,rfl,?_⟩⟩;have G:=F.trans s3;have t3:=t2.same G;obtain⟨U,i1,i2⟩:=t3.cR;refine zR (xG h1 (aG rfl ⟨y,A2.dx,U,rfl,i1,i2 _ dc dc dc dc,aL (aG rfl (aL (eR c i (sl G) L.e λW H4 X Y=>bQ ⟨y,A2,_,.str s,.str s,W,_,.aK,.none,AnyB,rfl,t3.same X,KC,⟨rfl,J⟩,Y,rfl,φ.d0,?_⟩)))⟩));rw[rj g1];refine⟨s,rfl,g2,λH5 p s5 n5 e5=>?_⟩;have M:=G.trans (X.trans s5);refine eR c i (sl M) (Ev.of (lF fO)) λv6 H6 s6 r6=>nH (B:=AnyB) (dx:=.list []) ⟨p,[],rfl,.inl ⟨s6 _ _ e5,trivial⟩,rfl⟩ r6 rfl λH7 s7=>⟨_,rfl,iF Z (iF Z (nx _ H7 ⟨M.trans (s6.trans s7),SqL.same sq ?_,_,rfl⟩))⟩;exact P.trans (s3.trans (X.trans (s5.trans (s6.trans s7))))
 ·obtain⟨j,_,o,rfl⟩:=z;exact zlg c i h1 fx (d.same j) (t.th.same j) t.ok t.es hw λH2 P=>q H2 (j.trans P)
theorem znb (l:Z.Κ=[])(m:Z.Φ=Φl)(hF:PhL φ)(h0:Z.me[0]?=some (HC,("ruling_of":Str),spRo φ Z.K HC CC))(h1:Z.md[0]?=some (HC,("standing":Str),spSt φ Z.K HC CC Z.mg))(f2:Z.fn[2]?=some (spLg φ Z.K HC CC))(fx:Fx2 rs ns)(d:Dt Z.K H B xs rs ns v0 vr vn)(t:Bo φ Z.K HC CC H x A a ds fs h rs)(hb:h.en.length<900)(t2:Hou Z.K HC CC H y A2 ⟨esC rs,[],[],none⟩)(hw:∀e∈h.en,e.2.1≠ns.getD 7 ⟨#[]⟩)(q:∀j,Same H j->D0.rt (.bl true) j):
  wS Z L2k.ER D0 (eS v0 vn f g vr x y a dy [o9,s,u,v,K0,K1,K2,qK]) H:=by
 have C:∀{L:Hp} {tl:L2.St} {n:Rho},Same H L->Sl Z.K L tl n->Sl Z.K L (eS v0 vn f g vr x y a dy tl) (some (.od,.list (xs.map .int))::some (.od,.list (ns.map .str))::some (.od,.bool f)::some (.od,.int g)::some (.od,.list (rs.map cwD))::none::none::some (.od,.list (hG h))::some (.od,.int dy)::n):=λ{L tl n} M ht=>.da (d.same M).r0 (.da (d.same M).rn (.da (B:=AnyB) rfl (.jU (.da (d.same M).rr (.no (.no (.da (t.same M).tl.rep (.jU ht))))))));refine gW ⟨_,F0 H,_,(C (Same.refl H) (fJ [o9,s,u,v,K0,K1,K2,qK])).so,by rw[l,m];exact uQ (aF (cW (aF (aD rfl) aW) (by rw[u7,yh]) rfl).e aW) (by rw[uP (by omega) (by omega),i3]),λJ B' S s4 hB O=>?_⟩;have r:((bu h.en.length).map λ(i:Nat)=>PyData.int (i:Int)).length=h.en.length:=by rw[am,db]
 let W:Nat->Nat->L2.St->Hp->Prop:=λi k D j=>k=h.en.length-i/\i<=h.en.length/\Same S j/\∃o,D=eS v0 vn f g vr x y a dy [o9,s,u,v,K0,K1,K2,o]
 refine⟨W,⟨_,rfl,cz _,Same.refl S,qK,rfl⟩,?_⟩
 rintro i k D j ⟨rfl,hi,E,o,rfl⟩
 have c:=s4.trans E;by_cases b:i<h.en.length
 ·refine .inr ⟨O.go j (Kp.of E) i (by rw[r];exact b),W (i+1) (h.en.length-(i+1)),λuu H2 w=>⟨_,by omega,w⟩,λz H6 hy=>?_⟩;obtain⟨s6,e,F,ry⟩:=O.gE j (Kp.of E) i z H6 (by rw[r];exact b) hy;rw[ar,et b]at F;cases F;refine KD ry (by show 16<17;decide) λw r9=>?_;cases r9;have G:=c.trans s6;have t6:=t.same G;obtain⟨P,i1,i2⟩:=t6.th.cR;have I:=t.ok.gd _ (aq (Hd.get b));refine gW (qA (zR (iC h0 (aG rfl ⟨x,A.dx,P,rfl,i1,i2 _ (by decide) (by decide) (by decide) (by decide),aL (aG rfl (bQ ⟨x,A,h,i,rfl,t6.th,t.ok,b,λH7 v7 N r7=>?_⟩))⟩))));have Q:=G.trans N;refine eR l m (C Q (.no (.no (.no (.no (.no (.no (.no (.jU .nil))))))))) (aO (yg (aD rfl) (aD rfl) (Ae b)) dM.e (qI _ _) I.2.1).e λv8 H8 s8 r8=>?_;exact nH (r7.same s8 λ_ z=>z) r8 (zT (by obtain⟨p,_,e⟩:=hF.g2 _ I.1;rw[e];exact KZ 36 p)) λH9 s9=>⟨_,rfl,iF Z (iF Z ⟨rfl,b,E.trans (s6.trans (N.trans (s8.trans s9))),_,rfl⟩)⟩
 ·have R:i=h.en.length:=by omega
  refine .inl ⟨by have:=O.stop j (Kp.of E);rw[r]at this;rw[R];exact this,?_⟩;exact zli l m h1 f2 fx (d.same c) (t.same c) hb (t2.same c) hw λH7 N=>q H7 (c.trans N)
namespace L2k
abbrev it:C:=.eN (.cons (.int 2) (.cons (.bi "min" (.cons (.bi "len" (.cons (.var 0) .nil)) (.cons (.int 62) .nil))) .nil))
abbrev hs:W:=.mk 1 (.cons (.mk 0 (.cons (.raw 4) .nil)) .nil)
def la:WS:=.seq (.asg 1 (.bD (.call 1 "_law_names" (.cons (ca 0) (.cons (.int 8) .nil)))))
 (.seq (.asg 2 (.bD (.cmp .Eq (.bin .Mod (ca 0) (.int 2)) (.int 1))))
 (.seq (.asg 3 (.bD (.call 2 "_law_great" (.cons (ca 0) (.cons (.var 2) .nil)))))
 (.seq (.asg 4 (.bD (.call 3 "_law_courts" (.cons (.tup (.cons (ca 1) (.cons (.var 2) .nil))) (.cons (.var 1) .nil)))))
 (.seq (.asg 5 hs) (.seq (.asg 6 hs) (.seq (.asg 7 (.lst .nil)) (.seq (.asg 8 (.bD (.int 0)))
 (.seq (.bJ (.nm 9) it EK) ER))))))))
end L2k
section
variable {xs:List Int}
theorem ET (h0:ρ[0]?=some (some (.od,.list (xs.map .int)))):evW [] Φ L2k.it ρ=.ok (.fr,(bu (min xs.length 62-2)).map λ(i:Nat)=>PyData.int (2+i)):=by refine uQ (ds:=[.int 2,.int (min (xs.length:Int) 62)]) (aF aN.e (aF (cW (aF (cW (aF (aD h0) aW) (Ts xs) rfl).e (aF aN.e aW)) rfl rfl).e aW)) ?_;show(if -aS<=(2:Int)/\min (xs.length:Int) 62<=aS/\(2:Int)<=aS/\-aS<=min (xs.length:Int) 62 then Res.ok ((bu (min (xs.length:Int) 62-2).toNat).map λ(i:Nat)=>PyData.int (2+i))else Res.no)=_;rw[rj (by unfold aS;omega),show(min (xs.length:Int) 62-2).toNat=min xs.length 62-2 by omega]
theorem zmr (p:Z.Κ=[])(v:Z.Φ=Φl)(hF:PhL φ)(f0:Z.fn[0]?=some (spTe φ Z.K HC CC))(f1:Z.fn[1]?=some (spEl φ Z.K))(f2:Z.fn[2]?=some (spLg φ Z.K HC CC))(h0:Z.me[0]?=some (HC,("ruling_of":Str),spRo φ Z.K HC CC))(U:Z.md[0]?=some (HC,("standing":Str),spSt φ Z.K HC CC Z.mg))(fx:Fx2 rs ns)(V:xs.length<=63)(d:Dt Z.K H B xs rs ns v0 vr vn)(hB:∀b,B (some b)->H b≠none/\¬Ow x S0 a [] b)(t:Bo φ Z.K HC CC H x S0 a [] [] ⟨esC rs,[],[],none⟩ rs)(t2:Hou Z.K HC CC H y A2 ⟨esC rs,[],[],none⟩)(n2:∀b,A2.own y b\/b=A2.c->¬Ow x S0 a [] b)
  (q:∀j,(∀b o,¬Ow x S0 a [] b->H b=some o->j b=some o)->D0.rt (.bl true) j):wS Z (.seq (.bJ (.nm 9) L2k.it L2k.EK) L2k.ER) D0 (eS v0 vn f g vr x y a 0 (ax 8 none)) H:=by
 refine gW ⟨_,F0 H,_,(fP d (fJ (ax 8 none))).so,by rw[p];exact ET rfl,λJ B' T C X wk=>?_⟩;have r:((bu (min xs.length 62-2)).map λ(i:Nat)=>PyData.int (2+i)).length=min xs.length 62-2:=by rw[am,db]
 have t4:=t.same C
 let F:Hp->Ha->List Addr->Prop:=λj A fs=>∀b o,T b=some o->¬Ow x S0 a [] b->j b=some o/\¬Ow x A a fs b
 have s:∀{j A fs},F j A fs->∀b o,T b=some o->Fix o->j b=some o:=λ{j A fs} ff b o e z=>(ff b o e λw=>t4.cZ w e z).1
 have D:∀{j A fs},F j A fs->Dt Z.K j B xs rs ns v0 vr vn:=λ{j A fs} ff=>(d.same C).keep λb o e z=>by
  rcases z with z|z
  ·exact(ff b o e (hB b z).2).1
  ·exact s ff b o e z
 have fB:∀{j A fs},F j A fs->∀b,B (some b)->¬Ow x A a fs b:=λ{j A fs} ff b z=>by
  obtain⟨U,h2⟩:=hB b z;cases e:T b with
  |none=>exact absurd (C.none e) U
  |some o=>exact(ff b o e h2).2
 have fh:∀{j A fs},F j A fs->Hou Z.K HC CC j y A2 ⟨esC rs,[],[],none⟩:=λ{j A fs} ff=>(t2.same C).keep (λb o hb e=>(ff b o e (n2 b hb)).1) (s ff)
 let W:Nat->Nat->L2.St->Hp->Prop:=λi k E j=>k=min xs.length 62-2-i/\i<=min xs.length 62-2/\∃A ds fs h dy o9 G I L M N O P,E=eS v0 vn f g vr x y a dy [o9,G,I,L,M,N,O,P]/\Bo φ Z.K HC CC j x A a ds fs h rs/\F j A fs/\h.en.length<=i/\(∀l,h.ld=some l->l<=dy)/\∀e∈h.en,e.2.1≠ns.getD 7 ⟨#[]⟩
 refine⟨W,⟨_,rfl,cz _,S0,[],[],_,0,none,none,none,none,none,none,none,none,rfl,t4,λb o e n=>⟨e,n⟩,cz _,nofun,λe he=>by cases he⟩,?_⟩
 rintro i k E j ⟨rfl,hi,A,ds,fs,h,dy,o9,G,I,L,M,N,O,P,rfl,tb,ff,hen,hld,hw⟩
 have kp:Kp B' T j:=λb o e z=>by
  rcases z with z|z
  ·have hn:H b=none:=(X _ z).1
   exact(ff b o e λw=>by
    rcases w with w|w|w
    ·exact ui t.th (.inl w) hn
    ·exact t.tl.there (.inl w) hn
    ·cases w).1
  ·exact s ff b o e z
 by_cases m:i<min xs.length 62-2
 ·refine .inr ⟨wk.go j kp i (by rw[r];exact m),W (i+1) (min xs.length 62-2-(i+1)),λuu H2 w=>⟨_,by omega,w⟩,λz H6 hy=>?_⟩;obtain⟨s6,c,Q,ry⟩:=wk.gE j kp i z H6 (by rw[r];exact m) hy;rw[ar,et m]at Q;cases Q;refine KD ry (by show 9<17;decide) λw r9=>?_;cases r9;have u:F H6 A fs:=λb o e n=>⟨s6 b o (ff b o e n).1,(ff b o e n).2⟩;refine zke p v hF f0 f1 f2 fx (D u) (tb.same s6) (fB u) V (by omega) hen hld λH7 A7 UN UO h7 UP V9 V' Wa Wb Wd Wf ps R S UQ=>⟨rfl,m,A7,UN,UO,h7,UP,_,_,_,_,_,_,_,_,rfl,ps.b,λb o e n=>?_,R,S,λe he=>(UQ e he).elim (hw e) id⟩;obtain⟨g1,g2⟩:=u b o e n;exact⟨ps.fr b o g2 g1,λw=>(ps.ow b w).elim g2 λz=>by rw[g1]at z;cases z⟩
 ·have tL:i=min xs.length 62-2:=by omega
  refine .inl ⟨by have:=wk.stop j kp;rw[r]at this;rw[tL];exact this,?_⟩;exact znb p v hF h0 U f2 fx (D ff) tb (by omega) (fh ff) hw λH8 s8=>q H8 λb o n e=>s8 b o (ff b o (C b o e) n).1
end
section
variable {φ:dY}{Z:Wc}{HC CC:Addr}{H:Hp}{D0:Ends}{v0:V}{xs:List Int}{B:Ad->Prop}
theorem znp (j:Z.Κ=[])(l:Z.Φ=Φl)(hF:PhL φ)(f0:Z.fn[0]?=some (spTe φ Z.K HC CC))(f1:Z.fn[1]?=some (spEl φ Z.K))(f2:Z.fn[2]?=some (spLg φ Z.K HC CC))(h0:Z.me[0]?=some (HC,("ruling_of":Str),spRo φ Z.K HC CC))(h1:Z.md[0]?=some (HC,("standing":Str),spSt φ Z.K HC CC Z.mg))(c0:Z.cl[0]?=some (CC,za9 Z.K CC Z.mg))(c1:Z.cl[1]?=some (HC,spHi Z.K HC CC))(u:xs.length<=63)(r0:Rep Z.K H B v0 (.list (xs.map .int)))
  (q:∀P,Same H P->D0.rt (.bl true) P):wS Z L2k.la D0 (some v0::ax 16 none) H:=by
 obtain⟨R,W⟩:=Kj xs u (k:=0) dc;obtain⟨k1,e1⟩:=Kj xs u (k:=1) dc;have ca:∀{ρ:Rho} {k v:Int},ρ[0]?=some (some (.od,.list (xs.map .int)))->qE [.list (xs.map .int),.int k]=.ok (.fr,.int v)->Vv [] Φl (L2k.ca k) ρ (.int v):=λh e=>cV (aF (aD h) (aF aN.e aW)) rfl e rfl;obtain⟨ns,⟨X,UR⟩,en⟩:=TK R (n:=8) dc;generalize hf:decide (R%2=1)=f;obtain⟨g,_,eg⟩:=TB R f;obtain⟨rs,⟨gd,nm⟩,ec⟩:=T2 (ns:=ns) (n:=5) dc dc (by omega) (by omega) (k1,f) rfl;have fx:Fx2 rs ns:=⟨UR,X,by have:=congrArg ki nm;rw[am,dw]at this;omega,nm,gd⟩;refine fI (eR j l (.da r0 (fJ _)) (lG (aF (ca rfl W).e (aF aN.e aW)) rfl en) λvn H1 s1 rn=>?_);have m:=λ{v:V} {d:D} {Ha:Hp} {S:Ad->Prop} (r:Rep Z.K Ha S v d) {G:Hp} (s:Same Ha G)=>r.same s λ_ _=>trivial;refine fI (eR j l (.da (m r0 s1) (.da rn (fJ _))) (eJ (k:=decide (R%2=1)) (bM (ca rfl W).e aN.e (gS dc) rfl).e aN.e rfl).e λv2 H2 T r2=>?_);cases r2;rw[hf];have I:=s1.trans T;refine fI (eR j l (.da (m r0 I) (.da (m rn T) (.da (d:=.bool f) (B:=AnyB) rfl (fJ _)))) (cV (aF (ca rfl W).e (aF (aD rfl) aW)) rfl eg rfl).e λv3 H3 s3 r3=>?_);cases r3;have J:=I.trans s3;refine fI (eR j l (.da (m r0 J) (.da (m rn (T.trans s3)) (.da (d:=.bool f) (B:=AnyB) rfl (.jU (fJ _))))) (lG (aF (RP (aF (ca rfl e1).e (aF (aD rfl) aW))) (aF (aD rfl) aW)) rfl ec) λvr L s4 rr=>?_);have C:=J.trans s4;have M:z0h [] (rs.map cwD)=some (esC rs):=by have:=JW fx.yl fx.gd rs.length (ah _);rw[gg]at this;exact this
 have lA:rs.length<1000:=by rw[fx.l5];decide
 have Ah:∀{σ:L2.St} {Ha:Hp} {Q:VK},σ[4]?=some (some vr)->Same L Ha->(∀x A G,Same Ha G->(∀b,A.own x b\/b=A.c->Ha b=none)->Hou Z.K HC CC G x A ⟨esC rs,[],[],none⟩->Q (.ref x) G)->wE Z L2k.hs σ Ha Q:=λ{σ Ha Q} e4 sa k=>Ei c1 (aL (Ei c0 (aL (aG e4 (bQ (kC (m rr sa) M (by rw[am];exact lA) λxd Wg dd Wh H9 s9 Wi Wj US=>bQ (kH US (by rw[Td];exact M) (by rw[Te];exact lA) λx A Af uY hx ho hc t=>k x A Af (s9.trans uY) (λb i=>s9.none (i.elim (ho b) λz=>z▸hc)) t)))))));refine fI (Ah rfl (Same.refl L) λx A H5 s5 o5 U=>?_);refine fI (Ah rfl s5 λy A2 H6 N o6 t6=>?_);refine fI (xF (bQ ⟨cz _,λp O=>?_⟩));refine fI (kO λH8 s8=>?_);have E:=(Same.upd O).trans s8;have F:=s5.trans (N.trans E)
 have old:∀{b:Addr},L b≠none->¬Ow x A p [] b:=λ{b} h w=>by
  rcases w with w|w|w
  ·exact h (o5 b (.inl w))
  ·exact h ((s5.trans N).none (w▸O))
  ·cases w
 have up:∀{v:V} {d:D} {S:Ad->Prop},Rep Z.K L S v d->Rep Z.K H8 (λa=>∀b,a=some b->L b≠none) v d:=λ{v d S} r=>(Rep.there _ r).same F λa z b i=>by subst i;exact z.2
 refine zmr j l hF f0 f1 f2 h0 h1 fx u ⟨up (m r0 C),up rr,up (m rn (T.trans (s3.trans s4)))⟩ (λb z=>⟨λw=>z b rfl (F.none w),old (z b rfl)⟩) ⟨(U.same (N.trans E)),⟨(s8 _ _ bF),rfl,nofun,⟨rfl,λk b e=>by cases e⟩,List.nodup_nil,eh⟩,KC,rfl,λb i w=>?_,λb i w=>?_⟩ (t6.same E) (λb i w=>?_) λP k'=>q P λb o e=>k' b o (old (by rw[C b o e];simp)) ((C.trans F) b o e)
 ·rcases w with w|w|w
  ·exact ui U (.inl i) (N.none (w▸O))
  ·cases w
  ·cases w
 ·rcases i with i|i
  ·exact ui U (.inr w) (N.none (i▸O))
  ·cases i
 ·rcases w with w|w|w
  ·exact ui U (.inl w) (o6 b i)
  ·exact ui t6 i (w▸O)
  ·cases w
end
def top (i:Nat):Stmt:=PySem.Challenge.pw_likebook_k42_rulings_entered.main.body.getD i (.Pass ⟨0,0,0,0⟩)
def Ai (i:Nat):Stmt->Stmt
 |.ClassDef _ _ _ b ..=>b.getD i (.Pass ⟨0,0,0,0⟩)
 |s=>s
def Sb:Nat->S
 |0=>.nil
 |n+1=>.seq .bad (Sb n)
abbrev FREE:List Str:=["isinstance","str","len","range","list","min","ValueError","int","bool","enumerate","dict","sorted","tuple"]
abbrev hr (nm:Str)(st:Stmt)(N:List Str)(k n:Nat):DRow:=⟨nm,st,N,N.take k,FREE,[],Sb n,aT [] [] N.length (Sb n),.n,[]⟩
abbrev K3:List Str:=["_law_rows","_law_entries","_law_day","_law_court","_law_word","_law_new","_law_number","_law_entry","_law_beneath"]
abbrev K4:List Str:=["_law_house","_law_rows","_law_entries","_law_court","_law_word","_law_due","_law_found","_law_number","_law_book"]
abbrev UT:List Str:=["_law_script","_law_names_here","_law_free","_law_great_here","_law_rows","_law_house","_law_beside","_law_entries","_law_day","_law_k","_law_cell_here","_law_court","_law_word","_law_new","_law_found","_law_due","_law_number"]
abbrev Rz:List DRow:=[
 ⟨"over",top 14,["one","other","held"],["one","other"],["dict"],[],xX,uc,.n,[]⟩,
 ⟨"within",top 13,["one","other"],["one","other"],[],[0],xY,nM,.n,[]⟩,
 ⟨"check_side",top 10,["side"],["side"],["isinstance","str"],[],xV,ub,.n,[]⟩,
 ⟨"side_of",top 11,["case","side"],["case","side"],[],[2],xW,nK,.n,[]⟩,
 ⟨"ruling",top 16,["case","side","reason"],["case","side","reason"],[],[1,3],xZ,qB,.n,[]⟩,
 ⟨"against",top 17,["one","other"],["one","other"],[],[1,3],x4,gX,.n,[]⟩,
 ⟨"barred",top 19,["book","one","k","other"],["book","one"],["enumerate"],[5],x5,qC,.n,[]⟩,
 ⟨"stood",top 23,["fate","day"],["fate","day"],["len"],[],x8,qD,.n,[]⟩,
 ⟨"_law_cell_at",top 26,["_law_script","_law_k"],["_law_script","_law_k"],["len"],[],x9,qE,.n,[]⟩,
 ⟨"_law_whole",top 27,["_law_found"],["_law_found"],["isinstance","bool","int"],[],x',qF,.n,[]⟩,
 ⟨"_law_mix",top 28,["_law_cell_here","_law_k","_law_figure"],["_law_cell_here","_law_k"],[],[],JZ,kS,.n,[]⟩,
 ⟨"_law_cell",top 29,["_law_script","_law_k","_law_free"],["_law_script","_law_k","_law_free"],[],[10],J1,Eo,.n,[]⟩,
 ⟨"_law_pick",top 30,["_law_cell_here","_law_at","_law_number","_law_free","_law_turn"],["_law_cell_here","_law_at"],["range"],[10],Ep,jD,.n,[]⟩,
 ⟨"_law_names",top 31,["_law_cell_here","_law_many","_law_letters","_law_base","_law_at","_law_signs"],["_law_cell_here","_law_many"],["range","len"],[10],Er,Es,.n,[]⟩,
 ⟨"_law_degree",top 32,["_law_figure","_law_great_here"],["_law_figure","_law_great_here"],[],[],J3,ud,.n,[]⟩,
 ⟨"_law_pack",top 33,["_law_names_here","_law_cell_here","_law_at","_law_great_here","_law_pairs"],["_law_names_here","_law_cell_here","_law_at","_law_great_here"],["tuple","sorted","range","len"],[14,12],J4,uZ,.n,[]⟩,
 ⟨"_law_within",top 34,["_law_one","_law_other_here","_law_some","_law_name","_law_degree_here"],["_law_one","_law_other_here"],["dict"],[],J5,rZ,.n,[]⟩,
 ⟨"_law_meet",top 35,["_law_one","_law_other_here","_law_some","_law_pairs"],["_law_one","_law_other_here"],["tuple","min","dict"],[],J6,ya,.n,[]⟩,
 ⟨"_law_great",top 36,["_law_cell_here","_law_free"],["_law_cell_here","_law_free"],[],[10],J7,Et,.n,[]⟩,
 ⟨"_law_case",top 37,["_law_names_here","_law_cell_here","_law_at","_law_great_here"],["_law_names_here","_law_cell_here","_law_at","_law_great_here"],[],[15],J8,yb,.n,[]⟩,
 ⟨"_law_side",top 38,["_law_case_here","_law_side_here"],["_law_case_here","_law_side_here"],["int"],[],J9,nN,.n,[]⟩,
 ⟨"_law_clash",top 40,["_law_one","_law_other_here"],["_law_one","_law_other_here"],[],[16,20],J',Eu,.n,[]⟩,
 ⟨"_law_ruling",top 42,["_law_names_here","_law_cell_here","_law_great_here","_law_case_here","_law_side_here","_law_reason"],["_law_names_here","_law_cell_here","_law_great_here"],[],[12,17,15,20,19],Ew,Ex,.n,[]⟩,
 ⟨"_law_courts",top 43,["_law_cell_here","_law_names_here","_law_rows","_law_k","_law_heads"],["_law_cell_here","_law_names_here"],["range","len"],[12],Ka,z9,.n,[]⟩,
 ⟨"_law_line",top 44,["_law_rows","_law_court","_law_heads","_law_found"],["_law_rows","_law_court"],["dict"],[],Kb,u1,.n,[]⟩,
 ⟨"_law_standing",top 45,["_law_rows","_law_entries","_law_court","_law_word","_law_line_here","_law_found","_law_number","_law_entry"],["_law_rows","_law_entries","_law_court","_law_word"],["range","len"],[24],Kc,Ab,.n,[]⟩,
 hr "_law_told_enter" (top 47) ["_law_house","_law_day","_law_court","_law_word","_law_new","_law_found","e"] 5 3,
 ⟨"_law_enter",top 46,K3,K3.take 6,FREE,[21,24,25],Sb 4,aT [] Φe 9 (Sb 4),.n,[]⟩,
 ⟨"_law_look_good",top 48,K4,K4.take 5,FREE,[9,25],Sb 9,aT [] Φg 9 (Sb 9),.n,[]⟩]
abbrev Lr:DRow:=⟨"law",top 49,UT,["_law_script"],FREE,[8,13,18,23,11,12,9,22],Sb 12,aT [] Φl 17 (Sb 12),.n,[]⟩
abbrev Xt:List XR:=[⟨"NoCourt",[],"BookError"⟩,⟨"NoCourt",[],"NoCourt"⟩,⟨"Late",[],"BookError"⟩,⟨"NoRuling",[],"BookError"⟩,⟨"NoSide",[],"BookError"⟩,⟨"NoReason",[],"BookError"⟩]
abbrev hm (nm:Str)(st:Stmt)(N:List Str)(k n:Nat):DRow:=⟨nm,st,N,N.take k,FREE,[],Sb n,λ_=>.no,.n,[]⟩
abbrev cm (i:Nat):Stmt:=Ai i (top 21)
abbrev hh (i:Nat):Stmt:=Ai i (top 24)
abbrev Ms:List DRow:=[
 hm "stands" (cm 1) ["self","court"] 2 1,
 hm "found" (cm 2) ["self","court","above"] 3 3,
 hm "line" (cm 4) ["self","court","found"] 2 4,
 hm "__init__" (cm 0) ["self","pairs","court","above"] 2 2,
 hm "pairs_told" (cm 3) ["self"] 1 1,
 hm "__init__" (hh 0) ["self","courts"] 2 4,
 hm "ruling_of" (hh 6) ["self","number"] 2 2,
 hm "enter" (hh 2) ["self","day","court","word","case","side","reason","made","number","k"] 7 9,
 hm "standing" (hh 4) ["self","court","word","day","line"] 4 2,
 hm "book" (hh 8) ["self","court","word"] 3 1,
 hm "about" (hh 9) ["self","word","day"] 3 1,
 hm "rulings_at" (hh 10) ["self","numbers"] 2 1,
 hm "felled" (hh 11) ["self","court","word","made"] 4 1,
 hm "is_felled" (hh 12) ["self","number","court","made","entry"] 4 2,
 hm "check_court" (hh 13) ["self","court"] 2 1,
 hm "check_deed" (hh 14) ["self","day","court"] 3 2,
 hm "check_allowed" (hh 15) ["self","court","word","made","numbers","found"] 4 3,
 hm "check_number" (hh 16) ["self","number","whole"] 2 2,
 hm "__init__" (Ai 0 (top 7)) ["self","by"] 2 1]
abbrev CrC:kN:=⟨"Courts",["aboves"],[("stands",cm 1),("found",cm 2),("line",cm 4),("__init__",cm 0),("pairs_told",cm 3)]⟩
abbrev CrH:kN:=⟨"House",["courts","entries","fates","last_day"],[("__init__",hh 0),("enter",hh 2),("ruling_of",hh 6),("book",hh 8),("about",hh 9),("rulings_at",hh 10),("felled",hh 11),("is_felled",hh 12),("check_court",hh 13),("check_deed",hh 14),("check_allowed",hh 15),("check_number",hh 16)]⟩
abbrev MdH:List (Str×Stmt):=[("standing",hh 4)]
abbrev xN:nG:=⟨"NotAllowed","by","NotAllowed",[],Ai 0 (top 7)⟩
theorem nQ:uN (Rz++[Lr]) Xt FREE 0 (Rz++[Lr])=true:=by decide+kernel
theorem UU:pK (Rz++[Lr]) (Rz++[Lr]):=⟨rfl,rfl,rfl,rfl,rfl,rfl,rfl,rfl,rfl,rfl,rfl,rfl,rfl,rfl,rfl,rfl,rfl,rfl,rfl,rfl,rfl,rfl,rfl,rfl,rfl,rfl,rfl,rfl,rfl,rfl,trivial⟩
theorem gY:uN Ms Xt FREE 0 Ms=true:=by decide+kernel
def eI:dY where
 G r:=∃p,GR p/\r=mr p
 sd f _:=f.length==1
 ag r s:=match gX [r,s]with
  |.ok (_,.bool b)=>b
  |_=>false
 s0 _:=rfl
 dy:=xE
 d0:=rfl
 sh:=λr ⟨p,_,e⟩=>e▸KZ 35 p
theorem EU (a:GR p)(c:GR q):eI.ag (mr p) (mr q)=eL p q:=by show(match gX [mr p,mr q]with|.ok (_,.bool b)=>b|_=>false)=_;rw[uf a c]
theorem UW {K:W.Frag}:StS eI K (spD K 2 qD):=⟨_,rfl,λf d hd hf=>by cases d<;>first|(cases hd;done)|exact⟨_,TR hf.2.1⟩⟩
theorem UX {K:W.Frag}:AgS eI K (spD K 2 gX):=⟨_,rfl,λr s ⟨p,a,c⟩ ⟨q,b,d⟩=>by subst c d;exact⟨_,by rw[EU a b];exact uf a b⟩⟩
theorem K5:∀{rs:List D},(∀r∈rs,eI.G r)->∃ps:List (Bool×P×P×P),(∀p∈ps,GR p)/\rs=ps.map mr
 | [],_=>⟨[],nofun,rfl⟩
 |r::rs,h=>by obtain⟨p,a,rfl⟩:=h r (.head _);obtain⟨ps,b,rfl⟩:=K5 λr hr=>h r (.tail _ hr);exact⟨p::ps,λx c=>(az.mp c).elim (λe=>e▸a) (b x),rfl⟩
theorem UY {ps:List (Bool×P×P×P)}(a:∀p∈ps,GR p)(b:GR q):((ps.map mr).findIdx? λr=>eI.ag r (mr q))=ps.findIdx? λp=>eL p q:=by
 induction ps with
 |nil=>rfl
 |cons p ps c=>rw[bj,jo,jo,EU (a p (.head _)) b,c λx d=>a x (.tail _ d)]
theorem K6 {K:W.Frag}:BrS eI K (spD K 2 qC):=⟨_,rfl,λrs s a hr ⟨q,b,e⟩=>by subst e;obtain⟨ps,c,rfl⟩:=K5 hr;rw[UY c b];refine⟨.fr,(ED c b (by rw[am]at a;exact a)).trans ?_⟩;cases ps.findIdx? λp=>eL p q<;>rfl⟩
theorem UZ {K:W.Frag}:RuS eI K (spD K 3 qB):=⟨_,rfl,λa b c ⟨p,d,e⟩=>by cases e;exact⟨_,TQ d⟩⟩
theorem yn:PhL eI:=⟨λp a=>⟨p,a,rfl⟩,λr h=>h,λp q a b=>EU a b⟩
inductive cT {α β:Type}(R:α->β->Prop):List α->List β->Prop where
 |nil:cT R [] []
 |cons {a:α} {b:β} {l:List α} {m:List β} (h:R a b) (t:cT R l m):cT R (a::l) (b::m)
theorem cT.at {c d:Type}{R:c->d->Prop}{l:List c}{m:List d}(h:cT R l m):∀{j:Nat} {a:c},l[j]?=some a->∃b,m[j]?=some b/\R a b:=by
 induction h with
 |nil=>intro j a e;cases e
 |cons h t f=>
  intro j a e;cases j with
  |zero=>cases e;exact⟨_,rfl,h⟩
  |succ j=>exact f e
section
variable (P:cj)(w:World)(K:W.Frag)(mg:Str->Option Value)(base:Heap)
abbrev FX (k:Nat)(f:Addr)(fd:dn)(ps:List Str)(sp:Sp):Prop:=FnOk P w K mg base (CXE P w base) k f fd ps sp
def Fc (r:Nat)(x:Str×Nat)(sp:Sp):Prop:=∃f fd ps k,k<=r/\FX P w K mg base k f fd ps sp/\mg x.1=some (.ref f)/\W.keepIn K (.ref f)=true/\Binds K fd ps []
def Mt (r:Nat)(m:Str×Nat)(y:Addr×Str×Sp):Prop:=m.1=y.2.1/\∃f fd ps k,k<=r/\FX P w K mg base k f fd ps y.2.2/\Cls K y.1/\Meth K y.1 m.1 f/\Binds K fd ps []
def Md (r:Nat)(m:Str×Nat)(y:Addr×Str×Sp):Prop:=m.1=y.2.1/\∃f fd ps k,k<=r/\FX P w K mg base k f fd ps y.2.2/\Cls K y.1/\Meth K y.1 m.1 f/\Binds K fd ps [.none]
def Mq (r:Nat)(m:Str×Str)(y:Addr×Str×Sp):Prop:=m.1=y.2.1/\∃f fd ps k,k<=r/\FX P w K mg base k f fd ps y.2.2/\Cls K y.1/\Meth K y.1 m.1 f/\lQ K fd ps [m.2] zD zD
def Mc (r:Nat)(x:Str×Nat)(y:Addr×Sp):Prop:=∃f fd ps k,k+1<=r/\FX P w K mg base k f fd ps y.2/\L2.Mk K y.1 f/\mg x.1=some (.ref y.1)/\Binds K fd ps []
variable {P w K mg base}
theorem Fc.up (h:Fc P w K mg base r x a)(l:r<=b):Fc P w K mg base b x a:=by obtain⟨f,fd,ps,k,c,d⟩:=h;exact⟨f,fd,ps,k,bq c l,d⟩
theorem Mt.up (h:Mt P w K mg base r x y)(l:r<=a):Mt P w K mg base a x y:=by obtain⟨e,f,fd,ps,k,b,c⟩:=h;exact⟨e,f,fd,ps,k,bq b l,c⟩
theorem Md.up (h:Md P w K mg base r x y)(l:r<=a):Md P w K mg base a x y:=by obtain⟨e,f,fd,ps,k,b,c⟩:=h;exact⟨e,f,fd,ps,k,bq b l,c⟩
theorem Mc.up (h:Mc P w K mg base r x y)(l:r<=a):Mc P w K mg base a x y:=by obtain⟨f,fd,ps,k,b,c⟩:=h;exact⟨f,fd,ps,k,bq b l,c⟩
theorem K7 (a:Z.K=K)(t:Z.mg=mg)(f:cT (Fc P w K mg base r) p.fn Z.fn)(m:cT (Mt P w K mg base r) p.me Z.me)(c:cT (Mc P w K mg base r) p.cl Z.cl)(u:p.gi=[])(hh:p.hf=[])(d:cT (Md P w K mg base r) p.md Z.md)(q:cT (Mq P w K mg base r) p.mq Z.mq):Zok p Z (CXE P w base) P w K mg base r where
 kk:=a
 mm:=t
 fn:=λj x n e=>by obtain⟨b,a,f,fd,ps,k,g,h,i,l,o⟩:=f.at e;exact⟨b,f,fd,ps,k,a,g,h,i,l,o⟩
 me:=λj x n e=>by obtain⟨⟨C,s,b⟩,a,rfl,f,fd,ps,k,g,h,i,l,o⟩:=m.at e;exact⟨C,b,f,fd,ps,k,a,g,h,i,l,o⟩
 cl:=λj x n e=>by obtain⟨⟨C,b⟩,a,f,fd,ps,k,g,h,i,l,o⟩:=c.at e;exact⟨C,b,f,fd,ps,k,a,g,h,i,l,o⟩
 gi:=λj x e=>by rw[u]at e;cases e
 hf:=λj x n e=>by rw[hh]at e;cases e
 md:=λj x n e=>by obtain⟨⟨C,s,b⟩,a,rfl,f,fd,ps,k,g,h,i,l,o⟩:=d.at e;exact⟨C,b,f,fd,ps,k,a,g,h,i,l,o⟩
 mq:=λj x n e=>by obtain⟨⟨C,s,b⟩,a,rfl,f,fd,ps,k,g,h,i,l,o⟩:=q.at e;exact⟨C,b,f,fd,ps,k,a,g,h,i,l,o⟩
end
theorem U0 {P:List Value->Prop}(h:∀a b c d e f g,P [a,b,c,d,e,f,g])(i:List Value)(z:i.length=7):P i:=by obtain⟨a,l,rfl,y⟩:=jA z;exact Ih (P:=λl=>P (a::l)) (h a) l y
abbrev HN:List (Str×Str):=(Xt.map λr=>(r.c,r.B))++[(("NotAllowed":Str),("NotAllowed":Str))]
abbrev gM (st:Stmt)(N:List Str)(fns:List (Str×Nat)):Gm:={N:=N,sc:=z08 st,free:=FREE,fns:=fns,cst:=[],sub:=(Xt.map XR.subs).flatten,rs:=Xt.map (·.c),gQ:=HN}
abbrev K8:List (Str×Str):=[("NotAllowed","by")]
abbrev gH (r:DRow)(fn me cl:List (Str×Nat))(md:List (Str×Nat):=[])(mq:List (Str×Str):=[])(fns:List (Str×Nat):=[])(fld:List (Str×Str):=[]):Gw:={g:=gM r.st r.N fns,fn:=fn,me:=me,cl:=cl,md:=md,mq:=mq,fld:=fld}
abbrev zH (K:W.Frag)(mg:Str->Option Value)(fn:List Sp)(me:List (Addr×Str×Sp))(cl:List (Addr×Sp))(md:List (Addr×Str×Sp):=[])(mq:List (Addr×Str×Sp):=[])(Φ:List Fn:=[]):Wc:={K:=K,mg:=mg,Κ:=[],Φ:=Φ,E:=λ_ _ _=>False,fn:=fn,me:=me,cl:=cl,md:=md,mq:=mq}
abbrev mq (i:Nat):DRow:=Ms.getD i Lr
abbrev rz (i:Nat):DRow:=Rz.getD i Lr
def U1 (f:Str):WS:=.seq (.zL (.raw 0) f (.raw 1)) .nil
theorem mI {α:Type}{l:List α}{i:Nat}{a:α}(e:l[i]?=some a):a∈l:=aq e
theorem fC {i:Nat}(h:uN a Xt FREE 0 a=true)(e:a[i]?=some r):FnScope r.N r.ps (z08 r.st):=(xb (Dc h e)).1
section
variable {P:cj}{w:World}{K:W.Frag}{mg:Str->Option Value}{base:Heap}{CC HC:Addr}
structure Tx (K:W.Frag)(mg:Str->Option Value)(CC HC:Addr):Prop where
 T:∀n∈FREE,mg n=none
 G:∀(x:Str) (v:Value),W.nsIn K bp x=some (some v)->mg x=some v
 xk:∀Γ:Gm,Γ.sub=(Xt.map XR.subs).flatten->Γ.rs=Xt.map (·.c)->(Γ.gQ=Xt.map λr=>(r.c,r.B))->rN Γ K mg
 XN:∃A D f fd,XAt K xN A D f fd
 CA:ClsAt K CrC CC
 HA:ClsAt K CrH HC
 HD:∀m∈MdH,∃T f fd,FunD K m.1 ("House"++"."++m.1) m.2 T f fd/\Meth K HC m.1 f
theorem EV (t:Tx K mg CC HC){st:Stmt}:rN (gM st N fns) K mg:=by
 have b:=t.xk {gM st N fns with gQ:=Xt.map λr=>(r.c,r.B)} rfl rfl rfl;refine⟨b.sub,b.rs,λc B h=>?_⟩;rcases b6.mp (cg.mp h)with h|h
 ·exact b.gQ c B (cg.mpr h)
 ·cases bf.mp h;obtain⟨A,D,f,fd,a⟩:=t.XN;exact⟨A,D,t.G _ _ a.ns,t.G _ _ a.nb,a.xf.ex,a.ed,a.sd⟩
def Fd (P:cj)(w:World)(K:W.Frag)(mg:Str->Option Value)(base:Heap)(k:Nat)(x:Str×Nat)(m:Fn):Prop:=∃ps k',k'<=k/\Cal P w K mg base k' x.1 ps (spD K x.2 m)/\mQ P w K mg base k' x.1 ps x.2 m
theorem vg (h:mX P w K mg base i r)(a:r.kd=.n)(b:i+1<=k):Fd P w K mg base k (r.nm,r.ps.length) r.F:=by unfold mX at h;rw[a]at h;exact⟨r.ps,i+1,b,h.1,h.2⟩
theorem yo (t:Tx K mg CC HC){st:Stmt}(h:cT (Fd P w K mg base k) fns Φ):Dok (gM st N fns) [] Φ P w K mg base k where
 free:=λx i=>t.T x (cg.mp i)
 fns:=λj f n e=>by obtain⟨m,a,ps,b,c,d,g⟩:=h.at e;exact⟨m,b,ps,a,c,d⟩
 cst:=λj x e=>by cases e
 pH:=λj f n e=>by obtain⟨m,a,ps,b,c,d,g⟩:=h.at e;exact⟨m,b,ps,a,c,g⟩
 xk:=EV t
theorem U2 (t:Tx K mg CC HC):∀Γ X r,2<=r->Γ.fld=K8->X.prog=P->X.w=w->X.K=K->X.mg=mg->X.base=base->Wfk Γ X r:=by
 intro Γ X r hr hf d e g hm h;subst d e g hm h;intro c fl b;rw[hf]at b;cases bf.mp (cg.mp b);obtain⟨A,D,f,fd,a⟩:=t.XN;refine⟨A,f,fd,["self","by"],1,t.G _ _ a.ns,a.xf,a.xi,hr,?_,a.fu.binds λ_ _ _ _ _ _=>dX λ_ _=>rfl⟩;refine DZ (Γ:=gH (mq 18) [] [] []) (Z:=zH X.K X.mg [] [] []) (s:=U1 "by") a.fu (fC gY (i:=18) rfl) rfl rfl (yo t .nil) (λE=>K7 rfl rfl .nil .nil .nil rfl rfl .nil .nil) rfl (.inl rfl) (by decide+kernel) (by rintro _ _ _ _ ⟨_,_,_,_,_,rfl,_⟩;rfl) ?_
 rintro _ _ _ _ ⟨x,C,ob,j,y,rfl,k,b,hd,da,xf,q⟩
 exact⟨y,rfl,.ref x,rfl,x,C,ob,j,rfl,k,b,hd,da,xf,λdp l m=>q dp l m⟩
theorem wm0 {r:DRow}{s:WS}{x qual:Str}{f:Addr}{fd:dn}{sp:Sp}{k:Nat}{fns fn me cl md:List (Str×Nat)}{mq fld:List (Str×Str)}{Φ:List Fn}{fS:List Sp}{mS dS qS:List (Addr×Str×Sp)}{cS:List (Addr×Sp)}(t:Tx K mg CC HC)(Fu:∃(dV oc:Value) (od:Option Addr) (kV doc pm:Value) (an:Option Addr) (cdv ct:Value) (osl:Array (Option Value)),fd=W.fnOf x qual (z0p r.st) (z0f r.st) (z08 r.st) dV kV doc pm an cdv ct/\K.lookup f=some ⟨oc,od,.func fd,osl⟩/\W.codeIn K cdv qual=true)(Sc:FnScope r.N r.ps (z08 r.st))
  (a0:cT (Fd P w K mg base k) fns Φ:=by exact .nil) (a1:cT (Fc P w K mg base k) fn fS:=by exact .nil) (a2:cT (Mt P w K mg base k) me mS:=by exact .nil) (a3:cT (Mc P w K mg base k) cl cS:=by exact .nil) (a4:cT (Md P w K mg base k) md dS:=by exact .nil) (a5:cT (Mq P w K mg base k) mq qS:=by exact .nil) (kf:fld=[]\/fld=K8/\2<=k:=by exact .inl rfl)
  (hc:wkL (gH r fn me cl md mq fns fld) s (z0f r.st)=true:=by decide+kernel) (run:∀vs H Q E (zG:Prop),(vs.length=r.ps.length->wS {zH K mg fS mS cS dS qS Φ with E:=E} s {nx:=λ_ H'=>Q .aK H',rt:=Q} (start r.N vs) H->zG)->sp vs H Q E->zG):FX P w K mg base (k+1) f fd r.ps sp:=
 zrr (Γ:=gH r fn me cl md mq fns fld) (Z:=zH K mg fS mS cS dS qS Φ) Fu Sc rfl rfl (yo t a0) (λE=>K7 rfl rfl a1 a2 a3 rfl rfl a4 a5) rfl (kf.imp_right λh X h1 h2 h3 h4 h5=>U2 t _ X k h.2 h.1 h1 h2 h3 h4 h5) hc (λvs H Q E=>run vs H Q E _ λa _=>a) λvs H Q E=>run vs H Q E _ λ_ b=>b
theorem K9 (t:Tx K mg CC HC):Mt P w K mg base 1 ("stands",1) (CC,"stands",z3d K CC)/\Mt P w K mg base 2 ("found",2) (CC,"found",z99 K CC mg)/\Mt P w K mg base 2 ("line",1) (CC,"line",z7h K CC mg)/\Mt P w K mg base 1 ("pairs_told",0) (CC,"pairs_told",spPt K CC)/\Mc P w K mg base 4 ("Courts",1) (CC,za9 K CC mg):=by
 have ck:CrtK K CC:=⟨t.CA.cls,t.CA.na _ (.head _)⟩;obtain⟨f1,EW,Aj,M1⟩:=t.CA.ms ("stands",cm 1) (.head _);obtain⟨f2,uV,uj,M2⟩:=t.CA.ms ("found",cm 2) (mI (i:=1) rfl);obtain⟨f3,EX,Ak,M3⟩:=t.CA.ms ("line",cm 4) (mI (i:=2) rfl);obtain⟨f4,EY,yp,M4⟩:=t.CA.ms ("__init__",cm 0) (mI (i:=3) rfl);obtain⟨f5,U3,K',M5⟩:=t.CA.ms ("pairs_told",cm 3) (mI (i:=4) rfl);have F1:Mt P w K mg base 1 ("stands",1) (CC,"stands",z3d K CC):=⟨rfl,f1,EW,["self","court"],1,ah _,wm0 (s:=Ct.nD) t ⟨_,Aj.ex⟩ (fC gY (i:=0) rfl) (run:=by rintro _ _ _ _ _ zq ⟨x,dx,d,kvs,es,v,c,B,rfl,ct,rv,q⟩;exact zq rfl (zcb ck ct rv q)),t.CA.cls,M1,Aj.binds λ_ _ _ _ _ _=>dX λ_ _=>rfl⟩;have F2:Mt P w K mg base 2 ("found",2) (CC,"found",z99 K CC mg):=⟨rfl,f2,uV,["self","court","above"],2,ah _,wm0 (s:=Ct.found) t ⟨_,uj.ex⟩ (fC gY (i:=1) rfl) (a2:=.cons F1 .nil) (run:=by rintro _ _ _ _ _ zq ⟨x,dx,d,kvs,es,vc,va,c,a,B,rfl,ct,rc,ra,hz,q⟩;exact zq rfl (zfu ck rfl ct rc ra hz q)),t.CA.cls,M2,uj.binds λ_ _ _ _ _ _=>pL λ_ _ _=>rfl⟩;have F3:Mt P w K mg base 2 ("line",1) (CC,"line",z7h K CC mg):=⟨rfl,f3,EX,["self","court"],2,ah _,wm0 (s:=Ct.line) t ⟨_,Ak.ex⟩ (fC gY (i:=2) rfl) (a2:=.cons F1 .nil) (run:=by rintro _ _ _ _ _ zq ⟨x,dx,d,kvs,es,v,c,B,rfl,ct,rv,q⟩;exact zq rfl (zif ck rfl ct rv q)),t.CA.cls,M3,Ak.binds λ_ _ _ _ _ _=>dX λ_ _=>rfl⟩;have F5:Mt P w K mg base 1 ("pairs_told",0) (CC,"pairs_told",spPt K CC):=⟨rfl,f5,U3,["self"],1,ah _,wm0 (s:=Ct.pairs) t ⟨_,K'.ex⟩ (fC gY (i:=4) rfl) (run:=by rintro _ _ _ _ _ zq ⟨x,dx,d,kvs,es,rfl,ct,q⟩;exact zq rfl (SV ck ct q)),t.CA.cls,M5,K'.binds λ_ _ _ _ _ _=>zr λ_=>rfl⟩;refine⟨F1,F2,F3,F5,f4,EY,["self","pairs"],3,ah _,wm0 (s:=Ct.init) t ⟨_,yp.ex⟩ (fC gY (i:=3) rfl) (a2:=.cons (F1.up (by decide)) (.cons F2 .nil)) (run:=?_),⟨t.CA.Jp,M4.at_,M4.fn,t.CA.kp⟩,t.G _ _ t.CA.ns,yp.binds λ_ _ _ _ _ _=>dX λ_ _=>rfl⟩
 rintro _ _ _ _ _ zq ⟨x,dx,vp,ps,B,rfl,hx,rp,hi,hp,hz,q⟩
 refine zq rfl ?_;refine zhp ck rfl hx rp hi hp hz ?_;unfold t8 at *
 split at q
 ·exact λH' d kvs h1 h2 h3 _=>q H' d kvs h1 h2 h3
 ·exact q
end
theorem U4 {P:cj}{w:World}{K:W.Frag}{mg:Str->Option Value}{base:Heap}{CX:CXT}{k:Nat}{f:Addr}{fd:dn}{ps:List Str}{n:Nat}{m:Fn}(F:FnOk P w K mg base lS k f fd ps (spD K n m)):FnOk P w K mg base CX k f fd ps (spD K n m):=
 ⟨F.len,λA outer s H args us vs Q E hr he hb hv hs=>ja (F.run A outer s H args us vs Q E hr he hb hv hs) λr s' z=>by
  cases r with
  |error e=>exact(show False from z).elim
  |ok x=>cases x<;>exact z⟩
section
variable {P:cj}{w:World}{K:W.Frag}{mg:Str->Option Value}{base:Heap}{CC HC:Addr}
theorem Al (h:mX P w K mg base i r)(a:r.kd=.n)(c:i<21):Fc P w K mg base 21 (r.nm,n) (spD K r.ps.length r.F):=by unfold mX at h;rw[a]at h;obtain⟨⟨f,fd,F,m,k,b⟩,_⟩:=h;exact⟨f,fd,r.ps,i+1,c,U4 F,m,k,b⟩
variable (P w K mg base CC HC)in
structure U5:Prop where
 st:Md P w K mg base 23 ("standing",2) (HC,"standing",spSt eI K HC CC mg)
 bk:Mt P w K mg base 24 ("book",2) (HC,"book",spBk eI K HC CC mg)
 ro:Mt P w K mg base 2 ("ruling_of",1) (HC,"ruling_of",spRo eI K HC CC)
 en:Mt P w K mg base 25 ("enter",6) (HC,"enter",spEn eI K HC CC mg)
 Ah:Mc P w K mg base 6 ("House",1) (HC,spHi K HC CC)
theorem U6 (t:Tx K mg CC HC)(dd:∀i r,i<26->(Rz++[Lr])[i]?=some r->mX P w K mg base i r):U5 P w K mg base CC HC:=by
 obtain⟨c1,c2,c3,c4,c5⟩:=K9 (P:=P) (w:=w) (base:=base) t;have hk:HouK K HC:=⟨t.HA.cls,t.HA.na _ (.head _),t.HA.na _ (mI (i:=1) rfl),t.HA.na _ (mI (i:=2) rfl),t.HA.na _ (mI (i:=3) rfl)⟩;have dS:Fc P w K mg base 21 ("stood",2) (spD K 2 qD):=Al (dd 7 _ (by decide) rfl) rfl (by decide);have dA:Fc P w K mg base 21 ("against",2) (spD K 2 gX):=Al (dd 5 _ (by decide) rfl) rfl (by decide);have dB:Fc P w K mg base 21 ("barred",2) (spD K 2 qC):=Al (dd 6 _ (by decide) rfl) rfl (by decide);have dR:Fc P w K mg base 21 ("ruling",3) (spD K 3 qB):=Al (dd 4 _ (by decide) rfl) rfl (by decide);obtain⟨f0,U7,La,M0⟩:=t.HA.ms ("__init__",hh 0) (.head _);obtain⟨f2,uV,uj,M2⟩:=t.HA.ms ("enter",hh 2) (mI (i:=1) rfl);obtain⟨f7,U8,Lb,M7⟩:=t.HA.ms ("ruling_of",hh 6) (mI (i:=2) rfl);obtain⟨f8,U9,Lc,M8⟩:=t.HA.ms ("book",hh 8) (mI (i:=3) rfl);obtain⟨f9,U',Ld,M9⟩:=t.HA.ms ("about",hh 9) (mI (i:=4) rfl);obtain⟨Va,EZ,yq,Vb⟩:=t.HA.ms ("rulings_at",hh 10) (mI (i:=5) rfl);obtain⟨Vc,E1,yr,Vd⟩:=t.HA.ms ("felled",hh 11) (mI (i:=6) rfl);obtain⟨Ve,E2,yt,Vf⟩:=t.HA.ms ("is_felled",hh 12) (mI (i:=7) rfl);obtain⟨Vg,E3,yu,Vh⟩:=t.HA.ms ("check_court",hh 13) (mI (i:=8) rfl);obtain⟨Vi,E4,yw,Vj⟩:=t.HA.ms ("check_deed",hh 14) (mI (i:=9) rfl);obtain⟨Vk,E5,yx,Vl⟩:=t.HA.ms ("check_allowed",hh 15) (mI (i:=10) rfl);obtain⟨Vm,E6,yy,Vn⟩:=t.HA.ms ("check_number",hh 16) (mI (i:=11) rfl);obtain⟨T4,f4,EY,yp,M4⟩:=t.HD ("standing",hh 4) (.head _);have F9:Mt P w K mg base 22 ("about",2) (HC,"about",spAb eI K HC CC):=⟨rfl,f9,U',["self","word","day"],22,ah _,wm0 (s:=Hs.about) t ⟨_,Ld.ex⟩ (fC gY (i:=10) rfl) (a1:=.cons dS .nil) (run:=by rintro _ _ _ _ _ zq ⟨x,A,h,vw,w,vd,dy,B,rfl,th,ok,rw',rd,hd,q⟩;exact zq rfl (zce hk rfl UW th ok rw' rd hd q)),t.HA.cls,M9,Ld.binds λ_ _ _ _ _ _=>pL λ_ _ _=>rfl⟩;have Le:Mt P w K mg base 1 ("rulings_at",1) (HC,"rulings_at",spRa eI K HC CC):=⟨rfl,Va,EZ,["self","numbers"],1,ah _,wm0 (s:=Hs.fY) t ⟨_,yq.ex⟩ (fC gY (i:=11) rfl) (run:=by rintro _ _ _ _ _ zq ⟨x,A,h,vn,ks,B,rfl,th,ok,rn,Vo,q⟩;exact zq rfl (z6f hk th ok rn Vo q)),t.HA.cls,Vb,yq.binds λ_ _ _ _ _ _=>dX λ_ _=>rfl⟩;have F4:Md P w K mg base 23 ("standing",2) (HC,"standing",spSt eI K HC CC mg):=⟨rfl,f4,EY,["self","court","word","day"],23,ah _,wm0 (s:=Hs.iD) t ⟨_,yp.ex⟩ (fC gY (i:=8) rfl) (a2:=.cons (c3.up (by decide)) (.cons F9 .nil)) (run:=by rintro _ _ _ _ _ zq ⟨x,A,h,vc,c,vw,w,vd,dy,B,rfl,th,ok,rc,rw',rd,hd,q⟩;exact zq rfl (z7c hk rfl rfl th ok rc rw' rd hd q)),t.HA.cls,M4,yp.binds λkV doc pm an cdv ct us hl=>pL (P:=λus=>∃k,n0 (W.fnOf "standing" ("House"++"."++"standing") (z0p (hh 4)) (z0f (hh 4)) (z08 (hh 4)) (.ref T4) kV doc pm an cdv ct) ⟨us,[]⟩=seqItems? (.ref T4)>>=k/\k (some #[.none])=(pure ((["self","court","word","day"]:List Str).zip (us++[.none])):Sem (List (Str×Value)))) (λ_ _ _=>⟨_,rfl,rfl⟩) us (Nat.succ.inj hl)⟩;have F8:Mt P w K mg base 24 ("book",2) (HC,"book",spBk eI K HC CC mg):=⟨rfl,f8,U9,["self","court","word"],24,ah _,wm0 (s:=Hs.book) t ⟨_,Lc.ex⟩ (fC gY (i:=9) rfl) (a2:=.cons (Le.up (by decide)) .nil) (a4:=.cons F4 .nil) (run:=by rintro _ _ _ _ _ zq ⟨x,A,h,vc,c,vw,w,B,rfl,th,ok,rc,rw',q⟩;exact zq rfl (zi7 hk rfl rfl th ok rc rw' q)),t.HA.cls,M8,Lc.binds λ_ _ _ _ _ _=>pL λ_ _ _=>rfl⟩;have Vp:Mt P w K mg base 22 ("is_felled",3) (HC,"is_felled",spIf eI K HC CC):=⟨rfl,Ve,E2,["self","number","court","made"],22,ah _,wm0 (s:=Hs.iE) t ⟨_,yt.ex⟩ (fC gY (i:=13) rfl) (a1:=.cons dA .nil) (a2:=.cons (c3.up (by decide)) .nil) (run:=by rintro _ _ _ _ _ zq ⟨x,A,h,k,vc,s,vm,r,B,rfl,th,ok,Vq,rc,rm,hg,q⟩;exact zq rfl (z89 hk rfl rfl UX th ok Vq rc rm hg q)),t.HA.cls,Vf,yt.binds λ_ _ _ _ _ _=>by4 λ_ _ _ _=>rfl⟩;have Vr:Mt P w K mg base 23 ("felled",3) (HC,"felled",spFe eI K HC CC):=⟨rfl,Vc,E1,["self","court","word","made"],23,ah _,wm0 (s:=Hs.nI) t ⟨_,yr.ex⟩ (fC gY (i:=12) rfl) (a2:=.cons F9 (.cons Vp .nil)) (run:=by rintro _ _ _ _ _ zq ⟨x,A,h,vc,s,vw,w,vm,r,B,rfl,th,ok,rc,rw',rm,hg,q⟩;exact zq rfl (zbp hk rfl rfl th ok rc rw' rm hg q)),t.HA.cls,Vd,yr.binds λ_ _ _ _ _ _=>by4 λ_ _ _ _=>rfl⟩;have Vs:Mt P w K mg base 3 ("check_court",1) (HC,"check_court",spCc K HC CC mg):=⟨rfl,Vg,E3,["self","court"],3,ah _,wm0 (s:=Hs.eY) t ⟨_,yu.ex⟩ (fC gY (i:=14) rfl) (a2:=.cons c3 .nil) (run:=by rintro _ _ _ _ _ zq ⟨x,A,h,vc,c,B,rfl,th,rc,q⟩;exact zq rfl (z58 hk rfl th rc q)),t.HA.cls,Vh,yu.binds λ_ _ _ _ _ _=>dX λ_ _=>rfl⟩;have Vt:Mt P w K mg base 4 ("check_deed",2) (HC,"check_deed",spCd K HC CC mg):=⟨rfl,Vi,E4,["self","day","court"],4,ah _,wm0 (s:=Hs.fZ) t ⟨_,yw.ex⟩ (fC gY (i:=15) rfl) (a2:=.cons Vs .nil) (run:=by rintro _ _ _ _ _ zq ⟨x,A,h,vc,c,n,B,rfl,th,rc,q⟩;exact zq rfl (z6g hk rfl th rc q)),t.HA.cls,Vj,yw.binds λ_ _ _ _ _ _=>pL λ_ _ _=>rfl⟩
 have Vu:Mt P w K mg base 24 ("check_allowed",3) (HC,"check_allowed",spCa eI K HC CC mg):=⟨rfl,Vk,E5,["self","court","word","made"],24,ah _,wm0 (s:=Hs.dP) t ⟨_,yx.ex⟩ (fC gY (i:=16) rfl) (a1:=.cons (dB.up (by decide)) .nil) (a2:=.cons (Le.up (by decide)) .nil) (a4:=.cons F4 .nil) (kf:=.inr ⟨rfl,by decide⟩) (run:=by
  rintro _ _ _ _ _ zq ⟨x,A,h,vc,s,vw,w,vm,r,B,rfl,th,ok,rc,rw',rm,hg,hc,q⟩
  refine zq rfl ?_;cases hb:bar eI h s w r with
  |none=>rw[hb]at q;exact z26 hk rfl rfl rfl K6 th ok rc rw' rm hg hc (by rw[hb];exact λ_=>q)
  |some k=>rw[hb]at q;exact z26 hk rfl rfl rfl K6 th ok rc rw' rm hg hc (by rw[hb];exact q)),t.HA.cls,Vl,yx.binds λ_ _ _ _ _ _=>by4 λ_ _ _ _=>rfl⟩
 have Vw:Mt P w K mg base 1 ("check_number",1) (HC,"check_number",xO K HC CC mg):=⟨rfl,Vm,E6,["self","number"],1,ah _,wm0 (s:=Hs.eG) t ⟨_,yy.ex⟩ (fC gY (i:=17) rfl) (run:=by
  rintro _ _ _ _ _ zq ⟨x,A,h,n,rfl,th,hb,q⟩
  refine zq rfl ?_;refine SW hk th hb ?_;by_cases e:xM h n=true
  ·rw[rj e]at q ⊢;exact λ_=>q
  ·rw[rq e]at q ⊢;exact q),t.HA.cls,Vn,yy.binds λ_ _ _ _ _ _=>dX λ_ _=>rfl⟩
 have F7:Mt P w K mg base 2 ("ruling_of",1) (HC,"ruling_of",spRo eI K HC CC):=⟨rfl,f7,U8,["self","number"],2,ah _,wm0 (s:=L2k.ro) t ⟨_,Lb.ex⟩ (fC gY (i:=6) rfl) (a2:=.cons Vw .nil) (run:=by rintro _ _ _ _ _ zq ⟨x,A,h,k,rfl,th,ok,hl,q⟩;exact zq rfl (UE hk rfl th ok hl q)),t.HA.cls,M7,Lb.binds λ_ _ _ _ _ _=>dX λ_ _=>rfl⟩;have F2:Mt P w K mg base 25 ("enter",6) (HC,"enter",spEn eI K HC CC mg):=⟨rfl,f2,uV,["self","day","court","word","case","side","reason"],25,ah _,wm0 (s:=Hs.enter) t ⟨_,uj.ex⟩ (fC gY (i:=7) rfl) (a1:=.cons (dR.up (by decide)) .nil) (a2:=.cons (Vt.up (by decide)) (.cons Vu (.cons (Vr.up (by decide)) .nil))) (run:=by rintro _ _ _ _ _ zq ⟨x,A,h,n,vc,c,vw,w,v4,v5,v6,a,b,r,B,rfl,th,ok,hb,rc,rw',r4,r5,r6,im,hg,q⟩;exact zq rfl (zcy hk rfl rfl rfl rfl UZ th ok hb rc rw' r4 r5 r6 im hg q)),t.HA.cls,M2,uj.binds λ_ _ _ _ _ _=>U0 λ_ _ _ _ _ _ _=>rfl⟩;refine⟨F4,F8,F7,F2,f0,U7,["self","courts"],5,ah _,?_,⟨t.HA.Jp,M0.at_,M0.fn,t.HA.kp⟩,t.G _ _ t.HA.ns,La.binds λ_ _ _ _ _ _=>dX λ_ _=>rfl⟩;refine wm0 (s:=Hs.init) t ⟨_,La.ex⟩ (fC gY (i:=5) rfl) (a2:=.cons (c4.up (by decide)) .nil) (a3:=.cons c5 .nil) (run:=?_)
 rintro _ _ _ _ _ zq ⟨x,dx,y,dy,d,kvs,es,rfl,hx,ct,af,hz,q⟩
 refine zq rfl ?_;exact zct hk rfl rfl hx ct af hz λ_=>q
end
theorem Vx {P:cj}{w:World}{K:W.Frag}{mg:Str->Option Value}{base:Heap}{k:Nat}{f:Addr}{fd:dn}{ps:List Str}{sp Lf:Sp}(F:FnOk P w K mg base (CXE P w base) k f fd ps sp)(h:∀vs H Q E,Lf vs H Q E->sp vs H Q λ_ _ _=>False):FnOk P w K mg base lS k f fd ps Lf:=
 ⟨λvs H Q E q=>F.len vs H Q _ (h _ _ _ _ q),λA outer s H args us vs Q E hr he hb hv hs=>ja (F.run A outer s H args us vs Q _ hr he hb hv (h _ _ _ _ hs)) λr s' z=>by
  cases r with
  |error e=>obtain⟨_,_,_,_,_,_,z⟩:=z;exact z.elim
  |ok x=>cases x<;>exact z⟩
def yz:Fn:=λds=>match ds with
 | [.list xs]=>if(xs.all λx=>match x with|.int _=>true|_=>false)&&decide (xs.length<=63)then .ok (.fr,.bool true)else .no
 |_=>.no
theorem Vy {a:List Int}(b:a.length<=63):yz [.list (a.map .int)]=.ok (.fr,.bool true):=by show(if((a.map PyData.int).all _&&decide ((a.map PyData.int).length<=63))=true then Res.ok (G.fr,PyData.bool true)else Res.no)=_;rw[rj];rw[am,si b,Bool.and_true,qh,bx];intro x _;rfl
theorem jV:∀{a:List D},(a.all λx=>match x with|.int _=>true|_=>false)=true->∃b:List Int,a=b.map .int
 | [],_=>⟨[],rfl⟩
 |y::a,h=>by
  rw[cx,au]at h;obtain⟨b,e⟩:=jV h.2;cases y with
  |int i=>exact⟨i::b,by rw[e];rfl⟩
  |_=>cases h.1
section
variable {P:cj}{w:World}{K:W.Frag}{mg:Str->Option Value}{base:Heap}{CC HC:Addr}
theorem E7 (t:Tx K mg CC HC)(dd:∀i r,i<26->(Rz++[Lr])[i]?=some r->mX P w K mg base i r)(O:∀i r,i<29->(Rz++[Lr])[i]?=some r->Own K mg r.nm r.st r.ps){f:Addr}{fd:dn}(Fl:Fun K "law" "law" (top 49) f fd):FnOk P w K mg base lS 30 f fd ["_law_script"] (spD K 1 yz):=by
 obtain⟨c1,c2,c3,c4,c5⟩:=K9 (P:=P) (w:=w) (base:=base) t;have hm:=U6 (P:=P) (w:=w) (base:=base) t dd;obtain⟨f1,EW,Aj,m1,k1,b1⟩:=O 26 _ (by decide) rfl;obtain⟨f2,uV,uj,m2,k2,b2⟩:=O 27 _ (by decide) rfl;obtain⟨f3,EX,Ak,m3,k3,b3⟩:=O 28 _ (by decide) rfl;have d:∀{i:Nat} {r:DRow},(Rz++[Lr])[i]?=some r->i<26->r.kd=.n->Fd P w K mg base 29 (r.nm,r.ps.length) r.F:=λe hi hk=>vg (dd _ _ hi e) hk (by omega);have A1:Fc P w K mg base 26 ("_law_told_enter",5) (spTe eI K HC CC):=⟨f1,EW,_,26,ah _,wm0 (s:=Hl.te) t ⟨_,Aj.ex⟩ (fC nQ (i:=26) rfl) (a2:=.cons hm.en .nil) (kf:=.inr ⟨rfl,by decide⟩) (run:=by rintro _ _ _ _ _ zq ⟨x,A,h,n,vc,s,vw,w,vm,a,b,r,B,rfl,th,ok,hb,rc,rw',rm,im,hg,hc,hla,q⟩;exact zq rfl (zpa rfl th ok hb rc rw' rm im hg hc hla q)),m1,k1,b1⟩;have A2:Fc P w K mg base 27 ("_law_enter",6) (spEl eI K):=⟨f2,uV,_,27,ah _,wm0 (s:=L2k.el) t ⟨_,uj.ex⟩ (fC nQ (i:=27) rfl) (a0:=.cons (vg (dd 21 _ (by decide) rfl) rfl (by decide)) (.cons (vg (dd 24 _ (by decide) rfl) rfl (by decide)) (.cons (vg (dd 25 _ (by decide) rfl) rfl (by decide)) .nil))) (run:=by rintro _ _ _ _ _ zq ⟨vr,a,n,vc,vw,vm,ds,fs,h,rs,s,w,p,B,rfl,nd,es,ok,hb,tl,rr,rc,rw',rm,hp,hc,hB,q⟩;exact zq rfl (zqq rfl rfl yn nd es ok hb tl rr rc rw' rm hp hc hB q)),m2,k2,b2⟩;have A3:Fc P w K mg base 27 ("_law_look_good",5) (spLg eI K HC CC):=⟨f3,EX,_,27,ah _,wm0 (s:=L2k.lg) t ⟨_,Ak.ex⟩ (fC nQ (i:=28) rfl) (a0:=.cons (vg (dd 9 _ (by decide) rfl) rfl (by decide)) (.cons (vg (dd 25 _ (by decide) rfl) rfl (by decide)) .nil)) (a2:=.cons (hm.bk.up (by decide)) .nil) (a4:=.cons (hm.st.up (by decide)) .nil) (run:=by rintro _ _ _ _ _ zq ⟨x,A,a,ds,fs,h,vr,rs,vc,s,vw,w,B,rfl,nd,es,th,ok,hb,tl,rr,rc,rw',hc,q⟩;exact zq rfl (zpe rfl rfl rfl rfl nd es th ok hb tl rr rc rw' hc q)),m3,k3,b3⟩
 let sp:Sp:=λvs H Q _=>∃(v0:V) (xs:List Int) (B:Ad->Prop),vs=[v0]/\Rep K H B v0 (.list (xs.map PyData.int))/\xs.length<=63/\∀H',Same H H'->Q (.bl true) H'
 have F8:FX P w K mg base 30 f fd ["_law_script"] sp:=wm0 (s:=L2k.la) t ⟨_,Fl.ex⟩ (fC nQ (i:=29) rfl) (a0:=.cons (d (i:=8) rfl (by decide) rfl) (.cons (d (i:=13) rfl (by decide) rfl) (.cons (d (i:=18) rfl (by decide) rfl) (.cons (d (i:=23) rfl (by decide) rfl) (.cons (d (i:=11) rfl (by decide) rfl) (.cons (d (i:=12) rfl (by decide) rfl) (.cons (d (i:=9) rfl (by decide) rfl) (.cons (d (i:=22) rfl (by decide) rfl) .nil)))))))) (a1:=.cons (A1.up (by decide)) (.cons (A2.up (by decide)) (.cons (A3.up (by decide)) .nil))) (a2:=.cons (hm.ro.up (by decide)) .nil) (a3:=.cons (c5.up (by decide)) (.cons (hm.Ah.up (by decide)) .nil)) (a4:=.cons (hm.st.up (by decide)) .nil) (run:=by rintro _ _ _ _ _ zq ⟨v0,xs,B,rfl,r0,hl,q⟩;exact zq rfl (znp (φ:=eI) rfl rfl yn rfl rfl rfl rfl rfl rfl rfl hl r0 q));refine Vx F8 λvs H Q E ⟨A,ds,x,h1,h2,h3,q⟩=>?_;unfold yz at h3;split at h3
 ·rename_i ys;split at h3
  ·rename_i hc;rw[au,decide_eq_true_eq]at hc;cases h3;obtain⟨xs,rfl⟩:=jV hc.1;obtain⟨v,t,rfl,r0,hr⟩:=h2;have:t=[]:=hr;subst this;exact⟨v,xs,A,rfl,r0,by rw[am]at hc;exact hc.2,λH' s=>q (.bl true) H' s rfl⟩
  ·cases h3
 ·cases h3
end
section
variable {w:World}{K:W.Frag}{mg:Str->Option Value}{CC HC:Addr}
theorem all42 {l:W.OpenLaw}(X:K.In h)(G:h.Ns bp mg)(j:mg "law"=some (.ref fa))(C:kOks K Rz)(E:∃f fd,Kf K Lr f fd)(F:∀n∈FREE,W.nsIn K bp n=some none)(k:kxs K Xt)(XN:∃A D f fd,XAt K xN A D f fd)(CA:ClsAt K CrC CC)(HA:ClsAt K CrH HC)(HD:∀m∈MdH,∃T f fd,FunD K m.1 ("House"++"."++m.1) m.2 T f fd/\Meth K HC m.1 f):
  ∃fd,(∀s v,oo s fd ⟨[v],[]⟩ [("_law_script",v)])/\∀base,K.In base->base.Ns bp mg->FnOk l.prog w K mg base lS 30 fa fd ["_law_script"] (spD K 1 yz):=by
 obtain⟨f,fd,a,oc,od,an,sl,kV,dc,u,cd,ct,rfl,o,p,q⟩:=E;have e:=j.symm.trans (W.mg_of X G a);cases e;have T:=λn hn=>W.mg_none_of X G (F n hn);refine⟨W.fnOf "law" "law" (z0p (top 49)) (z0f (top 49)) (z08 (top 49)) .none kV dc u an cd ct,λs v=>.of_eq rfl,λbase _ _=>?_⟩;have O:∀i r,i<29->(Rz++[Lr])[i]?=some r->Own K mg r.nm r.st r.ps:=λi r g e=>by rw[cy g]at e;obtain⟨⟨f,fd,a,oc,od,an,sl,kV,dc,u,cd,ct,rfl,o,p,q⟩,H⟩:=Ii C e;exact zsk X G a o p q H
 have xk:∀b,b.sub=(Xt.map XR.subs).flatten->b.rs=Xt.map (·.c)->(b.gQ=Xt.map λr=>(r.c,r.B))->rN b K mg:=λb I J L=>Q6 X G k (λ_=>T "ValueError" (by decide)) I J L;have d:((Rz++[Lr]).all λr=>r.kc.isEmpty)=true:=rfl;have t:∀r∈Rz++[Lr],∀y∈r.kc,Dd K mg y:=λr hr y z=>by have:=bx.mp d r hr;rw[kb.mp this]at z;cases z
 exact E7 ⟨T,λx v e=>W.mg_of X G e,xk,XN,CA,HA,HD⟩ (λi r g e=>Q8 nQ UU T xk 26 t (λi r g e=>O i r (by omega) e) i r g e) O (Bb o p q)
end
def um:DefRec:=⟨"law",z0p (top 49),z0f (top 49),z08 (top 49),⟨274,0,301,76⟩⟩
theorem Am:KEq qL (Rz++[Lr]) FREE Xt:=by
 rw[PySem.W.Fast.tkeq_eq];intro P
 kernel_rfl
theorem Vz:Tp.said PySem.Challenge.rw_likebook_k42_rulings_entered=true:=by
 rw[PySem.W.Fast.tsaid_eq]
 kernel_rfl
theorem VA:W.opening lM=W.plainProg lM.main.scope.names:=by kernel_rfl
theorem VB:∀s,fenceModules? lM s=some s:=λs=>by kernel_rfl
theorem VC:W.defOf vi PySem.Challenge.rw_likebook_k42_rulings_entered.row.name=some (um,[]):=by kernel_rfl
theorem VD:lM.theDef PySem.Challenge.rw_likebook_k42_rulings_entered.row.name=some (um.params,um.body,um.scope):=by kernel_rfl
theorem VE:W.kwWritten? um.params.kwonlyargs um.params.kw_defaults=some []:=by kernel_rfl
theorem VF:(!PySem.Challenge.rw_likebook_k42_rulings_entered.row.writes||PySem.Challenge.rw_likebook_k42_rulings_entered.row.records.isEmpty)=true:=by kernel_rfl
theorem VG:(W.chainsOk vi&&W.opensWell lM&&(W.frees PySem.Challenge.rw_likebook_k42_rulings_entered.row.toRowW&&PySem.Challenge.rw_likebook_k42_rulings_entered.row.within.isEmpty))=true:=by kernel_rfl
theorem walk {l:W.OpenLaw}{K:d8->W.Frag}(hn:l.most=some 63)(b:d.params.defaults=[])
  (c:∀w h,e w h->(K w.params).In h)
  (F:∀w mg fa h,(K w.params).In h->h.Ns bp mg->mg d.name=some (.ref fa)->∃fd,(∀s u,oo s fd ⟨[u],[]⟩ [("_law_script",u)])/\∀base,(K w.params).In base->base.Ns bp mg->FnOk l.prog w (K w.params) mg base lS 30 fa fd ["_law_script"] (spD (K w.params) 1 yz)):
  W.WalkO q loose k e l.row.toRowW d [] (λf g=>PySem.call f g):=
 L2.walk_of hn dc b ⟨rfl,by decide,by decide⟩ c F (λ_ _ a ns i _ j=>⟨_,_,_,rfl,Q5 j,Vy i,λv m _ r=>r⟩) λ_ _ _ _ _ z=>z
theorem VH:KCq qL CrC:=by
 rw[PySem.W.Fast.tkcq_eq];intro P
 kernel_rfl
theorem VI:KCq qL CrH:=by
 rw[PySem.W.Fast.tkcq_eq];intro P
 kernel_rfl
theorem VJ:KDq qL "House" MdH:=by
 rw[PySem.W.Fast.tkdq_eq];intro P
 kernel_rfl
theorem VL:KXq qL [xN] []:=by
 intro P
 kernel_rfl
theorem E8:tT Rz:=⟨λ_ _ _ _ _ _=>dX λ_ _=>rfl,λ_ _ _ _ _ _=>dX λ_ _=>rfl,λ_ _ _ _ _ _=>zr λ_=>rfl,λ_ _ _ _ _ _=>dX λ_ _=>rfl,λ_ _ _ _ _ _=>pL λ_ _ _=>rfl,λ_ _ _ _ _ _=>dX λ_ _=>rfl,λ_ _ _ _ _ _=>dX λ_ _=>rfl,λ_ _ _ _ _ _=>dX λ_ _=>rfl,λ_ _ _ _ _ _=>dX λ_ _=>rfl,λ_ _ _ _ _ _=>zr λ_=>rfl,λ_ _ _ _ _ _=>dX λ_ _=>rfl,λ_ _ _ _ _ _=>pL λ_ _ _=>rfl,λ_ _ _ _ _ _=>dX λ_ _=>rfl,λ_ _ _ _ _ _=>dX λ_ _=>rfl,λ_ _ _ _ _ _=>dX λ_ _=>rfl,λ_ _ _ _ _ _=>by4 λ_ _ _ _=>rfl,λ_ _ _ _ _ _=>dX λ_ _=>rfl,λ_ _ _ _ _ _=>dX λ_ _=>rfl,λ_ _ _ _ _ _=>dX λ_ _=>rfl,λ_ _ _ _ _ _=>by4 λ_ _ _ _=>rfl,λ_ _ _ _ _ _=>dX λ_ _=>rfl,λ_ _ _ _ _ _=>dX λ_ _=>rfl,λ_ _ _ _ _ _=>pL λ_ _ _=>rfl,λ_ _ _ _ _ _=>dX λ_ _=>rfl,λ_ _ _ _ _ _=>dX λ_ _=>rfl,λ_ _ _ _ _ _=>by4 λ_ _ _ _=>rfl,λ_ _ _ _ _ _=>Df λ_ _ _ _ _=>rfl,λ_ _ _ _ _ _=>Ih λ_ _ _ _ _ _=>rfl,λ_ _ _ _ _ _=>Df λ_ _ _ _ _=>rfl,trivial⟩
end Mk
open PySem PySem.W PyProof.Rows Mi
set_option maxRecDepth 100000 in
set_option maxHeartbeats 0 in
theorem PySem.Challenge.cw_likebook_k42_rulings_entered_holds : PySem.Challenge.rw_likebook_k42_rulings_entered.Holds := by
 refine Tp.holds (l:=PySem.Challenge.rw_likebook_k42_rulings_entered) (q:=Mk.vi) (d:=Mk.um) (K:=Mk.qL) (M:=100000) (N:=200000) Mk.Vz (Tp.vh _ _ Mk.yA) Mk.VA rfl Mk.VB (by decide) Mk.Lh Mk.Li Mk.VC Mk.VD Mk.VE Mk.VF Mk.VG ⟨rfl,rfl,rfl,rfl,rfl,by decide+kernel⟩ (by w_witness2) ?_;refine Mk.walk (l:=PySem.Challenge.rw_likebook_k42_rulings_entered) rfl rfl (λw h Y=>Y) ?_;intro w mg fa h KX G VM;obtain⟨CC,CA⟩:=Jq Mk.VH w.params;obtain⟨HC,HA⟩:=Jq Mk.VI w.params;exact Mk.all42 (CC:=CC) (HC:=HC) KX G VM (Io (λr hr=>(zt Mk.Am w.params).1 r (ee _ hr)) Mk.E8) ((zt Mk.Am w.params).1 Mk.Lr (bo _ (.head _))) (zt Mk.Am w.params).2.1 (zt Mk.Am w.params).2.2.1 ((SE Mk.VL w.params).1 _ (.head _)) CA HA (SG Mk.VJ w.params HA.ns)
