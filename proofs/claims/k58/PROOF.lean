import PyProof.Rows.All
import Wide.All
import OpenK.AllK
import PySem.Challenge.RW_likebook_k58_whole_any_words
open Option renaming some->Y,none->Z8
open PySem.W renaming Frag->Z5,findIn->Z4,looks_findIn->Z3,keepIn->Z2,kia_one->Z1,nsIn->Z0,subIn->ZZ
open PySem.PyData renaming strOk->ZY,str->ZX,list->ZW,tuple->ZV,int->ZU,canLay0->ZT,bool->ZS
open PySem.Value renaming ref->ZR
open Bool renaming true->J,false->Z6
open Lean Parser Command in
local macro_rules
|`(def $a:declId $b:optDeclSig :=by $t)=>do
  let s:TSyntax ``declSig:=⟨mkNode ``declSig #[b.raw[0],b.raw[1][0]]⟩;`(theorem $a:declId $s:declSig :=by $t)
|`(def $a:declId $b:optDeclSig $c:declVal)=>`(noncomputable def $a:declId $b:optDeclSig $c:declVal)|`(abbrev $a:declId $b:optDeclSig $c:declVal)=>`(noncomputable abbrev $a:declId $b:optDeclSig $c:declVal)
local macro_rules(kind:=«term{_}»)|`({$x,*})=>`(⟨$x,*⟩)
set_option hygiene false in
open Lean in
local macro_rules|`(universe $z*)=>do
 let q x:=mkIdent (.mkSimple x)
 let mut r:=#[]
 for x in z do
  let mut b:=#[]
  let mut s:Array (Bool×Ident×Term):=#[]
  let mut v:Array (Ident×Ident):=#[]
  for c in x.getId.toString.toList.drop 1++['h'] do
   let P:=q s!"P{s.size}"
   let y:=q s!"{c}{if c=='h' then 0 else s.size}"
   let mut t←`(Sort _)
   if c=='e' then v:=v.push (y,P);s:=s.push (true,y,P)
   else
    t←v.foldrM (λ x t=>`($(x.2)→$t)) (←`(Prop))
    s:=s.push (false,y,←`($P $(v.map (·.1))*))
   b:=b.push (←`(Parser.Term.bracketedBinderF|{$P : $t}))
  let mut T:=s.back!.2.2
  let mut K←`($T→G)
  let mut f←`(k $(s.map (·.2.1))*)
  for (e,w,t) in s.pop.reverse do
   f←`(h0.elim λ$w h0=>$f)
   if e then T←`(∃$w:ident,$T);K←`(∀$w:ident,$K) else T←`($t∧$T);K←`($t→$K)
  r:=r.push (←`(theorem $x {G:Prop} $b* (h0 : $T) (k : $K) : G:=$f))
 return mkNullNode r
universe ζea ζe ζa ζeeaa ζeaa ζaa ζeea ζaaa ζeeaaa ζeeeaa ζee ζaaaa ζeeeaaaa ζaaea ζeeeaaa ζaea ζeeeeaa ζaaaaa ζaeea ζeeea ζeaae ζeee ζeeeeeaaaaa ζeeeea ζeeeeeaaa ζeeeeeeeeaaaa ζeaaa ζeaaaa ζaeae ζeeee ζeeeeaaaaa ζeae ζeeeeeee ζeeeeeeaaaaa ζeeeeeeaaaa ζeeeeaaaaaa
theorem ζs {α:Type _} {a b:α} (h:some a=some b):a=b:=Option.some.inj h
local macro_rules|`(tactic|ext $x:ident)=>`(tactic|first|subst ($x : _=_)|(replace $x:ident:=ζs $x;subst $x)|(injection $x;done)|(injection $x with h;subst h)|(injection $x with h θ;subst h;subst θ)|cases $x:ident)
local macro_rules|`(tactic|omega)=>`(tactic|first|lia|omega (splitDisjunctions:=true))
open Lean Parser Tactic in
local macro_rules|`(tactic|let $p:term:=$e)=>do
  let lo x:=mkNode ``rcasesPatLo #[mkNode ``rcasesPatMed #[mkNullNode #[x]],mkNullNode]
  let r:=p.raw.rewriteBottomUp fun s=>match s with
   |.ident ..=>lo (mkNode ``rcasesPat.one #[s])
   |.node _ k a=>if k==`«term{_}» then lo (mkNode ``rcasesPat.tuple #[mkAtom "⟨",a[1]!,mkAtom "⟩"]) else if k==``Term.hole then lo (mkNode ``rcasesPat.ignore a) else if k==choiceKind then (a.find? (·.isOfKind ``rcasesPatLo)).getD s else s
   |_=>s
  let mut t←`(tactic|obtain $(⟨r[0]⟩):rcasesPatMed:=$e)
  let i x:=mkIdent (.mkSimple x)
  let x:=(if p.raw.getKind==choiceKind then (p.raw.getArgs.find? (·.getKind==`«term{_}»)).getD p else p)[1].getSepArgs
  let n:=x.size-1
  let mut ys:Array Term:=#[]
  let mut zs:=#[]
  for x in x do
   let y:=i s!"θ{zs.size}"
   if x.getId==`rfl then ys:=ys.push y;zs:=zs.push (←`(tactic|subst $y))
   else if x.isIdent||x.getKind==``Term.hole then ys:=ys.push ⟨x⟩
   else ys:=ys.push y;zs:=zs.push (←`(tactic|let $(⟨x⟩):term:=$y))
  for w in ["aaea","aea","aeea","eaae","aeae","eae"].filter (·.length==n)++(List.range (n+1)).map λk=>("".pushn 'e' k).pushn 'a' (n-k) do
   let f:=i ("ζ"++w)
   let mut s←if e.raw.isIdent then `(tactic|(revert $(⟨e⟩):ident;refine λt=>$f t λ$ys* =>?_;clear t)) else `(tactic|refine $f $e λ$ys* =>?_)
   for z in zs do s←`(tactic|($s:tactic;$z:tactic))
   t←`(tactic|first|($s:tactic)|($t:tactic))
  return t
noncomputable section
open Array renaming length_toList->dv,getElem?_eq_some_iff->ge,all_toList->j7,toArray_toList->km,getElem?_eq_getElem->lq,getElem?_toList->mx,toList_append->oa,append_assoc->oo,find?_toList->ow
open Bool renaming and_eq_true->aj,and_eq_true_iff->av,false_ne_true->di,or_eq_true_iff->fq,eq_iff_iff->i3,beq_eq_decide_eq->j5,not_eq_true'->lr,or_false->lx,or_true->mo,or_eq_true->mv,or_eq_false_iff->nn,eq_false_iff->pj
open Char renaming toNat->qm
open Int renaming toNat_natCast->dh,eq_ofNat_of_zero_le->fk,emod_nonneg->i4,emod_lt_of_pos->ll
open List renaming getD_eq_getElem?_getD->ah,mem_singleton->ai,mem_cons->ak,length_map->am,mem_cons_of_mem->ao,mem_cons_self->ar,length_append->ax,length_cons->ay,getElem?_eq_some_iff->az,all_eq_true->bc,mem_append->bg,getElem?_eq_getElem->bn,mem_append_right->bp,replicate->bq,size_toArray->br,map_cons->bu,getElem?_map->bv,getElem?_set_ne->bw,append_nil->b7,all_cons->b8,getElem?_set_self->ce,mem_map->ci,contains_iff_mem->cj,mem_append_left->cq,map_append->cr,getElem?_replicate->cu,filterMap_cons->cv,length_set->cw,length_replicate->cz,lookup_cons->db,map_inj_left->de,length_drop->df,mem_of_getElem?->dg,length_range->dk,getElem?_set->dm,eq_nil_of_length_eq_zero->dq,find?_cons->dt,length_take->du,map_map->dw,range->dz,mem_range->ef,getElem?_append_left->eo,drop_eq_getElem_cons->et,mem_of_mem_drop->ez,mem_of_mem_take->e8,getElem?_cons_succ->fj,filter_eq_self->fv,getElem?_eq_none->gh,length->gq,any_cons->gu,length_reverse->gw,not_mem_nil->gz,drop_eq_nil_of_le->iu,nodup_cons->iz,dropLast_concat_getLast->i5,append_assoc->jb,nodup_append->jc,getElem?_append_right->jf,getElem_mem->jj,drop_length->jk,lookup->jq,length_eq_zero_iff->jt,take_of_length_le->j1,drop_drop->j3,any_eq_true->j9,getElem?_append->ko,length_pos_iff->ky,mem_filterMap->la,getElem?_drop->lc,contains_cons->lh,getElem?_eq_none_iff->ln,ext_getElem?->ls,filterMap_cons_none->lz,filterMap_cons_some->l4,append_cancel_right->l5,all_map->ml,of_mem_zip->mr,dropLast_eq_take->my,length_dropLast->m9,map_id->nj,drop_left->nk,map_congr_left->ny,Pairwise->om,sum_cons->on,take_sublist->pb,flatten_cons->pp,set_set->pw,pairwise_map->p5
open List.Pairwise renaming imp_of_mem->l6
open Nat renaming le_refl->ag,le_trans->bj,lt_of_lt_of_le->bx,ne_of_lt->cg,lt_irrefl->c8,zero_le->c9,succ_le_succ->ee,le_of_succ_le_succ->ek,le_of_lt->gm,le_add_right->ig,le_succ->ij,min_eq_left->i6,lt_succ_self->j6,lt_trans->k6,repr_eq_ofList_toDigits->k8,toDigits->k9,lt_of_le_of_lt->lj,ne_of_gt->mh,one_lt_two->ni,add_sub_cancel'->nv,add_le_add_left->n9,le_of_eq->o7,lt_or_ge->p3,le_succ_of_le->p4,le_zero->qc,not_lt->qk
open Option renaming map_eq_some_iff->c7,isNone_iff_eq_none->eu,bind_eq_some_iff->jv,isSome_map->jz
open Prod renaming fst->py,snd->ql
open PyProof.Rows renaming AllBare->kz,subscriptTail_builtinR->mj,size_push'->mn,envOfC->m7,Constant_none->og,IntsAre->qe
open PySem renaming Str->U,wpAny_bind->aa,PyData->ae,Shared->aq,wpAny_pure->au,sizeLine->aw,mainGlobals->bh,wpAny_loadPart_at->bz,Program->b9,sizeLine_eq->cf,compareOp->cn,starEach->cx,bootBuiltins->cy,wpAny_field->dj,behindInMarks->d5,FuncData->d6,wpAny_truthy_bool->d8,wpAny_setField_rec->d9,Around->eh,Params->en,PassesOwn->e9,foldedSetIterable->fh,wpAny_callSpecial?_slot->fi,assignEach->fo,wpAny_holding->fz,binaryOp->f8,wpAny_Call_Name_kw->f9,NameKind->gb,wpAny_seqItems->gc,wpAny_passesOwn->gk,wpAny_newObj_type->gr,wpAny_isSubtype_exc->gv,wpAny_call_entry->gx,wpAny_getItem_str_slice->gy,sysModules->ik,wpAny_mono->il,tupleKind_room_in1->ip,letOwnedTupleGo->iw,attributeBase->i7,wpAny_standAt->i8,noteFrame->i9,backTo->ja,codeAny_call_builtin->jg,swapsWith->jh,codeAny_mono->ji,rawInt->jl,importedModules->jn,Paired->jo,call_meets->jp,sliceBounds->jr,setFlight->ju,treeTable->jw,wpAny_pyIter_list->jx,codeAny->jy,wpAny_setField->j2,plainObj_wpAny_Assign_Attribute->j4,checkBuiltinCall->j8,wpAny_onRaise->kb,OsState->ke,keywordEach->ki,unbindBehindTheSuite->kq,wpAny_execs_nil->kr,post_val_or_str->ku,Keyword->k4,typeIs_str->lb,wpAny_rule->lg,excClassObj->lu,wpAny_comprehension_free->ly,tupleKind->l7,lastMarks->l9,noFill_tuple_add->mf,concat_meets->mi,wpAny_isTrue_Compare1->mw,wpAny_loadName_local->mz,backToKw->m6,sliceRange_one->m8,Operator->nc,handleBy->nh,BindsTo->nq,OwnTail->nr,wpAny_raiseNew_none->n8,swapsWithSole->oh,swappedStores->oj,seq_tuple_add->ol,wpAny_Name->oq,assign->ou,wpAny_call->oy,IsPart->oz,wpAny_pyIter_tuple->o0,isInstance->o5,wpAny_assign_Name->o6,valueAt->pc,getItem->pd,call_meetsIn->pe,seqIndex_neg->pf,slot_list_getitem->ph,callerA->pi,wpAny_pyIter_enum->pr,GenState->pv,isTrue->p6,pyNext->p7,pyIter->p8,seqIndex_of->p9,wpAny_letGo->qa,builtinKind->qb,leaving->qd,builtinsNs->qf,wpAny_load->qg,bindArgs->qh,PlainAttrs->qi,excMatches->qj,getAttr->qo,typeOf->qp
open PySem.Builtin.Slice renaming slicePlaces->gj,sliceAdjust->lm
open PySem.Builtin.SmallTypes renaming ownedTupleIsFree->jm,nextOf->lp
open PySem.Builtin.Str renaming occurrences->ec,strSliceIndices->fy,strKind->nz
open PySem.Calls renaming Name_function_global->jd,callWith_builtin->j0,evalArgs_plain->kj,loadGlobal_global->l8,spliced_cons->ox,spliced_nil->o9
open PySem.Heap renaming get?_push_of_some->af,get?_push_size->ba,lt_size->bb,SameBut->cc,get?_update_other->ej,get?_update_self->ey,get?_none_of_le->gp,get?_update_ne->kx,MadeExcOf->li,get?_push_at->lw,size_push->m5
open PySem.Heap.Ns1 renaming of_empty->o8
open PySem.Heap.SameBut renaming update->n7
open String renaming toList_ofList->nl
set_option Elab.async false
set_option genInjectivity false
set_option genSizeOf false
set_option compiler.extract_closed false
set_option linter.all false
set_option maxRecDepth 100000
set_option hygiene false in
local macro_rules|`($x[_])=>`(.list ($(x).map .str))|`($x[()])=>`(.list ($(x).map .int))|`($x[?_])=>`($(x).heap.objs.size)|`($x[[]])=>`($(x).cps.toList)|`($x[!$y])=>`($(x).env.scope.names.lookup $y)|`($x['a'])=>`(wpAny (model $(x).prog $(x).w) $(x).A)|`($x['b'])=>`(wpAny (model prog $x) A)
set_option hygiene false in
local macro_rules|`($f^^^$g $a*)=>`($f x dx wl kd sl n ws ks $g $a*)|`($f^^^$g)=>`($f x dx wl kd sl n ws ks $g)
local macro_rules|`(tactic|exists $x)=>`(tactic|with_reducible refine $x)
theorem Z' {p:Prop}(h:p:=by decide+kernel):p:=h
def dc {p:Prop} [Decidable p] (h:decide p=true:=by rfl):p:=by simpa using h
theorem ZQ {p:Prop}(h:p:=by omega):p:=h
theorem ZP {p:Prop}(h:p:=by decide):p:=h
theorem ZO {p:Prop}(h:p:=by simp):p:=h
theorem qq {c:Prop}{d:Decidable c}(h:c){α:Sort _}{a b:α}:@ite α c d a b=a:=if_pos h
theorem qr {c:Prop}{d:Decidable c}(h:¬c){α:Sort _}{a b:α}:@ite α c d a b=b:=if_neg h
theorem qt {α}{a b:α}(h:Y a=Y b):a=b:=Option.some.inj h
theorem qu {α β}{a c:α}{b d:β}(h:(a,b)=(c,d)):a=c∧b=d:=Prod.mk.inj h
theorem qv {a:Prop}(h:¬¬a):a:=Classical.not_not.mp h
theorem qw {p:Prop} [Decidable p] (h:decide p=J):p:=of_decide_eq_true h
theorem qx {p:Prop} [Decidable p] (h:p):decide p=true:=decide_eq_true h
theorem qy {p:Prop} [Decidable p] (h:¬p):decide p=false:=decide_eq_false h
theorem q8 {α} [BEq α] [LawfulBEq α] {a b:α}(h:(a==b)=J):a=b:=beq_iff_eq.mp h
abbrev Xf (x:PySem.Str):Prop:=(x==("__debug__":PySem.Str))=Z6
namespace Tp
open PySem PySem.W PyProof.Rows
def q0:Pos:={(0),0,0,0}
def an:Option Value:=Y (.ref 6)
def ev (p:b9):Env:={scope:=p.main.scope,locals:=mainNs,globals:=mainNs,cells:=[],code:=.ref 13,frame:=Y 14}
def cd (p:b9):Code:=.body (behindTheImports p) (ev p)
def grow:List Obj->Nat->BT->BT
 | [],_,t=>t
 |o::l,i,t=>grow l (i+1) (t.ins i o)
def lift (s:aq):SharedT:={grow s.heap.objs.toList 0 .nil,s[?_],s.heap.life,s.gens,s.drawn,s.toks,s.os}
def pre (p:b9)(H:en->Heap)(d:Drawn)(k:Nat)(w:World)(os:ke):Option (aq×Thread):=topGo jw p w 11 an 12 {H w.params,#[],d,k,os} (topStub p)
def pV (p:b9)(H:en->Heap)(d:Drawn)(k:Nat)(w:World)(os:ke):SharedT:=lift (((pre p H d k w os).map py).getD {H w.params,#[],d,k,os})
def run (p:b9)(H:en->Heap)(d:Drawn)(k N:Nat)(w:World)(os:ke):Option (Flow×SharedT×Code×Pos):=segRunT jw p w 11 an 1 N (pV p H d k w os) (piecesOf (behindTheImports p) (ev p) (cd p) q0 [topFrame q0])
def PreEq (p:b9)(H:en->Heap)(d:Drawn)(k:Nat):Prop:=∀(w:World) (os:ke),((H w.params).isNs bh&&(#[]:Array pv).size==0,(H w.params).objs.size,(H w.params).nsMap bh "__annotations__",pre p H d k w os,λs c=>segRun jw p w 11 an 1 1 s<|blockOf (behindTheImports p) (ev p) c q0 [topFrame q0])=(J,11,an,Y ((pV p H d k w os).abs,{denote jw<|cd p,cd p,q0,[topFrame q0]}),λs c=>Y (.next,s,c,q0))
def seen (p q:b9)(R:WRecords)(as:List Addr)(H:en->Heap)(w:World)(s:SharedT):=(staticsOk (jn p.main.body) (H w.params) s.abs.heap&&namesBound p s.abs.heap&&gensDone s.abs&&laidKept (H w.params) s.abs.heap,openSeen q [] (jn p.main.body) (λs=>xlAt q [] s&&recOk R s) J s.abs,as.map s.abs.heap.get?)
def pick {α:Type}(f:SharedT->α):Flow×SharedT×Code×Pos->Option (Code×α)
 |(.next,s,c,_)=>Y (c,f s)
 |_=>Z8
def kQ (p q:b9)(R:WRecords)(as:List Addr)(K:en->List (Addr×Obj))(H:en->Heap)(d:Drawn)(k N:Nat):Prop:=∀(w:World) (os:ke),(run p H d k N w os).bind (pick<|seen p q R as H w)=Y (cd p,J,openGood q [],(K w.params).map λx=>Y x.2)
def Bd (b:String->Option Builtin)(p:b9)(w:World)(n:Nat)(a:Option Value)(s:aq)(c:Code)(ps q:Pos):topRun b p w n a 2 s {doneF .next,c,ps,[topFrame q]}=Y s:=by rfl
theorem left {K:en->List (Addr×Obj)}(o:∀w,(fencedOpening jw p w N).map (fun s=>(s.heap,s.gens,s.drawn,s.toks))=Y (boot_heap w.params,#[],boot_drawn,boot_toks))(le:12+(1+(M+2))<=N)
  (h1:PreEq p boot_heap boot_drawn boot_toks) (h2:kQ p q R as K boot_heap boot_drawn boot_toks M):LeftO p q [] (λs=>xlAt q [] s&&recOk R s) (λs=>as.map s.heap.get?) (λw=>(K w.params).map λx=>Y x.2) N:=λw=>by
 let{{h,gs,d,k,os},e,e'}:=c7.mp<|o w;have e1:=qu e';have e2:=qu e1.2;have e3:=qu e2.2;obtain rfl:h=boot_heap w.params:=e1.1;obtain rfl:gs=#[]:=e2.1;obtain rfl:d=boot_drawn:=e3.1;obtain rfl:k=boot_toks:=e3.2;have a:=qu<|h1 w os;have a2:=qu a.2;have a3:=qu a2.2;have a4:=qu a3.2;let{{f,s,c,ps},r1,r2}:=jv.mp<|h2 w os;cases f with
 |next=>
  have b:=qu<|qt r2;have b1:=qu b.2;have b2:=qu b1.2;obtain rfl:c=cd p:=b.1;have t1:topRun jw p w 11 an (M+2) (pV p boot_heap boot_drawn boot_toks w os).abs (restOf (behindTheImports p++[]) (ev p) (cd p) q0 [topFrame q0])=Y s.abs:=piece_app (segRun_of r1)<|Bd jw p w 11 an s.abs (cd p) ps q0;rw[b7]at t1;have t4:=topRun_mono (N-(12+(1+(M+2)))) _ _ _ _<|go_top a4.1<|piece_block (congrFun (congrFun a4.2 (pV p boot_heap boot_drawn boot_toks w os).abs)<|cd p) t1;rw[nv le]at t4;have t:topFrom jw p w N {boot_heap w.params,#[],boot_drawn,boot_toks,os}=Y s.abs:=by unfold topFrom;rw[a.1,a2.1,a3.1,t4];show(match staticsOk (jn p.main.body) (boot_heap w.params) s.abs.heap&&namesBound p s.abs.heap&&gensDone s.abs&&laidKept (boot_heap w.params) s.abs.heap with|true=>Y s.abs|false=>Z8)=_;rw[b1.1]
  unfold openEnds;rw[e];show(topFrom jw p w N _).map _=_;rw[t];exact congrArg Y (Prod.ext b2.1 b2.2)
 |_=>ext r2
theorem pre_r:PreEq=PreEq:=rfl
def Be (p q:b9)(R:WRecords)(H:en->Heap)(w:World)(s:SharedT):=(staticsOk (jn p.main.body) (H w.params) s.abs.heap&&namesBound p s.abs.heap&&gensDone s.abs&&laidKept (H w.params) s.abs.heap,openSeen q [] (jn p.main.body) (λs=>xlAt q [] s&&recOk R s) J s.abs)
def RunA (p q:b9)(R:WRecords)(H:en->Heap)(d:Drawn)(k N:Nat):Prop:=∀(w:World) (os:ke),(run p H d k N w os).bind (pick<|Be p q R H w)=Y (cd p,J,openGood q [])
def RunB (p:b9)(as:List Addr)(K:en->List (Addr×Obj))(H:en->Heap)(d:Drawn)(k N:Nat):Prop:=∀(w:World) (os:ke),(run p H d k N w os).bind (pick λs=>as.map s.abs.heap.get?)=Y (cd p,(K w.params).map λx=>Y x.2)
def LZ {e h:Type}{f:SharedT->e}{g:SharedT->h}{x:Option<|Flow×SharedT×Code×Pos}{a:e}{b:h}(d:x.bind (pick f)=Y (c,a))(j:x.bind (pick g)=Y (c,b)):x.bind (pick λs=>(f s,g s))=Y (c,a,b):=by
 cases x with
 |none=>ext d
 |some y=>
  let{fl,s,k,ps}:=y;cases fl with
  |next=>have i:=qu<|qt d;show Y (k,f s,g s)=_;rw[i.1,i.2,(qu<|qt j).2]
  |_=>ext d
theorem sN {K:en->List (Addr×Obj)}(c:RunA p q R H d k N)(f:RunB p as K H d k N):kQ p q R as K H d k N:=λw os=>by
 have h:=LZ (c w os)<|f w os;cases e:run p H d k N w os with
 |none=>rw[e]at h;ext h
 |some y=>
  rw[e]at h;let{fl,s,g,ps}:=y;cases fl with
  |next=>have a:=qu<|qt h;have b:=qu a.2;show Y (g,(Be p q R H w s).1,(Be p q R H w s).2,as.map s.abs.heap.get?)=_;rw[a.1,b.2,b.1]
  |_=>ext h
theorem runA_r:RunA=RunA:=rfl
theorem runB_r:RunB=RunB:=rfl
end Tp
lay_quick Tp.PreEq Tp.RunA Tp.RunB
name_quick tpre for Tp.PreEq by Tp.pre_r
name_quick truna for Tp.RunA by Tp.runA_r
name_quick trunb for Tp.RunB by Tp.runB_r
namespace Tp
open PySem PySem.W PyProof.Rows
theorem rn_r:run=run:=rfl
end Tp
name_quick trn for Tp.run by Tp.rn_r
namespace Tp
open PySem PySem.W PyProof.Rows
def obj (p:b9)(M:Nat)(P:en)(a:Addr):Obj:=((PySem.W.Fast.trn p boot_heap boot_drawn boot_toks M {λ_ _=>0,P} default).map λx=>(x.2.1.tree.get a).getD default).getD default
def Ko (p:b9)(M:Nat)(as:List Addr)(P:en):Frag:=as.map λa=>(a,obj p M P a)
def vK (p:b9)(M:Nat)(a:List Addr)(P:en):a=(Ko p M a P).map (·.1):=by unfold Ko;rw[dw];exact(nj _).symm
def said (l:OpenLaw):Bool:=l.wellSaid
theorem said_r:said=said:=rfl
theorem holds {K:en->Frag}(a:said l=J)(b:∀P,as=(K P).map (·.1))(c:opening l.row.prog=plainProg l.row.prog.main.scope.names)(g:Nat.ble 600 N=J)(h:∀s,fenceModules? l.row.prog s=Y s)(le:12+(1+(M+2))<=N)
  (i:PreEq l.row.prog boot_heap boot_drawn boot_toks) (j:kQ l.row.prog q l.row.records as K boot_heap boot_drawn boot_toks M) (a1:defOf q l.row.name=Y (d,[])) (a2:l.row.prog.theDef l.row.name=Y (d.params,d.body,d.scope)) (a3:kwWritten? d.params.kwonlyargs d.params.kw_defaults=Y []) (a4:(!l.row.writes||l.row.records.isEmpty)=J)
  (k:(chainsOk q&&opensWell l.row.prog&&(frees l.row.toRowW&&l.row.within.isEmpty))=J) (m:l.row.prog.bare) (n:l.row.toRowW.promised) (call:WalkO q [] (XL q []) (InK K) l.row.toRowW d [] λf o=>PySem.call f o):l.Holds:=
 holds_law a λz=>holds_open (left (boot_open c g h) le i j) (InK.of b) InK.keeps (λs e=>xl_of s (av.mp e).1) XL.keeps a1 a2 a3 (λs e=>recFacts_of (av.mp e).2) a4 z k m n call
end Tp
lay_quick Tp.said
name_quick tsaid for Tp.said by Tp.said_r
namespace Mk
open PySem PySem.Spec PyProof.Rows
abbrev nM:b9:=PySem.Challenge.rw_likebook_k58_whole_any_words.row.prog
def vL:b9:=W.view nM [1,2,3,4,5,6,7,8,9,10,11,12,13,15,16,18,20,21,22,23,24,25,26,27,28,29,30,31,32,33,34,36,37,38,39,40,41,42,43,44,45,46,47,48,49,50,51,52,53,54,55,56,57,58]
def za:List Addr:=dz 489
def uG:en->Z5:=Tp.Ko nM 100000 za
def L0:Tp.PreEq nM W.boot_heap W.boot_drawn W.boot_toks:=by
 intro w os
 kernel_rfl
def Bf:Tp.RunA nM vL PySem.Challenge.rw_likebook_k58_whole_any_words.row.records W.boot_heap W.boot_drawn W.boot_toks 100000:=by
 rw[PySem.W.Fast.truna_eq];intro w os
 kernel_rfl
def Bg:Tp.RunB nM za uG W.boot_heap W.boot_drawn W.boot_toks 100000:=by
 rw[PySem.W.Fast.trunb_eq];intro w os
 kernel_rfl
theorem L1:Tp.kQ nM vL PySem.Challenge.rw_likebook_k58_whole_any_words.row.records za uG W.boot_heap W.boot_drawn W.boot_toks 100000:=Tp.sN Bf Bg
end Mk
namespace L2
open PySem PySem.Spec PyProof.Rows
abbrev Key:=Sum Int U
def uH:Key->Value->Bool
 |.inl k,v=>Value.isInt k v
 |.inr x,v=>Value.isStrOf x v
def Bh (w:World):Key->Int
 |.inl k=>hashInt k
 |.inr x=>hashStr w x
theorem pW:∀{k:Key} {v:Value},uH k v=J->(∃i t,k=Sum.inl i/\v=Value.int i t)\/(∃x t,k=Sum.inr x/\v=Value.str x t)
 |.inl i,v,h=>by let{t,e}:=Value.isInt_shape h;exact .inl {(i),t,rfl,e}
 |.inr x,v,h=>by let{t,e}:=Value.isStrOf_shape h;exact .inr {(x),t,rfl,e}
def L3 (i:Int)(t:Tok):uH (.inl i) (.int i t)=true:=by simp[uH,Value.isInt]
def L4 (x:U)(t:Tok):uH (.inr x) (.str x t)=true:=by simp[uH,Value.isStrOf]
def L5 (a b:Int):decide ((Sum.inl a:Key)=Sum.inl b)=(a==b):=by grind
def L6 (a b:U):decide ((Sum.inr a:Key)=Sum.inr b)=decide (a=b):=by grind
theorem L7 (a:Int)(b:U):decide ((Sum.inl a:Key)=Sum.inr b)=false:=qy (λq=>nomatch q)
theorem L8 (a:U)(b:Int):decide ((Sum.inr a:Key)=Sum.inl b)=false:=qy (λq=>nomatch q)
def jO (prog:b9)(w:World):PySem.KeyKind prog w Key where
 is:=uH
 hash:=Bh w
 inj:=λv a b ha hb=>by
  rcases pW ha with⟨i,t,rfl,rfl⟩|⟨x,t,rfl,rfl⟩
  .rcases pW hb with⟨j,u,rfl,e⟩|⟨y,u,rfl,e⟩
   .injection e with e1 _;rw[e1]
   .exact nomatch e
  .rcases pW hb with⟨j,u,rfl,e⟩|⟨y,u,rfl,e⟩
   .exact nomatch e
   .injection e with e1 _;rw[e1]
 byValue:=λk v h=>by rcases pW h with⟨i,t,rfl,rfl⟩|⟨x,t,rfl,rfl⟩<;>rfl
 pyHash:=λhv h=>by
  rcases pW hv with⟨i,t,rfl,rfl⟩|⟨x,t,rfl,rfl⟩
  .exact wpAny_pyHash_int h
  .exact wpAny_pyHash_str h
 eqBool:=λhu hv h=>by
  rcases pW hu with⟨i,t,rfl,rfl⟩|⟨x,t,rfl,rfl⟩
  .rcases pW hv with⟨j,u,rfl,rfl⟩|⟨y,u,rfl,rfl⟩
   .rw[L5]at h;exact wpAny_eqBool_int h
   .rw[L7]at h;exact SeqAt.EqAt.int_str i t y u _ _ _ _ h
  .rcases pW hv with⟨j,u,rfl,rfl⟩|⟨y,u,rfl,rfl⟩
   .rw[L8]at h;exact SeqAt.EqAt.str_int x t j u _ _ _ _ h
   .rw[L6]at h;exact wpAny_eqBool_str h
 «strs»:=λk x t v h=>by
  rcases pW h with⟨i,u,rfl,e⟩|⟨y,u,rfl,e⟩
  .exact nomatch e
  .injection e with e1 _;subst e1;ext v<;>rfl
theorem L9 (prog:b9)(w:World)(i:Int)(t:Tok):(jO prog w).is (.inl i) (.int i t)=true:=L3 i t
theorem L' (prog:b9)(w:World)(x:U)(t:Tok):(jO prog w).is (.inr x) (.str x t)=true:=L4 x t
inductive V where
 |non|bl (b:Bool)|int (i:Int)|str (x:U)|ref (a:Addr)|ty (n:String)
 deriving DecidableEq
def RelV:V->Value->Prop
 |.non,u=>u=Value.none
 |.bl b,u=>u=Value.bool b
 |.int i,u=>∃t,u=Value.int i t
 |.str x,u=>∃t,u=Value.str x t
 |.ref a,u=>u=ZR a
 |.ty n,u=>u=Value.type n
abbrev Vals:List V->List Value->Prop:=jo RelV
theorem Vals.length (r:Vals xs us):xs.length=us.length:=Paired.length r
theorem Vals.get:∀{a:List V} {b:List Value} {i:Nat} {x:V},Vals a b->a[i]?=Y x->∃u,b[i]?=Y u/\RelV x u
 |_,_,_,_,.nil,e=>by simp at e
 |_,_,0,_,.cons r _,e=>by simp at e;subst e;exact{_,rfl,r}
 |_,_,i+1,x,.cons _ t,e=>by let{u,c,d}:=Vals.get t (by simpa using e);exact{u,by simpa using c,d}
theorem Vals.set (r:RelV x u):∀{a:List V} {b:List Value} i,Vals a b->Vals (a.set i x) (b.set i u)
 |_,_,_,.nil=>.nil
 |_,_,0,.cons _ t=>.cons r t
 |_,_,i+1,.cons q t=>.cons q (Vals.set r i t)
theorem Vals.append:∀{a b:List V} {c ws:List Value},Vals a c->Vals b ws->Vals (a++b) (c++ws)
 |_,_,_,_,.nil,s=>s
 |_,_,_,_,.cons r t,s=>.cons r (Vals.append t s)
theorem Vals.take:∀{xs:List V} {us:List Value} n,Vals xs us->Vals (xs.take n) (us.take n)
 |_,_,0,_=>.nil
 |_,_,_+1,.nil=>.nil
 |_,_,n+1,.cons r t=>.cons r (Vals.take n t)
theorem Vals.drop:∀{xs:List V} {us:List Value} n,Vals xs us->Vals (xs.drop n) (us.drop n)
 |_,_,0,r=>r
 |_,_,_+1,.nil=>.nil
 |_,_,n+1,.cons _ t=>Vals.drop n t
def cT:Option V->Option Value->Prop
 |some v,Y u=>RelV v u
 |none,Z8=>True
 |_,_=>False
def KV {κ:Type}:List (κ×V)->List (κ×Value)->Prop:=jo λ(p:κ×V) (q:κ×Value)=>p.1=q.1/\RelV p.2 q.2
def kV:Key->V
 |.inl i=>.int i
 |.inr x=>.str x
inductive HO where
 |lst (xs:List V)
 |tup (xs:List V)
 |dK (kvs:List<|Key×V)|dT (kvs:List<|List Key×V)
 |set (S:Int->Bool) (n:Nat)
 |ins (C dx:Addr) (fs:List<|U×V)
 |own (x:Addr)
 |xd (fs:List<|U×V)
 |gL (o:Obj) (u:HO)
 |nN (ps:Array Value)
 |ext (φ:Heap->Prop)
abbrev Hp:=Addr->Option HO
def upd (H:Hp)(a:Addr)(o:HO):Hp:=λb=>if b=a then Y o else H b
def bH:upd H a o a=Y o:=by unfold upd;rw[qq rfl]
def aK (h:b≠a):upd H a o b=H b:=by unfold upd;rw[qr h]
def Ma {H:Hp}(h:H a=Y o)(c:H b=Y u)(d:o≠u):a≠b:=by grind
def gY {H:Hp}(h:H a=Y o)(c:H b=Z8):a≠b:=by intro e;subst e;rw[h]at c;ext c
def iX (h:Heap)(a:Addr)(l:Array Value):Prop:=∃n,h.get? a=Y {cls:=.type "tuple",data:=.seq l n}
theorem iX.tup {h:Heap}{a:Addr}{l:Array Value}(x:iX h a l):IsTup h a l:=let⟨n,q⟩:=x;{_,q,rfl,n,rfl}
theorem iX.new (h:Heap)(l:Array Value):iX (h.push {cls:=.type "tuple",data:=.seq l}) h.objs.size l:={_,ba _ rfl}
section
variable (P:b9)(w:World)
def z1u (H:Hp)(h:Heap)(a:Addr):HO->Prop
 |.lst xs=>xs.length<=aw/\∃(dV:List Value) (n:Nat),Vals xs dV/\h.get? a=Y {cls:=.type "list",data:=.seq dV.toArray n}
 |.tup xs=>xs.length<=aw/\∃dV:List Value,Vals xs dV/\iX h a dV.toArray
 |.dK kvs=>kvs.length<=aw/\(a==ik)=Z6/\∃vs,KV kvs vs/\h.DictOf (jO P w) a vs
 |.dT kvs=>kvs.length<=aw/\(a==ik)=Z6/\∃xs:List (List Key×Addr×Value),
  jo (λ(p:List Key×V) (q:List Key×Addr×Value)=>p.1=q.1/\H q.2.1=Y (.tup<|p.1.map kV)/\RelV p.2 q.2.2) kvs xs/\
  ∃o es ep,h.get? a=Y o/\o.ExactDict/\o.data=.dict es ep/\es.toList=xs.map (entryOfKey<|l7<|jO P w)/\(xs.map (·.1)).Nodup
 |.set S n=>h.SetOf (intKind P w) a S n
 |.ins C dx fs=>H dx=Y (.own a)/\fs.length<=1000/\dx≠a/\h.get? a=Y (W.instObj C dx)/\∃mA,h.Ns1 dx mA/\(∀f,cT (fs.lookup f)<|mA f)/\PySem.Within mA (fs.map (·.1))
 |.own _=>∃o,h.get? a=Y o
 |.xd fs=>∃mA,h.Ns1 a mA/\∀f,cT (fs.lookup f) (mA f)
 |.gL o u=>h.get? a=Y o/\z1u H h a u
 |.nN ps=>h.get? a=Y {cls:=.none,data:=.fields ps}
 |.ext φ=>φ h/\(∃o,h.get? a=Y o)/\∀h1 h2:Heap,φ h1->(∀o,h1.get? a=Y o->h2.get? a=Y o)->φ h2
def HOk (H:Hp)(h:Heap):Prop:=∀a o,H a=Y o->z1u P w H h a o
end
section
variable {P:b9}{w:World}{H H':Hp}{h h':Heap}{a:Addr}{o:HO}
def z1u.lt (x:z1u P w H h a o):a<h.objs.size:=by
 cases o with
 |lst c=>let{_,_,_,_,e}:=x;exact bb e
 |tup c=>let{_,_,_,_,q}:=x;exact bb q
 |dK b=>let{_,_,_,_,o,_,_,e,_}:=x;exact bb e
 |dT b=>let{_,_,_,_,o,_,_,e,_}:=x;exact bb e
 |set S n=>let{o,_,_,_,e,_}:=x;exact bb e
 |ins C d fs=>let{_,_,_,e,_}:=x;exact bb e
 |own y=>let{_,e}:=x;exact bb e
 |xd fs=>let{_,{_,_,_,e,_},_}:=x;exact bb e
 |gL f u=>let{e,_}:=x;exact bb e
 |nN ps=>exact bb x
 |ext g=>let{_,{_,e},_}:=x;exact bb e
theorem Paired.sO {e g:Type}{F G:e->g->Prop}:∀{c:List e} {d:List g},jo F c d->(∀a b,F a b->G a b)->jo G c d
 |_,_,.nil,_=>.nil
 |_,_,.cons r t,f=>.cons (f _ _ r) (Paired.sO t f)
def z1u.stay (x:z1u P w H h a o)(k:∀b u,(b=a\/H b=Y (.own a))->h.get? b=Y u->h'.get? b=Y u)
  (ho:∀b,H b=Y (.own a)->H' b=Y (.own a)) (ht:∀b g,H b=Y (.tup g)->H' b=Y (.tup g)):z1u P w H' h' a o:=by
 induction o with
 |lst g=>let{z,i,n,r,e}:=x;exact{z,i,n,r,k _ _ (.inl rfl) e}
 |tup g=>let{z,l,r,n,q}:=x;exact{z,l,r,n,k _ _ (.inl rfl) q}
 |dK j=>let{z,y,s,r,f,es,ep,e,c}:=x;exact{z,y,s,r,f,es,ep,k _ _ (.inl rfl) e,c}
 |dT j=>let{z,y,g,r,f,es,ep,e,c}:=x;exact{z,y,g,Paired.sO r λp q z=>{z.1,ht _ _ z.2.1,z.2.2},f,es,ep,k _ _ (.inl rfl) e,c}
 |set S n=>let{f,es,ep,t,e,c}:=x;exact{f,es,ep,t,k _ _ (.inl rfl) e,c}
 |ins C B fs=>let{d,z,ne,e,m,{od,es,ep,v,c},r}:=x;exact{ho _ d,z,ne,k _ _ (.inl rfl) e,m,{od,es,ep,k _ _ (.inr d) v,c},r}
 |own y=>let{f,e}:=x;exact{f,k _ _ (.inl rfl) e}
 |xd fs=>let{m,{od,es,ep,e,c},r}:=x;exact{m,{od,es,ep,k _ _ (.inl rfl) e,c},r}
 |gL f u A=>let{e,q}:=x;exact{k _ _ (.inl rfl) e,A q}
 |nN ps=>have e:h.get? a=Y {cls:=.none,data:=.fields ps}:=x;exact k a _ (.inl rfl) e
 |ext D=>let{p,{o,e},st}:=x;exact{st _ _ p λo q=>k _ _ (.inl rfl) q,{o,k _ _ (.inl rfl) e},st}
theorem HOk.lt (x:HOk P w H h)(e:H a=Y o):a<h.objs.size:=(x a o e).lt
def HOk.fresh (x:HOk P w H h)(e:h.objs.size<=a):H a=none:=by
 cases q:H a with
 |none=>rfl
 |some u=>exact absurd (bx (x.lt q) e) (c8 _)
theorem HOk.kept (x:HOk P w H h)(k:∀b u,h.get? b=Y u->h'.get? b=Y u):HOk P w H h':=λa o e=>(x a o e).stay (λb u _ q=>k b u q) (λ_ q=>q) λ_ _ q=>q
theorem HOk.laid (x:HOk P w H h)(k:∀b u,h.get? b=Y u->h'.get? b=Y u)(d:h.objs.size<=a)(new:z1u P w (upd H a o) h' a o):HOk P w (upd H a o) h':=λb u e=>by
 have hn:=x.fresh d;by_cases hb:b=a
 .subst hb;rw[bH]at e;ext e;exact new
 .rw[aK hb]at e;exact(x b u e).stay (λc v _ q=>k c v q) (λc q=>by rw[aK<|gY q hn];exact q) λc f q=>by rw[aK<|gY q hn];exact q
end
def Rd (H:Hp)(a:Addr)(u:HO):Prop:=H a=Y u\/∃o,H a=Y (.gL o u)
def Rd.ok (r:Rd H a u)(x:HOk P w H h):z1u P w H h a u:=by
 rcases r with r|⟨o,r⟩
 .exact x a u r
 .let{_,q}:=x a _ r;exact q
def Mut:Option HO->Prop
 |some (.lst _)=>True
 |some (.dK _)=>True
 |some (.dT _)=>True
 |some (.set _ _)=>True
 |some (.ins _ _ _)=>True
 |some (.ext _)=>True
 |_=>False
section
variable {P:b9}{w:World}{H:Hp}{h h':Heap}{x e:Addr}{o':HO}
theorem HOk.write (ok:HOk P w H h)(mu:Mut<|H x)(i:e=x\/H e=Y (.own x))(k:∀b u,b≠e->h.get? b=Y u->h'.get? b=Y u)(g:∃u,h'.get? e=Y u)
  (new:z1u P w (upd H x o') h' x o'):HOk P w (upd H x o') h':=λb u q=>by
 have d:∀c y,H c=Y (.own y)->c≠x:=λc y r z=>by subst z;rw[r]at mu;exact mu
 by_cases hb:b=x
 .subst hb;rw[bH]at q;ext q;exact new
 .rw[aK hb]at q;by_cases a:b=e
  .have j:H b=Y (.own x):=by
    rcases i with z|z
    .exact absurd (a.trans z) hb
    .rw[a];exact z
   rw[q]at j;ext j;let{v,m}:=g;exact{v,by rw[a];exact m}
  .refine(ok b u q).stay (λc v f r=>k c v ?_ r) (λc r=>by rw[aK<|d c b r];exact r) λc l r=>by rw[aK<|(λc l r z=>by subst z;rw[r]at mu;exact mu) c l r];exact r
   rcases f with rfl|f
   .exact a
   .rintro rfl
    rcases i with z|z
    .exact d c b f z
    .rw[f]at z;ext z;exact hb rfl
end
structure Un (fs ex:List Addr)(H H':Hp)(h h':Heap):Prop where
 keep:∀b o,h.get? b=Y o->H b=Z8->b∉fs->b∉ex->h'.get? b=Y o
 slot:∀b o,h.get? b=Y o->H b=Z8->b∈fs->b∉ex->∃sl,h'.get? b=Y {o with slots:=sl}
 free:∀b o,h.get? b=Y o->H b=Z8->b∉ex->H' b=Z8
 there:∀b o,h.get? b=Y o->b∉ex->∃o',h'.get? b=Y o'
 dD:∀b xs,H b=Y (.tup xs)->H' b=Y (.tup xs)
 cY:∀b o u,H b=Y (.gL o u)->H' b=Y (.gL o u)
 dE:∀b ps,H b=Y (.nN ps)->∃more,H' b=Y (.nN<|ps++more)
section
variable {fs Mb ex WV:List Addr}{H H1 H2:Hp}{h h1 h2 h':Heap}{a x e:Addr}{o:HO}
def Un.any (u:Un fs ex H H1 h h1)(q:h.get? b=Y ob)(n:H b=Z8)(hx:b∉ex):∃sl,h1.get? b=Y {ob with slots:=sl}:=by
 by_cases hb:b∈fs
 .exact u.slot b ob q n hb hx
 .exact{ob.slots,u.keep b ob q n hb hx}
theorem Un.kept (k:∀b u,h.get? b=Y u->h'.get? b=Y u):Un fs ex H H h h':={λb a q _ _ _=>k b a q,λb a q _ _ _=>{a.slots,k b a q},λ_ _ _ n _=>n,λb a q _=>{a,k b a q},λ_ _ q=>q,λ_ _ _ q=>q,λ_ ps q=>{#[],by rw[q];simp}}
theorem Un.refl:Un fs ex H H h h:=Un.kept λ_ _ q=>q
theorem Un.laid (k:∀b u,h.get? b=Y u->h'.get? b=Y u)(c:h.objs.size<=a)(hn:H a=Z8):Un fs ex H (upd H a o) h h' where
 keep:=λb u q _ _ _=>k b u q
 slot:=λb u q _ _ _=>{u.slots,k b u q}
 free:=λb u q n _=>by rw[aK<|cg<|bx (bb q) c];exact n
 there:=λb u q _=>{u,k b u q}
 dD:=λb d q=>by rw[aK<|gY q hn];exact q
 cY:=λb u d q=>by rw[aK<|gY q hn];exact q
 dE:=λb ps q=>{#[],by rw[aK<|gY q hn,q];simp}
def Un.write (mu:Mut<|H x)(d:e=x\/H e=Y (.own x))(k:∀b u,b≠e->h.get? b=Y u->h'.get? b=Y u)(c:∃u,h'.get? e=Y u):Un fs ex H (upd H x o) h h':=by
 have hx:∀b,H b=Z8->b≠x:=λb n z=>by subst z;rw[n]at mu;exact mu
 have hb:∀b,H b=Z8->b≠e:=λb n z=>by
  subst z;rcases d with r|r
  .exact hx b n r
  .rw[n]at r;ext r
 have hm:∀b u,H b=Y u->¬Mut (Y u)->b≠x:=λb u q nm z=>by subst z;rw[q]at mu;exact nm mu
 refine{λb u q n _ _=>k b u (hb b n) q,λb u q n _ _=>{u.slots,k b u (hb b n) q},λb u q n _=>by rw[aK<|hx b n];exact n,λb u q _=>?_,λb f q=>by rw[aK<|hm b _ q λz=>z];exact q,λb u f q=>by rw[aK<|hm b _ q λz=>z];exact q,λb ps q=>{#[],by rw[aK<|hm b _ q λz=>z,q];simp}};by_cases a:b=e
 .subst a;exact c
 .exact{u,k b u a q}
end
def Bi (h:Heap)(H:Hp):List Addr:=(dz h.objs.size).filter λa=>(H a).isSome
def lH (h:Heap)(H:Hp):Heap:=W.hideAll h (Bi h H)
theorem Mc (h:Heap)(H:Hp):(lH h H).objs.size=h.objs.size:=W.hideAll_size _ _
theorem Md (e:h.get? b=Y o)(n:H b=Z8):(lH h H).get? b=Y o:=W.hideAll_get _ e λhm=>by have q:=(List.mem_filter.mp hm).2;rw[n]at q;simp at q
def Me (e:(lH h H).get? b=Y o):h.get? b=Y o/\H b=none:=by
 have a:=W.of_hideAll (Bi h H) e;refine{a,?_};cases q:H b with
 |none=>rfl
 |some x=>have z:(lH h H).get? b=none:=W.hideAll_none (Bi h H)<|List.mem_filter.mpr {ef.mpr<|bb a,by simp[q]};rw[z]at e;ext e
def Mf (g h:Heap)(L:Addr):List (Addr×Obj):=(dz h.objs.size).filterMap λa=>if a=L\/(g.get? a).isSome=J then Z8 else(h.get? a).map λo=>(a,o)
def rest (g h:Heap)(L d:Addr):List (Addr×Obj):=(Mf g h L).filter λp=>decide (p.1≠d)
structure Mod (K:Z5)(mg:U->Option Value)(base:Heap):Prop where
 uI:K.In base
 glob:base.Ns bh mg
 blt:∃mb,base.Ns qf mb/\∀x:U,x≠"__name__"->mb x=cy x
 nolimit:base.NoLimit
structure Cx where
 prog:b9
 w:World
 K:Z5
 mg:U->Option Value
 base:Heap
 A:eh
 N:List U
 s₀:aq
 iY:Hp
 env:Env
 outer:List Env
 stack:List Env
 ex:List Addr
 fn:U->Bool
 calm:Bool
 pn:List (Addr×Obj)
 xe:Value->aq->Prop
 fx:Option (U×Value):=Z8
def frs (l:List Env):List Addr:=l.filterMap (·.frame)
abbrev Cx.fs (X:Cx):List Addr:=frs X.outer
def Vis (sc:Scope)(x:U):Prop:=sc.names.lookup x=Y .local\/sc.names.lookup x=Y .cell\/sc.names.lookup x=Y .free
def Loc (sc:Scope)(x:U):Prop:=sc.names.lookup x=Y .local\/sc.names.lookup x=Y .cell
def Look (env:Env)(h:Heap)(m:U->Option Value)(x:U)(u:Value):Prop:=(env.kindOf x=Y .local/\m x=Y u)\/((env.kindOf x=Y .cell\/env.kindOf x=Y .free)/\∃c,env.cells.lookup x=Y c/\h.IsCell c (Y u))
structure Cx.Ok (X:Cx):Prop where
 mod:Mod X.K X.mg X.base
 kind:X.env.scope.kind=.function
 glob:X.env.globals=bh
 blt:X.env.builtins=qf
 above:X.s₀[?_]<=X.env.locals
 inj:∀x y c,X.env.cells.lookup x=Y c->X.env.cells.lookup y=Y c->x=y
 has:∀x,(X.env.kindOf x=Y .cell\/X.env.kindOf x=Y .free)->∃c,X.env.cells.lookup x=Y c
 sP:∀x c,X.fn x=J->X.env.cells.lookup x=Y c->X.s₀[?_]<=c
 hd:X.calm=J->X.A.handled=Z8
 frames:X.A.frames=Y X.stack
 uJ:X.stack=X.outer\/(X.stack=X.env::X.outer/\X.env.frame=Y X.env.locals)
 gE:∀b∈X.ex,b≠X.env.locals/\∀x c,X.env.cells.lookup x=Y c->c≠b
 bs:∀b o,X.base.get? b=Y o->X.s₀.heap.get? b=Y o/\X.iY b=Z8
 mP:X.base.objs.size<=X.s₀[?_]
 jV:∀b o,X.base.get? b=Y o->b∉X.ex
 jW:∀b∈X.ex,b∉X.fs
 dF:X.s₀.heap.FunFrames X.base X.outer
 pX:∀b∈X.fs,X.iY b=Z8
 zb:∀x u,X.fx=Y (x,u)->x∉X.N/\X[!x]=Y .local
structure Inv (X:Cx)(pins:List<|Addr×Obj)(σ:List<|Option V)(H:Hp)(s:aq):Prop where
 ok:X.Ok
 os:s.os=X.s₀.os
 bare:kz s.gens
 base:Un X.fs X.ex X.iY H X.s₀.heap s.heap
 loc:∃m,s.heap.Ns X.env.locals m/\∀(i:Nat) (x:U) (v:V),X.N[i]?=Y x->σ[i]?=Y (Y v)->Vis X.env.scope x->∃u,RelV v u/\Look X.env s.heap m x u
 cell:∀x c,X.env.cells.lookup x=Y c->∃v,s.heap.IsCell c v
 free:H X.env.locals=Z8
 bJ:∀x c,X.env.cells.lookup x=Y c->H c=Z8
 pin:∀p∈X.pn++pins,s.heap.get? p.1=Y p.2/\H p.1=Z8/\p.1≠X.env.locals/\p.1∉X.fs/\∀v,p.2.data≠.cell v
 hok:HOk X.prog X.w H s.heap
 len:σ.length=X.N.length
 fx:∀x u,X.fx=Y (x,u)->∃m,s.heap.Ns X.env.locals m/\m x=Y u
section
variable {X:Cx}{pins:List<|Addr×Obj}{σ:List<|Option V}{H H':Hp}{s:aq}{h':Heap}
theorem Cx.Ok.vM (ok:X.Ok)(e:X.base.get? b=Y o):b∉X.fs:=λhb=>by have:=(ok.dF.mem hb).1;rw[e]at this;ext this
theorem Inv.bs (I:Inv X pins σ H s):∀b o,X.base.get? b=Y o->s.heap.get? b=Y o/\H b=none:=λb o e=>{I.base.keep b o (I.ok.bs b o e).1 (I.ok.bs b o e).2 (I.ok.vM e)<|I.ok.jV b o e,I.base.free b o (I.ok.bs b o e).1 (I.ok.bs b o e).2<|I.ok.jV b o e}
theorem Inv.bk (I:Inv X pins σ H s):∀b o,X.base.get? b=Y o->s.heap.get? b=Y o:=λb o e=>(I.bs b o e).1
theorem Inv.mod (I:Inv X pins σ H s):Mod X.K X.mg X.base:=I.ok.mod
theorem Inv.dM (I:Inv X pins σ H s):X.K.In s.heap:=I.ok.mod.uI.keeps I.bk
theorem Inv.fr (I:Inv X pins σ H s):∃m,Fr X.base X.env.locals s.heap m:=
 let⟨m,hn,_⟩:=I.loc
 {m,hn,I.bk,bj I.ok.mP I.ok.above}
theorem Inv.lt (I:Inv X pins σ H s):X.env.locals<s[?_]:=let⟨_,hn,_⟩:=I.loc;hn.lt
theorem Inv.sz (I:Inv X pins σ H s):X.s₀[?_]<=s[?_]:=bj I.ok.above (gm I.lt)
theorem Inv.vN (I:Inv X pins σ H s)(h:s[?_]<=a):a∉X.fs:=λhb=>by let{_,o,ho,_}:=I.ok.dF.mem hb;exact absurd (bx (bb ho)<|bj I.sz h) (c8 _)
theorem Inv.mQ (I:Inv X pins σ H s):∀x c,X.env.cells.lookup x=Y c->c≠X.env.locals:=λx c e z=>by let{v,o,ho,hd}:=I.cell x c e;let{m,{d,es,ep,a,b,_},_}:=I.loc;rw[z,a]at ho;ext ho;rw[b]at hd;ext hd
def Inv.dF (I:Inv X pins σ H s):s.heap.FunFrames X.base X.outer:=by
 have all:∀l,(∀b∈frs l,b∈X.fs)->X.s₀.heap.FunFrames X.base l->s.heap.FunFrames X.base l:=by
  intro l
  induction l with
  |nil=>intro _ _;trivial
  |cons env r c=>
   rintro hs ⟨hk,⟨L,o,hf,hn,ho,hd⟩,hr⟩
   have a:=hs L (by unfold frs;rw[cv,hf];exact ar);let{sl,e}:=I.base.slot L o ho (I.ok.pX L a) a λz=>I.ok.jW L z a;exact{hk,{L,_,hf,hn,e,hd},c (λb hb=>hs b (by unfold frs;rw[cv,hf];exact ao _ hb)) hr}
 exact all X.outer (λ_ hb=>hb) I.ok.dF
def Inv.stack (I:Inv X pins σ H s):s.heap.FunFrames X.base X.stack:=by
 rcases I.ok.uJ with e|⟨e,hf⟩
 .rw[e];exact I.dF
 .rw[e];let{m,hn,_}:=I.loc;refine .cons (by rw[I.ok.kind];decide) hf hn ?_ I.dF;exact gp (bj I.ok.mP I.ok.above)
theorem Inv.hU (I:Inv X pins σ H s):∀b∈frs X.stack,b∈X.env.locals::X.fs:=λb hb=>by
 rcases I.ok.uJ with e|⟨e,hf⟩
 .rw[e]at hb;simp_all
 .rw[e]at hb;unfold frs at hb;rw[cv,hf]at hb;exact hb
theorem Inv.hX (I:Inv X pins σ H s):∀b∈frs X.stack,H b=none:=λb hb=>by
 rcases ak.mp (I.hU b hb)with e|hb
 .rw[e];exact I.free
 .let{_,o,ho,_}:=I.ok.dF.mem hb;exact I.base.free b o ho (I.ok.pX b hb) λz=>I.ok.jW b z hb
def Inv.step {ch:List Addr}(I:Inv X pins σ H s)
  (a:∀b∈ch,(b∈X.ex\/X.s₀[?_]<=b)/\b≠X.env.locals/\(∀x c,X.env.cells.lookup x=Y c->c≠b)/\∀p∈X.pn++pins,p.1≠b)
  (keep:∀b o,b≠X.env.locals->b∉X.fs->b∉ch->s.heap.get? b=Y o->H b=Z8->h'.get? b=Y o)
  (slot:∀b o,b≠X.env.locals->b∈X.fs->b∉ch->s.heap.get? b=Y o->H b=Z8->∃sl,h'.get? b=Y {o with slots:=sl}) (free:∀b o,b∉ch->s.heap.get? b=Y o->H b=Z8->H' b=Z8)
  (there:∀b o,b∉ch->s.heap.get? b=Y o->∃y,h'.get? b=Y y)
  (dD:∀b t,H b=Y (.tup t)->H' b=Y (.tup t)) (cY:∀b o u,H b=Y (.gL o u)->H' b=Y (.gL o u)) (dE:∀b ps,H b=Y (.nN ps)->∃A,H' b=Y (.nN<|ps++A))
  (ns:∀m,s.heap.Ns X.env.locals m->h'.Ns X.env.locals m) (hok:HOk X.prog X.w H' h') (ZK:kz g'):
  Inv X pins σ H' {s with heap:=h',gens:=g',drawn:=d',toks:=t'}:=by
 have B:∀b o,X.s₀.heap.get? b=Y o->b≠X.env.locals:=λb o e=>cg (bx (bb e) I.ok.above)
 have h:∀b o,X.s₀.heap.get? b=Y o->b∉X.ex->b∉ch:=λb o e hx hb=>by
  rcases(a b hb).1 with z|z
  .exact hx z
  .exact absurd (bx (bb e) z) (c8 _)
 have f:∀x c,X.env.cells.lookup x=Y c->∀v,s.heap.IsCell c v->h'.IsCell c v:=λx c e v ⟨o,ho,hd⟩=>by
  have g:=λz=>(a c z).2.2.1 x c e rfl;by_cases E:c∈X.fs
  .let{sl,q}:=slot c o (I.mQ x c e) E g ho<|I.bJ x c e;exact{_,q,hd}
  .exact{o,keep c o (I.mQ x c e) E g ho<|I.bJ x c e,hd}
 refine{I.ok,I.os,ZK,{λb o e n hb hx=>?_,λb o e n hb hx=>?_,λb o e n hx=>?_,λb o e hx=>?_,λb t e=>dD b t<|I.base.dD b t e,λb o t e=>cY b o t<|I.base.cY b o t e,λb ps e=>?_},?_,λx c e=>?_,?_,λx c e=>?_,λp F=>?_,hok,I.len,λx u e=>let⟨m,hn,q⟩:=I.fx x u e;{m,ns m hn,q}}
 .exact keep b o (B b o e) hb (h b o e hx) (I.base.keep b o e n hb hx) (I.base.free b o e n hx)
 .let{sl,j}:=I.base.slot b o e n hb hx;let{D,C}:=slot b _ (B b o e) hb (h b o e hx) j<|I.base.free b o e n hx;exact{(D),C}
 .let{y,j}:=I.base.there b o e hx;exact free b y (h b o e hx) j (I.base.free b o e n hx)
 .let{y,j}:=I.base.there b o e hx;exact there b y (h b o e hx) j
 .let{K,j}:=I.base.dE b ps e;let{L,C}:=dE b _ j;exact{K++L,by rw[C,oo]}
 .let{m,hn,hl}:=I.loc;refine{m,ns m hn,λi x v j C M=>?_};let{u,r,l}:=hl i x v j C M;refine{u,r,?_};rcases l with l|⟨k,c,e,z⟩
  .exact .inl l
  .exact .inr {k,c,e,f x c e _ z}
 .let{v,z}:=I.cell x c e;exact{v,f x c e v z}
 .let{m,{o,_,_,ho,_},_}:=I.loc;exact free _ o (λz=>(a _ z).2.1 rfl) ho I.free
 .let{v,o,ho,hd}:=I.cell x c e;exact free c o (λz=>(a c z).2.2.1 x c e rfl) ho (I.bJ x c e)
 .let{e,n,ne,G,d}:=I.pin p F;have g:=λz=>(a p.1 z).2.2.2 p F rfl;exact{keep p.1 p.2 ne G g e n,free p.1 p.2 g e n,ne,G,d}
def Inv.un (I:Inv X pins σ H s)(u:Un X.fs [] H H' s.heap h')(hok:HOk X.prog X.w H' h'):Inv X pins σ H' {s with heap:=h',toks:=t'}:=by let{m,{o,es,ep,ho,r},_}:=id I.loc;let{sl,f}:=u.any ho I.free ZO;exact I.step (ch:=[]) (λ_ z=>nomatch z) (λb o _ hb _ e n=>u.keep b o e n hb ZO) (λb o _ hb _ e n=>u.slot b o e n hb ZO) (λb o _ e n=>u.free b o e n ZO) (λb o _ e=>u.there b o e ZO) u.dD u.cY u.dE (λh ⟨i,c,d,a,g⟩=>by rw[ho]at a;ext a;exact{_,c,d,f,g}) hok I.bare
def Inv.call (I:Inv X pins σ H s)(u:Un (frs X.stack) ch H H' s.heap h')(hok:HOk X.prog X.w H' h')(j:kz k)
  (d:∀b∈ch,(b∈X.ex\/X.s₀[?_]<=b)/\b≠X.env.locals/\(∀x c,X.env.cells.lookup x=Y c->c≠b)/\∀p∈X.pn++pins,p.1≠b):
  Inv X pins σ H' {s with heap:=h',gens:=k,drawn:=d',toks:=t'}:=by
 let{m,{o,es,ep,ho,r},_}:=id I.loc;let{sl,g}:=u.any ho I.free λz=>(d _ z).2.1 rfl;exact I.step d (λb o g hb a e n=>u.keep b o e n (λz=>(ak.mp<|I.hU b z).elim g hb) a) (λb o _ _ a e n=>u.any e n a) (λb o a e n=>u.free b o e n a) (λb o a e=>u.there b o e a) u.dD u.cY u.dE (λq ⟨t,h,i,f,l⟩=>by rw[ho]at f;ext f;exact{_,h,i,g,l}) hok j
def Inv.turned (I:Inv X pins σ H s)(k:∀b o,b≠a->s.heap.get? b=Y o->h'.get? b=Y o)(hn:H a=Z8)(g:a≠X.env.locals)
  (h:a∈X.ex\/X.s₀[?_]<=a) (i:∀x c,X.env.cells.lookup x=Y c->c≠a) (j:∀p∈X.pn++pins,p.1≠a):Inv X pins σ H {s with heap:=h',toks:=t'}:=by
 have f:∀b u,H b=Y u->b≠a:=λb u e z=>by rw[z,hn]at e;ext e
 refine I.step (ch:=[a]) (λb hb=>?_) (λb o _ _ d e _=>k b o (λz=>d<|by simp[z]) e) (λb o _ _ d e _=>{o.slots,k b o (λz=>d<|by simp[z]) e}) (λ_ _ _ _ n=>n) (λb o d e=>{o,k b o (λz=>d<|by simp[z]) e}) (λ_ _ e=>e) (λ_ _ _ e=>e) (λb ps e=>{#[],by rw[e];simp}) (λm hm=>?_) (λb u e=>?_) I.bare
 .have e:b=a:=by simpa using hb
  subst e;exact{(h),g,i,j}
 .let{o,es,ep,ho,r}:=hm;exact{o,es,ep,k _ o (Ne.symm g) ho,r}
 .refine(I.hok b u e).stay (λc v d q=>k c v ?_ q) (λ_ q=>q) λ_ _ q=>q;rcases d with z|z
  .rw[z];exact f b u e
  .exact f c _ z
theorem Inv.tok (I:Inv X pins σ H s)(t:Nat):Inv X pins σ H {s with toks:=t}:=I.un (h':=s.heap) (t':=t) Un.refl I.hok
theorem Inv.kept (I:Inv X pins σ H s)(k:∀b u,s.heap.get? b=Y u->h'.get? b=Y u):Inv X pins σ H {s with heap:=h',toks:=t'}:=I.un (Un.kept k) (I.hok.kept k)
theorem Inv.laid (I:Inv X pins σ H s)(k:∀b u,s.heap.get? b=Y u->h'.get? b=Y u)(c:s[?_]<=a)(new:z1u X.prog X.w (upd H a o) h' a o): Inv X pins σ (upd H a o) {s with heap:=h',toks:=t'}:=I.un (Un.laid k c<|I.hok.fresh c) (I.hok.laid k c new)
theorem Inv.write (I:Inv X pins σ H s)(mu:Mut<|H x)(c:e=x\/H e=Y (.own x))(k:∀b u,b≠e->s.heap.get? b=Y u->h'.get? b=Y u)(a:∃u,h'.get? e=Y u) (new:z1u X.prog X.w (upd H x o) h' x o):Inv X pins σ (upd H x o) {s with heap:=h',toks:=t'}:=I.un (Un.write mu c k a) (I.hok.write mu c k a new)
theorem Inv.weak (I:Inv X pins σ H s)(hl:a.length=σ.length)(w:∀(i:Nat) v,a[i]?=Y (Y v)->σ[i]?=Y (Y v)):Inv X pins a H s:={I.ok,I.os,I.bare,I.base,let⟨m,hn,Mh⟩:=I.loc;{m,hn,λi x v b c d=>Mh i x v b (w i v c) d},I.cell,I.free,I.bJ,I.pin,I.hok,hl.trans I.len,I.fx}
theorem Inv.hY (I:Inv X pins σ H s)(h:∀p∈nO,s.heap.get? p.1=Y p.2/\H p.1=Z8/\p.1≠X.env.locals/\p.1∉X.fs/\∀v,p.2.data≠.cell v):Inv X nO σ H s:={I.ok,I.os,I.bare,I.base,I.loc,I.cell,I.free,I.bJ,λp a=>(bg.mp a).elim (λz=>I.pin p<|cq _ z)<|h p,I.hok,I.len,I.fx}
def Mj {h:Heap}(x:h.Ns a m)(y:h.Ns a g)(n:U):m n=g n:=by let{o,es,ep,e,d,_,f}:=x;let{l,i,j,b,c,_,k}:=y;rw[e]at b;ext b;rw[d]at c;ext c;rw[<-f n,k n]
def zc {N:List U}(hN:N.Nodup){j:Nat}(a:N[i]?=Y x)(b:N[j]?=Y x):i=j:=by let{e,c}:=az.mp a;let{f,d}:=az.mp b;exact(List.getElem_inj hN).mp (c.trans d.symm)
def z4j (I:Inv X pins σ H s)(hN:X.N.Nodup)(L:X.N[i]?=Y x)(t:Loc X.env.scope x)(r:RelV v u)
  (h:∀W,Inv X pins (σ.set i<|Y v) H W->(∃a,cc a s.heap W.heap/\(a=X.env.locals\/X.env.cells.lookup x=Y a))->Q () W) (hf:X.fn x=J\/X[!x]=Y .local:=by first|exact .inl rfl|exact .inr rfl|assumption):wpAny M A (storeName X.env x u) Q E s:=by
 let{m,hn,hl}:=id I.loc;have D:i<σ.length:=I.len▸(az.mp L).1;have mQ:=I.mQ
 have f:∀{a:Addr} {h':Heap},(∃o,s.heap.get? a=Y o/\H a=Z8)->cc a s.heap h'->HOk X.prog X.w H h':=λ{a h'} ha hs b ob e=>by
  let{_,_,B}:=ha;refine(I.hok b ob e).stay (λc ZL l q=>(hs.2 c ?_).trans q) (λ_ q=>q) λ_ _ q=>q
  rintro rfl
  rcases l with rfl|l
  .rw[B]at e;ext e
  .rw[B]at l;ext l
 rcases t with hk|hk
 .refine wpAny_storeName_local hk hn (λh' O hs=>?_) (by rw[I.ok.kind];rfl);let{oL,_,_,ZM,_}:=id hn;refine h _ {I.ok,I.os,I.bare,{λb o e n F t=>?_,λb o e n F t=>?_,I.base.free,λb o e t=>?_,I.base.dD,I.base.cY,I.base.dE},{_,O,λj y v' g C e3=>?_},λy c e=>?_,I.free,I.bJ,λp hp=>?_,f {oL,(ZM),I.free} hs,by simpa using I.len,λy u e=>by let{m',G,q}:=I.fx y u e;refine{_,O,?_};have hy:y≠x:=λz=>(I.ok.zb y u e).1<|z▸dg L;have:=Mj hn G y;simp[hy,this,q]} {_,hs,.inl rfl}
  .exact(hs.2 b<|cg<|bx (bb e) I.ok.above).trans (I.base.keep b o e n F t)
  .let{sl,g}:=I.base.slot b o e n F t;exact{sl,(hs.2 b<|cg<|bx (bb e) I.ok.above).trans g}
  .let{o',g}:=I.base.there b o e t;exact{o',(hs.2 b<|cg<|bx (bb e) I.ok.above).trans g}
  .by_cases ZK:j=i
   .subst ZK;rw[L]at g;ext g;rw[ce D]at C;ext C;exact{u,r,.inl {hk,by simp}}
   .rw[bw<|Ne.symm ZK]at C;let{u',r',q}:=hl j y v' g C e3;refine{u',r',?_};rcases q with⟨k,e⟩|⟨k,c,e,z⟩
    .refine .inl {k,?_};have:y≠x:=λe=>ZK<|zc hN g<|e▸L;simp[this,e]
    .exact .inr {k,c,e,z.sameBut hs<|mQ y c e}
  .let{ZL,z}:=I.cell y c e;exact{ZL,z.sameBut hs<|mQ y c e}
  .let{e,n,ne,nf,d}:=I.pin p hp;exact{(hs.2 p.1 ne).trans e,n,ne,nf,d}
 .have K:X.fn x=true:=by
   rcases hf with z|z
   .exact z
   .rw[z]at hk;ext hk
  let{c,l}:=I.ok.has x<|.inl hk;let{ZL,z}:=I.cell x c l;refine wpAny_storeName_cell I.ok.kind hk l z<|λh' P hs=>?_;let{oc,R,S}:=id z;refine h {s with heap:=h'} {I.ok,I.os,I.bare,{λb o e n F t=>?_,λb o e n F t=>?_,I.base.free,λb o e t=>?_,I.base.dD,I.base.cY,I.base.dE},{m,hn.sameBut hs<|Ne.symm<|mQ x c l,λj y v' g C e3=>?_},λy V e=>?_,I.free,I.bJ,λp hp=>?_,f {oc,R,I.bJ x c l} hs,by simpa using I.len,λy u e=>let⟨m',G,q⟩:=I.fx y u e;{m',G.sameBut hs<|Ne.symm<|mQ x c l,q}} {c,hs,.inr l}
  .exact(hs.2 b<|cg<|bx (bb e)<|I.ok.sP x c K l).trans (I.base.keep b o e n F t)
  .let{sl,g}:=I.base.slot b o e n F t;exact{sl,(hs.2 b<|cg<|bx (bb e)<|I.ok.sP x c K l).trans g}
  .let{o',g}:=I.base.there b o e t;exact{o',(hs.2 b<|cg<|bx (bb e)<|I.ok.sP x c K l).trans g}
  .by_cases ZK:j=i
   .subst ZK;rw[L]at g;ext g;rw[ce D]at C;ext C;exact{u,r,.inr {.inl hk,c,l,P}}
   .rw[bw<|Ne.symm ZK]at C;let{u',r',q}:=hl j y v' g C e3;refine{u',r',?_};rcases q with q|⟨k,V,e,z'⟩
    .exact .inl q
    .refine .inr {k,V,e,z'.sameBut hs ?_}
     rintro rfl
     exact ZK (zc hN g<|I.ok.inj _ _ _ e l▸L)
  .by_cases T:V=c
   .subst T;exact{_,P}
   .let{w2,z2}:=I.cell y V e;exact{w2,z2.sameBut hs T}
  .let{e,n,ne,nf,d}:=I.pin p hp;refine{(hs.2 p.1 ?_).trans e,n,ne,nf,d};intro q;rw[q,R]at e;exact d ZL (qt e▸S)
theorem z6a (I:Inv X pins σ H s)(hN:X.N.Nodup)(b:X.N[i]?=Y x)(c:Loc X.env.scope x)(r:RelV v u)
  (h:∀a,Inv X pins (σ.set i<|Y v) H a->Q () a) (hf:X.fn x=J\/X[!x]=Y .local:=by first|exact .inl rfl|exact .inr rfl|assumption):wpAny M A (storeName X.env x u) Q E s:=
 z4j I hN b c r (λa d _=>h a d) hf
def Inv.call' (I:Inv X pins σ H s)(ho:a.os=s.os)(u:Un (frs X.stack) e H H' s.heap a.heap)(hok:HOk X.prog X.w H' a.heap)(f:kz a.gens)
  (d:∀b∈e,(b∈X.ex\/X.s₀[?_]<=b)/\b≠X.env.locals/\(∀x c,X.env.cells.lookup x=Y c->c≠b)/\∀p∈X.pn++pins,p.1≠b):Inv X pins σ H' a:=by
 let{h',g,h,i,j}:=a;subst ho;exact I.call u hok f d
end
abbrev XK:=Value->Option Addr->Hp->Prop
abbrev St:=List (Option V)
abbrev VK:=V->Hp->Prop
abbrev TE:=St->Hp->VK->Prop
abbrev TT:=St->Hp->(Bool->Hp->Prop)->Prop
abbrev TA:=St->Hp->(List V->Hp->Prop)->Prop
structure Ends where
 nx:St->Hp->Prop
 rt:VK
 bk:St->Hp->Prop:=λ_ _=>False
 ct:St->Hp->Prop:=λ_ _=>False
abbrev TS:=Ends->St->Hp->Prop
def EP (X:Cx)(pins:List<|Addr×Obj)(σ:St)(Q:VK)(u:Value)(s':aq):Prop:=∃v H',Inv X pins σ H' s'/\RelV v u/\Q v H'
def TP (X:Cx)(pins:List<|Addr×Obj)(σ:St)(Q:Bool->Hp->Prop)(b:Bool)(s':aq):Prop:=∃H',Inv X pins σ H' s'/\Q b H'
def AP (X:Cx)(pins:List<|Addr×Obj)(σ:St)(Q:List V->Hp->Prop)(us:List Value)(s':aq):Prop:=∃vs H',Inv X pins σ H' s'/\Vals vs us/\Q vs H'
def SP (X:Cx)(pins:List<|Addr×Obj)(D:Ends)(f:Flow)(s':aq):Prop:=
 match f with
 |.next=>∃bM H',Inv X pins bM H' s'/\D.nx bM H'
 |.brk=>∃bM H',Inv X pins bM H' s'/\D.bk bM H'
 |.cont=>∃bM H',Inv X pins bM H' s'/\D.ct bM H'
 |.ret u=>∃v bM H',Inv X pins bM H' s'/\RelV v u/\D.rt v H'
def PE (X:Cx)(e:Expr)(t:TE):Prop:=∀(pins:List<|Addr×Obj) (s:aq) (σ:St) (H:Hp) (Q:VK),Inv X pins σ H s->t σ H Q->X['a'] (eval e X.env) (EP X pins σ Q) X.xe s
def PT (X:Cx)(e:Expr)(t:TT):Prop:=∀(pins:List<|Addr×Obj) (s:aq) (σ:St) (H:Hp) (Q:Bool->Hp->Prop),Inv X pins σ H s->t σ H Q->X['a'] (p6 e X.env<|eval e X.env) (TP X pins σ Q) X.xe s
def PW (X:Cx)(e:Expr)(t:TT):Prop:=∀(whole:Sem Value) (pins:List<|Addr×Obj) (s:aq) (σ:St) (H:Hp) (Q:Bool->Hp->Prop),Inv X pins σ H s->t σ H Q->X['a'] (p6 e X.env whole) (TP X pins σ Q) X.xe s
theorem PW.pt (h:PW X e t):PT X e t:=h _
def PA (X:Cx)(es:List Expr)(t:TA):Prop:=∀(pos:Pos) (pins:List<|Addr×Obj) (s:aq) (σ:St) (H:Hp) (Q:List V->Hp->Prop),Inv X pins σ H s->t σ H Q->X['a'] (spliced<|ja pos<|cx es X.env) (AP X pins σ Q) X.xe s
def PS (X:Cx)(st:Stmt)(t:TS):Prop:=∀(pins:List<|Addr×Obj) (s:aq) (σ:St) (H:Hp) (D:Ends),Inv X pins σ H s->t D σ H->X['a'] (exec st X.env) (SP X pins D) X.xe s
def PSs (X:Cx)(st:List Stmt)(t:TS):Prop:=∀(pins:List<|Addr×Obj) (s:aq) (σ:St) (H:Hp) (D:Ends),Inv X pins σ H s->t D σ H->X['a'] (execs st X.env) (SP X pins D) X.xe s
theorem aR (h:wpAny M A t Q E s)(b:∀a s,Q a s->c a s):wpAny M A t c E s:=il h b λ_ _ x=>x
section
variable {X:Cx}
def bin (ha:PE X a m)(hb:PE X b n){R:V->V->Hp->Prop}(I:Inv X c e H s)(h:m e H fun x k=>n e k fun y d=>R x y d)
  {l:Type} {Q:l->aq->Prop} {f:Value->Value->Sem l}
  (hf:∀v u j x y d,Inv X c e d j->RelV x v->RelV y u->R x y d->X['a'] (f v u) Q X.xe j):
  X['a'] (eval a X.env) (λv g=>X['a'] (eval b X.env) (λu i=>X['a'] (f v u) Q X.xe i) X.xe g) X.xe s:=by
 exact aR (ha c s e H _ I h) λv o ⟨x,k,p,q,r⟩=>aR (hb c o e k _ p r) λu j ⟨y,d,t,z,B⟩=>hf v u j x y d t q z B
def vO (i:Nat):TE:=λσ H Q=>∃v,σ[i]?=Y (Y v)/\Q v H
def tC (v:V):TE:=λ_ H Q=>Q v H
def pF (hN:X.N[i]?=Y x)(j:Vis X.env.scope x)(hd:Xf x:=by decide)(f:(x==("__classdict__":U))=false:=by decide):PE X (.Name x pos) (vO i):=by
 rintro d s k H Q I ⟨v,e,h⟩
 let{m,hn,hl}:=I.loc;let{u,r,l}:=hl i x v hN e j;have b:EP X d k Q u s:={(v),H,I,r,h};rcases l with⟨hk,hm⟩|⟨hk,c,g,a⟩
 .exact oq (mz I.ok.kind hk hn hm b) hd
 .rcases hk with hk|hk
  .exact oq (wpAny_loadName_cell I.ok.kind hk g a b) hd
  .exact oq (wpAny_loadName_free I.ok.kind hk g a b f) hd
theorem Ml {i j pos}:PE X (.Constant (.int i) j pos) (tC<|.int i):=λ_ _ _ H _ I h=>wpAny_Constant_int {.int i,H,I.tok _,{_,rfl},h}
theorem Mm {b j pos}:PE X (.Constant (.bool b) j pos) (tC<|.bl b):=λ_ _ _ H _ I h=>Constant_bool {.bl b,H,I,rfl,h}
theorem Mn {j pos}:PE X (.Constant .none j pos) (tC .non):=λ_ _ _ H _ I h=>og {.non,H,I,rfl,h}
theorem Mo {x j pos}:PE X (.Constant (.str x) j pos) (tC<|.str x):=λ_ _ _ H _ I h=>Calls.Constant_str {.str x,H,I.tok _,{_,rfl},h}
def Gl (X:Cx)(x:U):Prop:=X.env.kindOf x=Y .globalImplicit
theorem z2x (I:Inv X a c H s)(b:Gl X x)(hm:X.mg x=Y u)(h:Q u s)
  (hd:Xf x:=by decide):X['a'] (eval (.Name x pos) X.env) Q E s:=
 jd I.ok.kind b (l8 (I.ok.glob▸I.mod.glob.keeps I.bk) hm h) hd
def z2t (I:Inv X a f H s)(b:Gl X x)(hm:X.mg x=Z8)(c:cy x=Y u)(h:Q u s)
  (hn:x≠"__name__":=by decide) (hd:Xf x:=by decide):X['a'] (eval (.Name x pos) X.env) Q E s:=by
 let{g,d,e}:=I.mod.blt;exact jd I.ok.kind b (Calls.loadGlobal_builtin (I.ok.glob▸I.mod.glob.keeps I.bk) hm (I.ok.blt▸d.keeps I.bk) ((e x hn).trans c) h) hd
theorem Mp (a:Gl X x)(hm:X.mg x=Y u)(r:RelV v u)(hd:Xf x:=by decide):PE X (.Name x pos) (tC v):=λ_ _ _ H _ I h=>z2x I a hm {(v),H,I,r,h} hd
theorem Mq (a:Gl X x)(hm:X.mg x=Z8)(b:cy x=Y u)(r:RelV v u)(hn:x≠"__name__":=by decide)(hd:Xf x:=by decide):PE X (.Name x pos) (tC v):=λ_ _ _ H _ I h=>z2t I a hm b {(v),H,I,r,h} hn hd
variable {a b:Expr}{ta tb:TE}{pos:Pos}
def PC (X:Cx)(op:CmpOp)(a b:Expr)(t:TE):Prop:=∀(pins:List<|Addr×Obj) (s:aq) (σ:St) (H:Hp) (Q:VK),Inv X pins σ H s->t σ H Q->X['a'] (eval a X.env) (λv Bj=>X['a'] (eval b X.env) (λu Bl=>X['a'] (cn op v u) (EP X pins σ Q) X.xe Bl) X.xe Bj) X.xe s
def FT (b:Expr)(h:op≠.In)(a:op≠.NotIn):d5 op b=false:=by
 have c:(op==CmpOp.In)=false:=by ext op<;>first|rfl|exact absurd rfl h
 have d:(op==CmpOp.NotIn)=false:=by ext op<;>first|rfl|exact absurd rfl a
 ext b<;>simp[d5,c,d]
def vP (ta:TE):TE:=λσ H Q=>ta σ H λx H1=>Q (.bl (decide (x=.non))) H1
def FU (ta:TE):TE:=λσ H Q=>ta σ H λx H1=>Q (.bl<|!decide (x=.non)) H1
def RelV.iZ (r:RelV x v):(v==Value.none)=decide (x=.non):=by
 cases x with
 |non=>ext r;rfl
 |bl _=>ext r;rfl
 |int _=>let{t,rfl}:=r;rfl
 |str _=>let{t,rfl}:=r;rfl
 |ref _=>ext r;rfl
 |ty _=>ext r;rfl
def FV {j pos'}(ha:PE X a ta):PC X .Is a (.Constant .none j pos') (vP ta):=by intro pins s σ H Q I h;exact aR (ha pins s σ H _ I h) λv s1 ⟨x,H1,I1,r1,q1⟩=>og (is_none_gen {.bl _,H1,I1,by rw[r1.iZ];rfl,q1})
def FW {j pos'}(ha:PE X a ta):PC X .IsNot a (.Constant .none j pos') (FU ta):=by intro pins s σ H Q I h;exact aR (ha pins s σ H _ I h) λv s1 ⟨x,H1,I1,r1,q1⟩=>og (isnot_none_gen {.bl _,H1,I1,by rw[r1.iZ];rfl,q1})
def tB (t:TE):TT:=λσ H Q=>t σ H λx H1=>∃c,x=.bl c/\Q c H1
theorem FY (h:PC X d a b t)(e:d5 d b=false:=by first|exact FT _ dc dc|rfl):PE X (.Compare a [d] [b] pos) t:=λc s f H Q I g=>wpAny_Compare1 (h c s f H Q I g) e
def FZ (h:PC X op a b t)(f:d5 op b=false:=by first|exact FT _ dc dc|rfl):PT X (.Compare a [op] [b] pos) (tB t):=by intro e s g H Q I i;refine mw (aR (h e s g H _ I i) λv o f=>aR f λu p j=>aR j λc r ⟨x,k,l,m,n⟩=>?_) f;let{d,rfl,q}:=n;ext m;exact d8 {(k),l,q}
variable {tA zd:TT}{rest:List Expr}
def Bm (t u:TT):TT:=λσ H Q=>t σ H λc H1=>if c=J then u σ H1 Q else Q Z6 H1
def F6 (t u:TT):TT:=λσ H Q=>t σ H λc H1=>if c=J then Q J H1 else u σ H1 Q
def vQ (t:TT):TT:=λσ H Q=>t σ H λc H1=>Q (!c) H1
def Mr (ha:PT X a tA):PW X (.BoolOp .And [a] pos) tA:=by
 intro f b s d H Q I h;refine isTrue_and<|aR (ha b s d H Q I h) λc g e=>?_;cases c with
 |true=>exact isTrue_and_nil e
 |false=>exact e
def F7 (ha:PT X a tA):PW X (.BoolOp .Or [a] pos) tA:=by
 intro f b s d H Q I h;refine isTrue_or<|aR (ha b s d H Q I h) λc g e=>?_;cases c with
 |false=>exact isTrue_or_nil e
 |true=>exact e
def Ms (ha:PT X a tA)(hb:PW X (.BoolOp .And (b::rest) pos) zd):PW X (.BoolOp .And (a::b::rest) pos) (Bm tA zd):=by
 intro j d s e H Q I h;refine isTrue_and<|aR (ha d s e H _ I h) λc k ⟨f,g,i⟩=>?_;cases c with
 |true=>exact hb j d k e f Q g i
 |false=>exact{(f),g,i}
def Bn (ha:PT X a tA)(hb:PW X (.BoolOp .Or (b::rest) pos) zd):PW X (.BoolOp .Or (a::b::rest) pos) (F6 tA zd):=by
 intro j d s e H Q I h;refine isTrue_or<|aR (ha d s e H _ I h) λc k ⟨f,g,i⟩=>?_;cases c with
 |true=>exact{(f),g,i}
 |false=>exact hb j d k e f Q g i
def F8 (ha:PT X a tA):PT X (.UnaryOp .Not a pos) (vQ tA):=by intro b s d H Q I h;exact isTrue_not (ha b s d H (λc e=>Q (!c) e) I h)
def Mt (ta tb:TE):TE:=λσ H Q=>ta σ H λx H1=>∃c,x=.bl c/\if c=J then tb σ H1 Q else Q (.bl Z6) H1
def Bp (ta tb:TE):TE:=λσ H Q=>ta σ H λx H1=>∃c,x=.bl c/\if c=J then Q (.bl J) H1 else tb σ H1 Q
theorem F9 {op}(h:PE X a t):PE X (.BoolOp op [a] pos) t:=λb s c H Q I d=>BoolOp_one (h b s c H Q I d)
def Mu (ha:PE X a ta)(hb:PE X (.BoolOp .And (b::rest) pos) tb):PE X (.BoolOp .And (a::b::rest) pos) (Mt ta tb):=by
 intro d s f H Q I h;refine BoolOp_and<|aR (ha d s f H _ I h) λv j ⟨x,g,i,k,e⟩=>?_;let{c,rfl,e}:=e;ext k;refine d8 ?_;cases c with
 |true=>exact hb d j f g Q i e
 |false=>exact{.bl Z6,g,i,rfl,e}
def Mv (ha:PE X a ta)(hb:PE X (.BoolOp .Or (b::rest) pos) tb):PE X (.BoolOp .Or (a::b::rest) pos) (Bp ta tb):=by
 intro d s f H Q I h;refine BoolOp_or<|aR (ha d s f H _ I h) λv j ⟨x,g,i,k,e⟩=>?_;let{c,rfl,e}:=e;ext k;refine d8 ?_;cases c with
 |false=>exact hb d j f g Q i e
 |true=>exact{.bl J,g,i,rfl,e}
def Ga (t:TT)(ta tb:TE):TE:=λσ H Q=>t σ H λc H1=>if c=J then ta σ H1 Q else tb σ H1 Q
def Mw (l:PT X c tA)(ha:PE X a ta)(hb:PE X b tb):PE X (.IfExp c a b pos) (Ga tA ta tb):=by
 intro e s f H Q I h;refine wpAny_IfExp<|aR (l e s f H _ I h) λd g ⟨i,j,k⟩=>?_;cases d with
 |true=>exact ha e g f i Q j k
 |false=>exact hb e g f i Q j k
end
def SqL (K:Z5)(H:Hp)(a:Addr)(xs:List V):Prop:=Rd H a (.lst xs)\/∃(o:Obj) (dV:Array Value) (n:Nat),K.lookup a=Y o/\o.cls=.type "list"/\o.dict=Z8/\o.data=.seq dV n/\dV.size<=aw/\Vals xs dV.toList
def dC (K:Z5)(H:Hp)(a:Addr)(xs:List V):Prop:=Rd H a (.tup xs)\/∃(o:Obj) (dV:Array Value) (n:Nat),K.lookup a=Y o/\o.cls=.type "tuple"/\o.dict=Z8/\o.data=.seq dV n/\dV.size<=aw/\Vals xs dV.toList
def Bq:Value->Option V
 |.none=>Y .non
 |.bool b=>Y (.bl b)
 |.int i _=>Y (.int i)
 |.str x _=>Y (.str x)
 |.ref a=>Y (.ref a)
 |.type n=>Y (.ty n)
 |_=>Z8
def RelV.abs (r:RelV x u):Bq u=Y x:=by
 cases x with
 |non=>ext r;rfl
 |bl _=>ext r;rfl
 |int _=>let{t,rfl}:=r;rfl
 |str _=>let{t,rfl}:=r;rfl
 |ref _=>ext r;rfl
 |ty _=>ext r;rfl
theorem RelV.inj (r:RelV x u)(q:RelV y u):x=y:=qt (r.abs.symm.trans q.abs)
theorem Vals.inj:∀{a b:List V} {c:List Value},Vals a c->Vals b c->a=b
 |_,_,_,.nil,.nil=>rfl
 |_,_,_,.cons r t,.cons d e=>by rw[r.inj d,Vals.inj t e]
section
variable {X:Cx}{pins:List<|Addr×Obj}{σ:St}{H:Hp}{s:aq}{a:Addr}{xs ys:List V}
theorem SqL.of {K:Z5}(h:H a=Y (.lst xs)):SqL K H a xs:=.inl (.inl h)
theorem dC.of {K:Z5}(h:H a=Y (.tup xs)):dC K H a xs:=.inl (.inl h)
def Inv.list (I:Inv X pins σ H s)(h:SqL X.K H a xs):∃b,Vals xs b/\PlainL s.heap a b.toArray/\xs.length<=aw:=by
 rcases h with h|⟨o,b,n,hk,c,hd,hs,d,r⟩
 .let{z,b,n,r,e}:=h.ok I.hok;exact{b,r,{_,n,e,rfl,rfl,rfl},z}
 .refine{b.toList,r,{o,n,I.dM a o hk,c,hd,by simpa using hs},?_};have e:=r.length;simp at e;omega
def Inv.tuple (I:Inv X pins σ H s)(h:dC X.K H a xs):∃b,Vals xs b/\IsTup s.heap a b.toArray/\xs.length<=aw:=by
 rcases h with h|⟨o,b,n,hk,c,_,hs,d,r⟩
 .let{z,b,r,p}:=h.ok I.hok;exact{(b),r,p.tup,z}
 .refine{b.toList,r,{o,I.dM a o hk,c,n,by simpa using hs},?_};have e:=r.length;simp at e;omega
def Inv.nQ (I:Inv X pins σ H s)(h:SqL X.K H a xs)(i:SqL X.K H a ys):xs=ys:=by
 let{c,r,{o,n,e,_,_,d},_}:=I.list h;let{b,j,{k,l,f,_,_,g},_}:=I.list i;rw[e]at f;ext f;rw[d]at g;injection g with d1 _;have:c=b:=by simpa using congrArg Array.toList d1
 subst this;exact r.inj j
def Inv.lI (I:Inv X pins σ H s)(h:dC X.K H a xs)(i:dC X.K H a ys):xs=ys:=by
 let{c,r,{o,e,_,n,d},_}:=I.tuple h;let{b,j,{k,f,_,l,g},_}:=I.tuple i;rw[e]at f;ext f;rw[d]at g;injection g with d1 _;have:c=b:=by simpa using congrArg Array.toList d1
 subst this;exact r.inj j
end
abbrev Cx.fE (X:Cx)(E:Value->aq->Prop):Cx:={X with xe:=E}
abbrev Cx.vR (X:Cx):Cx:=X.fE λ_ _=>False
theorem Cx.Ok.fE {X:Cx}(ok:X.Ok)(E:Value->aq->Prop):(X.fE E).Ok:={ok.mod,ok.kind,ok.glob,ok.blt,ok.above,ok.inj,ok.has,(ok.sP),ok.hd,ok.frames,ok.uJ,ok.gE,ok.bs,ok.mP,ok.jV,ok.jW,ok.dF,ok.pX,ok.zb}
theorem Cx.Ok.cU {X:Cx}(ok:(X.fE E).Ok):X.Ok:={ok.mod,ok.kind,ok.glob,ok.blt,ok.above,ok.inj,ok.has,(ok.sP),ok.hd,ok.frames,ok.uJ,ok.gE,ok.bs,ok.mP,ok.jV,ok.jW,ok.dF,ok.pX,ok.zb}
section
variable {X:Cx}{pins:List<|Addr×Obj}{σ:St}{H:Hp}{s:aq}{E:Value->aq->Prop}
theorem Inv.fE (I:Inv X pins σ H s)(E:Value->aq->Prop):Inv (X.fE E) pins σ H s:={I.ok.fE E,I.os,I.bare,I.base,I.loc,I.cell,I.free,I.bJ,I.pin,I.hok,I.len,I.fx}
theorem Inv.cU (I:Inv (X.fE E) pins σ H s):Inv X pins σ H s:={I.ok.cU,(I.os),I.bare,I.base,I.loc,I.cell,I.free,I.bJ,I.pin,I.hok,I.len,I.fx}
def SP.cU (h:SP (X.fE E) pins D f c):SP X pins D f c:=by
 cases f with
 |next=>let{a,b,I,q}:=h;exact{(a),b,I.cU,q}
 |brk=>let{a,b,I,q}:=h;exact{(a),b,I.cU,q}
 |cont=>let{a,b,I,q}:=h;exact{(a),b,I.cU,q}
 |ret u=>let{v,a,b,I,r,q}:=h;exact{(v),a,b,I.cU,r,q}
theorem PSs.vR {st:List Stmt}(h:PSs X.vR st t):PSs X st t:=λpins s σ H D I a=>il (h pins s σ H D (I.fE _) a) (λ_ _ q=>q.cU) λ_ _ z=>False.elim z
end
section
variable {X:Cx}{st:Stmt}{rest:List Stmt}{t u:TS}{e:Expr}{te:TE}{pos:Pos}
def Gb:TS:=λD σ H=>D.nx σ H
def vS (t u:TS):TS:=λD σ H=>t {D with nx:=u D} σ H
theorem Ge:PSs X [] Gb:=λ_ _ a H _ I h=>kr {(a),H,I,h}
def Gf (c:PS X st t)(d:PSs X rest u):PSs X (st::rest) (vS t u):=by
 intro a s e H D I h;refine wpAny_execs_cons<|aR (c a s e H {D with nx:=u D} I h) λf g q=>?_;cases f with
 |next=>let{b,i,j,q}:=q;exact d a g b i D j q
 |ret v=>exact q
 |brk=>exact q
 |cont=>exact q
def Mx:TS:=λD σ H=>D.ct σ H
theorem My:PS X (.Continue pos) Mx:=λ_ _ a H _ I h=>wpAny_Continue {(a),H,I,h}
def Inv.quiet (I:Inv X a b H s):interactive X.env=false:=by simp[interactive,I.ok.kind]
def vT (te:TE):TS:=λD σ H=>te σ H λ_ H1=>D.nx σ H1
def Mz (c:PE X e te)(hs:jh e Z8 pos.line X.env=pure false:=by rfl):PS X (.Expr e pos) (vT te):=by intro a s b H D I h;exact wpAny_Expr_any (aR (c a s b H _ I h) λv i ⟨x,d,f,j,g⟩=>{(b),d,f,g}) I.quiet hs
def vU (te:TE):TS:=λD σ H=>te σ H D.rt
def Br (c:PE X e te):PS X (.Return (Y e) pos) (vU te):=by intro a s b H D I h;exact wpAny_Return_some (aR (c a s b H _ I h) λv j ⟨x,d,f,g,i⟩=>{(x),b,d,f,g,i})
def vV (c:TT)(t u:TS):TS:=λD σ H=>c σ H λb H1=>if b=J then t D σ H1 else u D σ H1
def Gh (l:PT X c tc)(ha:PSs X a t)(hb:PSs X b u):PS X (.If c a b pos) (vV tc t u):=by
 intro e s f H D I h;refine wpAny_If<|aR (l e s f H _ I h) λd g ⟨i,j,k⟩=>?_;cases d with
 |true=>exact ha e g f i D j k
 |false=>exact hb e g f i D j k
end
abbrev TG:=V->St->Hp->(St->Hp->Prop)->Prop
abbrev uK:=List V->St->Hp->(St->Hp->Prop)->Prop
def PG (X:Cx)(target:Expr)(t:TG):Prop:=∀(pins:List<|Addr×Obj) (s:aq) (σ:St) (H:Hp) (v:V) (u:Value) (Q:St->Hp->Prop),Inv X pins σ H s->RelV v u->t v σ H Q->X['a'] (ou target X.env u) (λ_ s'=>∃bM H',Inv X pins bM H' s'/\Q bM H') X.xe s
def PGs (X:Cx)(ts:List Expr)(t:uK):Prop:=∀(pins:List<|Addr×Obj) (s:aq) (σ:St) (H:Hp) (vs:List V) (us:List Value) (Q:St->Hp->Prop),Inv X pins σ H s->Vals vs us->t vs σ H Q->X['a'] (assignInOrder ((fo ts X.env).map (·.2)) us) (λ_ s'=>∃bM H',Inv X pins bM H' s'/\Q bM H') X.xe s
abbrev Bt:=V->V->V->Hp->(Hp->Prop)->Prop
def Bu (X:Cx)(t:Bt):Prop:=∀(pins:List<|Addr×Obj) (s:aq) (σ:St) (H:Hp) (o i v:V) (ov iv u:Value) (Q:Hp->Prop),Inv X pins σ H s->RelV o ov->RelV i iv->RelV v u->t o i v H Q->X['a'] (setItem ov iv u) (λ_ s'=>∃H',Inv X pins σ H' s'/\Q H') X.xe s
section
variable {X:Cx}{pos:Pos}
def uL (i:Nat):TG:=λv σ H Q=>Q (σ.set i<|Y v) H
def Gi (hN:X.N.Nodup)(b:X.N[i]?=Y x)(c:Loc X.env.scope x)(hf:X.fn x=J\/X[!x]=Y .local:=by first|exact .inl rfl|exact .inr rfl|assumption):PG X (.Name x pos) (uL i):=by intro a s e H v u Q I r h;exact o6 (z6a I hN b c r (λf d=>{_,H,d,h}) hf)
def Bv:uK:=λvs σ H Q=>vs=[]/\Q σ H
def MA (t:TG)(u:uK):uK:=λvs σ H Q=>∃v r,vs=v::r/\t v σ H λbM H'=>u r bM H' Q
def MB:PGs X [] Bv:=by
 rintro a s b H c d Q I r ⟨rfl,h⟩
 ext r;exact assignInOrder_nil {(b),H,I,h}
def zgk (c:PG X e t)(d:PGs X es u)
  (hs:(fo (e::es) X.env).map (·.2)=ou e X.env::(fo es X.env).map (·.2):=by rfl):PGs X (e::es) (MA t u):=by
 rintro a s f H l m Q I r ⟨v,n,rfl,h⟩
 cases r with
 |cons r rr=>rw[hs];refine assignInOrder_cons<|aR (c a s f H _ _ _ I r h) λ_ g ⟨b,i,j,k⟩=>?_;exact d a g b i _ _ Q j rr k
def Bw (K:Z5)(n:Nat)(t:uK):TG:=λv σ H Q=>∃a xs,v=.ref a/\dC K H a xs/\xs.length=n/\t xs σ H Q
def zro (g:X.calm=J)(h:PGs X es t)
  (hn:(fo es X.env).length=n:=by rfl) (d:(fo es X.env).findIdx? (·.1)=none:=by rfl):PG X (.Tuple es k pos) (Bw X.K n t):=by
 rintro c s f H v u Q I r ⟨a,i,rfl,j,hl,l⟩
 ext r;let{m,rv,ht,w}:=I.tuple j;refine assign_Tuple_tuple (I.ok.hd g) ht (by simp[hn,<-hl,rv.length]) d λp hx=>?_;have q:Inv X c f H {s with heap:=p}:=I.kept λb o e=>hx b o (cg<|bb e) e;exact h c _ f H i _ Q q (by simpa using rv) l
def lJ (te:TE)(g:TG):TS:=λD σ H=>te σ H λx H1=>g x σ H1 D.nx
def zp4 (d:PE X e f)(i:PG X b g)(hs:oh [b] e pos.line X.env=pure false:=by rfl)(j:oj [b] e X.env=pure none:=by rfl)
  (k:(fo [b] X.env).map (·.2)=[ou b X.env]:=by rfl):PS X (.Assign [b] e pos) (lJ f g):=by
 intro a s c H D I h;refine wpAny_Assign_stores (aR (d a s c H _ I h) λv l ⟨x,m,n,o,p⟩=>?_) hs j;rw[k];exact aR (i a l c m x v _ n o p) λ_ r q=>q
def za8 (hN:X.N.Nodup)(c:X.N[i]?=Y x)(d:Loc X.env.scope x)(f:PE X e g)(hs:jh e (Y<|.Name x a) pos.line X.env=pure false:=by rfl)(hf:X.fn x=J\/X[!x]=Y .local:=by first|exact .inl rfl|exact .inr rfl|assumption):
  PS X (.Assign [.Name x a] e pos) (lJ g<|uL i):=by
 intro b s j H D I h;refine wpAny_Assign_Name (aR (f b s j H _ I h) λv p ⟨y,k,l,m,n⟩=>?_) hs;exact z6a l hN c d m (λq o=>{_,k,o,n}) hf
end
section
variable {X:Cx}{pos:Pos}
def Gj (c:TT)(tb:TS):TS:=λD σ H=>∃W:Nat->St->Hp->Prop,(∃m,W m σ H)/\∀m σ H,W m σ H->c σ H λb H1=>if b=J then ∃N:St->Hp->Prop,(∀bM H',N bM H'->∃m',m'<m/\W m' bM H')/\tb {D with nx:=N,ct:=N,bk:=D.nx} σ H1 else D.nx σ H1
def Gk (r:e9 (model X.prog X.w) X.A X.env X.xe)(z:PT X c tc)(B:PSs X g C):PS X (.While c g [] pos) (Gj tc C):=by
 rintro a s E H D I ⟨W,⟨m0,F⟩,h⟩
 refine wpAny_While (codeAny_whileLoop (λn G=>∃i t,Inv X a i t G/\W n i t) ?_ m0 {(E),H,I,F})
 rintro n ZK ⟨e,u,K,w1⟩
 refine gk r<|aR (z a ZK e u _ K<|h n e u w1) λb L ⟨x,y,k⟩=>?_;cases b with
 |true=>
  let{N,hN,k}:=k;refine gk r<|aR (B a L e x _ y k) λf M l=>?_;cases f with
  |next=>let{d,j,m,o}:=l;let{p,hm,q}:=hN d j o;exact{(p),hm,d,j,m,q}
  |cont=>let{d,j,m,o}:=l;let{p,hm,q}:=hN d j o;exact{(p),hm,d,j,m,q}
  |brk=>exact l
  |ret v=>exact l
 |false=>exact kr {(e),x,y,k}
end
structure It where
 go:Nat->Hp->Prop
 lK:Nat->Hp->V->Hp->Prop
 stop:Nat->Hp->Prop
def FpOk (X:Cx)(pins:List<|Addr×Obj)(H:Hp)(b:Addr):Prop:=H b=Z8/\b≠X.env.locals/\b∉X.fs/\(b∈X.ex\/X.s₀[?_]<=b)/\(∀x c,X.env.cells.lookup x=Y c->c≠b)/\∀p∈X.pn++pins,p.1≠b
def Inv.i' (I:Inv X a g H s)(hb:s[?_]<=b)(hn:d b=Z8):FpOk X a d b:=by
 refine{hn,mh<|bx I.lt hb,I.vN hb,.inr<|bj I.sz hb,λx c e z=>?_,λp f z=>?_}
 .let{v,q}:=I.cell x c e;exact absurd (bx q.lt<|z▸hb) (c8 _)
 .exact absurd (bx (bb (I.pin p f).1)<|z▸hb) (c8 _)
structure Turn (P:b9)(w:World)(K:Z5)(tg:Expr)(ZK:It)(fp:List Addr)(it:Addr)(tn:Nat->Heap->Prop):Prop where
 mem:it∈fp
 obj:∀i h,tn i h->∀b∈fp,∃o,h.get? b=Y o/\∀v,o.data≠.cell v
 keep:∀i h h',tn i h->(∀b∈fp,∀o,h.get? b=Y o->h'.get? b=Y o)->tn i h'
 item:∀(X:Cx),X.prog=P->X.w=w->X.K=K->X.calm=J->∀(i:Nat) (pins:List<|Addr×Obj) (s:aq) (σ:St) (H:Hp) (E:Value->aq->Prop),Inv X pins σ H s->(∀b∈fp,FpOk X pins H b)->tn i s.heap->ZK.go i H->wpAny (model P w) X.A (p7<|.ref it) (λr s1=>∃u,r=Y u/\wpAny (model P w) X.A (iw tg (.ref it) u) (λ_ s2=>∃x H',Inv X pins σ H' s2/\RelV x u/\ZK.lK i H x H'/\tn (i+1) s2.heap/\∀b∈fp,H' b=Z8) E s1) E s
 done:∀(X:Cx),X.prog=P->X.w=w->X.K=K->X.calm=J->∀(i:Nat) (pins:List<|Addr×Obj) (s:aq) (σ:St) (H:Hp) (E:Value->aq->Prop),Inv X pins σ H s->(∀b∈fp,FpOk X pins H b)->tn i s.heap->ZK.stop i H->wpAny (model P w) X.A (p7<|.ref it) (λr s1=>r=Z8/\Inv X pins σ H s1) E s
 self:∀(A:eh) (i:Nat) (s:aq) (Q:Value->aq->Prop) (E:Value->aq->Prop),tn i s.heap->Q (.ref it) s->wpAny (model P w) A (p8<|.ref it) Q E s
abbrev TI:=St->Hp->(It->Hp->Prop)->Prop
def sQ (X:Cx)(pins:List<|Addr×Obj)(σ:St)(tg:Expr)(R:It->Hp->Prop)(vW:Value)(s2:aq):Prop:=∃(it:Addr) (fp:List Addr) (tn:Nat->Heap->Prop) (ZK:It) (H':Hp),vW=.ref it/\Inv X pins σ H' s2/\Turn X.prog X.w X.K tg ZK fp it tn/\tn 0 s2.heap/\(∀b∈fp,FpOk X pins H' b)/\R ZK H'
def PI (X:Cx)(tg iter:Expr)(wi:TI):Prop:=∀(pins:List<|Addr×Obj) (s:aq) (σ:St) (H:Hp) (R:It->Hp->Prop),Inv X pins σ H s->wi σ H R->X['a'] (eval iter X.env) (λv s1=>X['a'] (p8 v) (sQ X pins σ tg R) X.xe s1) X.xe s
def z83 (ho:s.heap.get? b=Y o)(c:o.cls=.type n)(hd:o.data=.fields d)
  (hn:["enumerate","zip","dict_itemiterator","dict_reverseitemiterator","odict_iterator","itertools.zip_longest","itertools.pairwise"].contains n=Z6) (a:Q () s):wpAny M A (iw e (.ref b) u) Q E s:=by
 ext e<;>first
  |exact au a
  |(ext u<;>first
   |exact au a
   |(refine aa (qg ho ?_)
     rw[c,hd];show wpAny M A (if(["enumerate","zip","dict_itemiterator","dict_reverseitemiterator","odict_iterator","itertools.zip_longest","itertools.pairwise"].contains n&&d[0]?==Y (jl _))=J then _ else _) Q E s;rw[qr (by intro h;rw[hn]at h;ext h)];exact au a))
def Bz (K:Z5)(a:Addr):It:={λi H=>∃xs x,SqL K H a xs/\xs[i]?=Y x,λi H x H'=>H'=H/\∀xs,SqL K H a xs->xs[i]?=Y x,λi H=>∃xs,SqL K H a xs/\xs.length<=i}
def Gp (K:Z5)(a:Addr):It:={λi H=>∃xs x,dC K H a xs/\xs[i]?=Y x,λi H x H'=>H'=H/\∀xs,dC K H a xs->xs[i]?=Y x,λi H=>∃xs,dC K H a xs/\xs.length<=i}
def zh (lo:Int)(n:Nat):It:={λi _=>i<n,λi H x H'=>H'=H/\x=.int (lo+i),λi _=>n<=i}
def Gq {K:Z5}(a g:Addr):Turn P w K ZL (Bz K a) [g] g (λi h=>h.IsListIter g a i) where
 mem:=by simp
 obj:=λi h st b hb=>by
  have e:b=g:=by simpa using hb
  subst e;let{o,e,c,d}:=st;exact{o,e,λv z=>by rw[d]at z;ext z}
 keep:=λi h m st k=>st.at λo e=>k g ZO o e
 item:=by intro X n q r G i f s ZK H E I hf st t;subst n q r;let{L,x,l,hx}:=t;let{y,rv,p,M}:=I.list l;let{u,hu,N}:=rv.get hx;let{A,B,O,C,D,F}:=hf g ZO;refine wpAny_pyNext_list_item st p.isList (by simpa using hu) λm j Q=>?_;have R:Inv X f ZK H {s with heap:=m}:=I.turned (λb o hb e=>(Q.2 b hb).trans e) A B C D F;let{o,e,c,d}:=id j;exact{u,rfl,z83 e c d ZP {x,H,R,N,{rfl,λV S=>by rw[I.nQ S l];exact hx},j,λb hb=>(hf b hb).1}}
 done:=by intro X n q r G i f s ZK H E I hf st t;subst n q r;let{L,l,hx}:=t;let{y,rv,p,M}:=I.list l;let{A,B,O,C,D,F}:=hf g ZO;have hl:=rv.length;exact wpAny_pyNext_list_end (I.ok.hd G) st p.isList (by grind) λm T=>{rfl,I.turned (λb o hb e=>T b o hb e) A B C D F}
 self:=λ_ _ _ _ _ st h=>wpAny_pyIter_listiter st h
def MC {K:Z5}(a g:Addr):Turn P w K ZL (Gp K a) [g] g (λi h=>h.IsTupleIter g a i) where
 mem:=by simp
 obj:=λi h st b hb=>by
  have e:b=g:=by simpa using hb
  subst e;let{o,e,c,d}:=st;exact{o,e,λv z=>by rw[d]at z;ext z}
 keep:=λi h m st k=>st.at λo e=>k g ZO o e
 item:=by intro X n q r G i f s ZK H E I hf st t;subst n q r;let{L,x,l,hx}:=t;let{y,rv,p,M}:=I.tuple l;let{u,hu,N}:=rv.get hx;let{A,B,O,C,D,F}:=hf g ZO;refine wpAny_pyNext_tuple_item st p (by simpa using hu) λm j Q=>?_;have R:Inv X f ZK H {s with heap:=m}:=I.turned (λb o hb e=>(Q.2 b hb).trans e) A B C D F;let{o,e,c,d}:=id j;exact{u,rfl,z83 e c d ZP {x,H,R,N,{rfl,λV S=>by rw[I.lI S l];exact hx},j,λb hb=>(hf b hb).1}}
 done:=by intro X n q r G i f s ZK H E I hf st t;subst n q r;let{L,l,hx}:=t;let{y,rv,p,M}:=I.tuple l;let{A,B,O,C,D,F}:=hf g ZO;have hl:=rv.length;exact wpAny_pyNext_tuple_end (I.ok.hd G) st p (by grind) λm T=>{rfl,I.turned (λb o hb e=>T b o hb e) A B C D F}
 self:=λ_ _ _ _ _ st h=>wpAny_pyIter_tupleiter st h
def MD {K:Z5}(a:Addr)(f:Int)(n:Nat):Turn P w K L (zh f n) [a] a (λi h=>IsRangeIter h a (f+(i:Nat)*1) ((n:Int)-(i:Nat)) 1) where
 mem:=by simp
 obj:=λi h st b hb=>by
  have e:b=a:=by simpa using hb
  subst e;exact{_,st,λv z=>by ext z}
 keep:=λi h g st k=>k a ZO _ st
 item:=by intro X x y A j i c s B H E I hf st l;subst x y A;let{m,p,C,q,r,u}:=hf a ZO;refine(Walks.range (prog:=X.prog) (w:=X.w) (I.ok.hd j) a f 1 n).item i s _ _ l st λv g D F d kk=>?_;let{t,rfl}:=F;have G:Inv X c B H {s with heap:=g,toks:=D}:=I.turned (λb o hb e=>kk b o (by simpa using hb) e) m p q r u;refine{_,rfl,z83 d rfl rfl ZP {.int<|f+i,H,G,{t,?_},{(rfl),rfl},d,λb hb=>(hf b hb).1}};rw[Int.mul_one]
 done:=by intro X x y A j i c s B H E I hf st l;let{m,p,C,q,r,u}:=hf a ZO;exact wpAny_pyNext_range_end (I.ok.hd j) st (by have:n<=i:=l;omega) λg ZK=>{rfl,I.turned (λb o hb e=>ZK b o hb e) m p q r u}
 self:=λ_ _ _ _ _ st h=>wpAny_pyIter_rangeiter st h
section
variable {X:Cx}{tg:Expr}
def vX (K:Z5)(tl:TE):TI:=λσ H R=>tl σ H λx H1=>∃a,x=.ref a/\(∃xs,SqL K H1 a xs)/\R (Bz K a) H1
def MF (hl:PE X l tl):PI X tg l (vX X.K tl):=by
 intro c s g H R I h;refine aR (hl c s g H _ I h) λv f ⟨x,i,d,j,k⟩=>?_;let{a,rfl,{r,m},q}:=k;ext j;let{n,rv,p,t}:=d.list m;refine jx p.isList<|{f[?_],[f[?_]],_,_,i,rfl,d.kept λb o e=>af _ e,Gq a _,{_,ba _ rfl,rfl,rfl},λb hb=>?_,q};have e:b=f[?_]:=by simpa using hb
 subst e;exact d.i' (ag _) (d.hok.fresh<|ag _)
def zgf {a:Int}(I:Inv X d g H s)(h:-(2 ^ 62)<=a)(i:a<2 ^ 62)(j:-(2 ^ 62)<=c)(k:c<2 ^ 62)
  (q:R (zh a (c-a).toNat) H):X['a'] (p8<|.ref s[?_]) (sQ X d g tg R) E {s with heap:=s.heap.push {cls:=.type "range",data:=.fields #[.int a t,.int c u,.int 1 v]},toks:=tk}:=by
 refine wpAny_pyIter_range (IsRange.new ..) (small_one h i j k) ?_;have f:Inv X d g H {s with heap:=s.heap.push {cls:=.type "range",data:=.fields #[.int a t,.int c u,.int 1 v]},toks:=tk}:=I.kept λb o e=>af _ e;refine{(s.heap.push {cls:=.type "range",data:=.fields #[.int a t,.int c u,.int 1 v]}).objs.size,[(s.heap.push {cls:=.type "range",data:=.fields #[.int a t,.int c u,.int 1 v]}).objs.size],_,_,H,rfl,f.kept λb o e=>af _ e,MD _ a (c-a).toNat,?_,λb hb=>?_,q}
 .have l:a+((0:Nat):Int)*1=a:=by simp
  have m:(((c-a).toNat:Nat):Int)-((0:Nat):Int)=Builtin.Range.rangeSize a c 1:=by rw[rangeSize_one];split<;>omega
  rw[l,m];exact ba _ rfl
 .have e:b=(s.heap.push {cls:=.type "range",data:=.fields #[.int a t,.int c u,.int 1 v]}).objs.size:=by simpa using hb
  subst e;exact f.i' (ag _) (f.hok.fresh<|ag _)
def MG (ta:TA):TI:=λσ H R=>ta σ H λvs H1=>∃j:Int,vs=[.int j]/\-(2 ^ 62)<=j/\j<2 ^ 62/\R (zh 0 j.toNat) H1
def MH (d:Gl X "range")(hm:X.mg "range"=Z8)(ha:PA X [a] e)(hs:cx [a] X.env=[(Z6,eval a X.env)]:=by rfl):PI X tg (.Call (.Name "range" p) [a] [] pos) (MG e):=by
 intro b s f H R I h;refine Call_<|z2t I d hm boot_range<|PyProof.Rows.callWith_type1 (aR (ha pos b s f H _ I h) λl m ⟨n,o,g,i,c⟩=>?_) hs rfl;let{j,rfl,c,k,q}:=c;cases i with
 |cons r rr=>ext rr;let{t,rfl}:=r;exact call_range_1 (zgf g ZQ ZQ c k<|by simpa using q)
def jX (wi:TI)(g:TG)(tb:TS):TS:=λD σ H=>wi σ H λZK H1=>∃W:Nat->Nat->St->Hp->Prop,(∃m,W 0 m σ H1)/\∀i m σ H,W i m σ H->(ZK.stop i H/\D.nx σ H)\/(ZK.go i H/\∃N:St->Hp->Prop,(∀bM H',N bM H'->∃m',m'<m/\W (i+1) m' bM H')/\∀x H',ZK.lK i H x H'->g x σ H' λGr H2=>tb {D with nx:=N,ct:=N,bk:=D.nx} Gr H2)
def z6m (fp:List Addr)(h:Heap):List (Addr×Obj):=fp.filterMap λb=>(h.get? b).map λo=>(b,o)
theorem zi (hb:b∈a)(e:h.get? b=Y o):(b,o)∈z6m a h:=la.mpr {b,hb,by rw[e];rfl}
def MI (a:p∈z6m c h):p.1∈c/\h.get? p.1=Y p.2:=by
 let{b,hb,e}:=la.mp a;cases q:h.get? b with
 |none=>rw[q]at e;ext e
 |some o=>rw[q]at e;have d:=qt e;subst d;exact{hb,(q)}
theorem Inv.pinned (I:Inv X a g H s)(hf:∀b∈c,FpOk X a H b)(ho:∀b∈c,∃o,s.heap.get? b=Y o/\∀v,o.data≠.cell v):Inv X (a++z6m c s.heap) g H s:=I.hY λp h=>(bg.mp h).elim (λz=>I.pin p<|bp _ z) λz=>by let{hb,e}:=MI z;let{i,j,k,_}:=hf p.1 hb;let{o,f,d}:=ho p.1 hb;rw[e]at f;ext f;exact{(e),i,j,k,d}
theorem Inv.dG (I:Inv X (a++pl) b H s):Inv X a b H s:=I.hY λp c=>I.pin p (bp _<|cq _ c)
def zec (C:e9 (model X.prog X.w) X.A X.env X.xe)(ZL:X.calm=J)(hi:PI X tg y wi)(hg:PG X tg g)(hb:PSs X E tb)
  (hs:∀x,fh y X.env x=pure x:=by intro _;rfl):PS X (.For tg y E [] pos) (jX wi g tb):=by
 intro a s V H D I h;refine wpAny_For (aR (hi a s V H _ I h) λv s1 h1=>aR h1 λvW s2 h2=>?_) hs;let{it,F,tn,ZK,H2,rfl,I2,T,P,ZM,W,{m0,w0},G}:=h2;have j:∀{t:Hp},(∀b∈F,t b=Z8)->∀b∈F,FpOk X a t b:=λhn b hb=>{hn b hb,(ZM b hb).2};refine codeAny_forLoop_any (λn s'=>∃i k t,Inv X a k t s'/\tn i s'.heap/\(∀b∈F,t b=Z8)/\W i n k t) ?_ m0 {0,V,H2,I2,P,λb hb=>(ZM b hb).1,w0}
 rintro n s3 ⟨i,sR,O,I3,K,L,w3⟩
 rcases G i n sR O w3 with⟨stop,qn⟩|⟨go,N,hN,step⟩
 .refine gk C (aR (T.done X rfl rfl rfl ZL i a s3 sR O X.xe I3 (j L) K stop) λr s4 ⟨hr,I4⟩=>?_);subst hr;exact kr {sR,(O),I4,qn}
 .refine gk C (aR (T.item X rfl rfl rfl ZL i a s3 sR O X.xe I3 (j L) K go) λr s4 ⟨u,hr,h4⟩=>?_);subst hr;refine gk C<|aR h4 λ_ s5 ⟨x,H5,I5,r5,y5,B,Q⟩=>?_;refine gk C<|aR (hg _ s5 sR H5 x u _ (I5.pinned (j Q)<|T.obj _ _ B) r5<|step x H5 y5) λ_ s6 ⟨R,H6,I6,q6⟩=>?_;refine gk C<|aR (hb _ s6 R H6 _ I6 q6) λf S z=>?_;have l:∀{c:St} {p:Hp},Inv X (a++z6m F s5.heap) c p S->N c p->∃m,m<n/\∃i k t,Inv X a k t S/\tn i S.heap/\(∀b∈F,t b=Z8)/\W i m k t:=λ{c p} q M=>by let{m',hm,w7}:=hN c p M;refine{m',hm,i+1,c,p,q.dG,T.keep _ _ _ B λb hb o e=>(q.pin (b,o)<|bp _<|bp _<|zi hb e).1,λb hb=>?_,w7};let{o,e,d}:=T.obj _ _ B b hb;exact(q.pin (b,o)<|bp _<|bp _<|zi hb e).2.1
  cases f with
  |next=>let{c,p,q,M}:=z;exact l q M
  |cont=>let{c,p,q,M}:=z;exact l q M
  |brk=>let{c,p,q,z}:=z;exact{(c),p,q.dG,z}
  |ret v=>let{x7,c,p,q,r7,z}:=z;exact{x7,(c),p,q.dG,r7,z}
end
abbrev R2:=V->V->Hp->VK->Prop
def OpR (X:Cx)(f:Value->Value->Sem Value)(r:R2):Prop:=∀(pins:List<|Addr×Obj) (s:aq) (σ:St) (H:Hp) (x y:V) (v u:Value) (Q:VK),Inv X pins σ H s->RelV x v->RelV y u->r x y H Q->X['a'] (f v u) (EP X pins σ Q) X.xe s
def BA (X:Cx)(f:Value->Sem Value)(r:V->Hp->VK->Prop):Prop:=∀(pins:List<|Addr×Obj) (s:aq) (σ:St) (H:Hp) (x:V) (v:Value) (Q:VK),Inv X pins σ H s->RelV x v->r x H Q->X['a'] (f v) (EP X pins σ Q) X.xe s
def CallR (X:Cx)(f:Value)(r:List V->Hp->VK->Prop):Prop:=∀(pins:List<|Addr×Obj) (s:aq) (σ:St) (H:Hp) (xs:List V) (us:List Value) (Q:VK),Inv X pins σ H s->Vals xs us->r xs H Q->X['a'] (call f us) (EP X pins σ Q) X.xe s
def BB (X:Cx)(r:V->Hp->(Bool->Hp->Prop)->Prop):Prop:=∀(pins:List<|Addr×Obj) (s:aq) (σ:St) (H:Hp) (x:V) (v:Value) (Q:Bool->Hp->Prop),Inv X pins σ H s->RelV x v->r x H Q->X['a'] (truthy v) (TP X pins σ Q) X.xe s
def mR (r:R2)(ta tb:TE):TE:=λσ H Q=>ta σ H λx H1=>tb σ H1 λy H2=>r x y H2 Q
def MJ (r:V->Hp->VK->Prop)(ta:TE):TE:=λσ H Q=>ta σ H λx H1=>r x H1 Q
def rI (C:Int->Int->Prop)(g:Int->Int->V):R2:=λx y H Q=>∃i j,x=.int i/\y=.int j/\C i j/\Q (g i j) H
def mS (g:Int->Int->V):R2:=λx y H Q=>∃i j,x=.int i/\y=.int j/\Q (g i j) H
def rU (g:Int->V):V->Hp->VK->Prop:=λx H Q=>∃i,x=.int i/\Q (g i) H
section
variable {X:Cx}{a b c:Expr}{ta tb tc:TE}{pos:Pos}
def binT (ha:PE X a ta)(hb:PE X b tb){R:V->V->Hp->Prop}(I:Inv X pins d H s)
  (h:ta d H λx j=>tb d j λy c=>R x y c) {f:Value->Value->Sem Value}
  (hf:∀v u i x y c,Inv X pins d c i->RelV x v->RelV y u->R x y c->X['a'] (f v u) Q X.xe i):
  X['a'] (eval a X.env) (λv e=>X['a'] (eval b X.env) (λu g=>X['a'] (f v u) Q X.xe g) X.xe e) X.xe s:=by
 exact aR (ha pins s d H _ I h) λv k ⟨x,j,l,m,n⟩=>aR (hb pins k d j _ l n) λu i ⟨y,c,o,p,q⟩=>hf v u i x y c o m p q
def Gs (ho:OpR X (f8 op) r)(ha:PE X a ta)(hb:PE X b tb):PE X (.BinOp a op b pos) (mR r ta tb):=by intro c s d H Q I h;exact wpAny_BinOp (binT ha hb I h λv u e x y f g i j q=>ho c e d f x y v u Q g i j q)
def MK (d:BA X (unaryOp e) r)(f:PE X a ta):PE X (.UnaryOp e a pos) (MJ r ta):=by intro b s c H Q I h;exact UnaryOp_ (aR (f b s c H _ I h) λv g ⟨x,i,j,k,l⟩=>d b g c i x v Q j k l)
def opI {g:Int->Int->Int}
  (a:∀i j t u s Q E,C i j->Q (.int (g i j) s.toks) {s with toks:=s.toks+1}->X['a'] (f (.int i t)<|.int j u) Q E s):
  OpR X f (rI C λi j=>.int<|g i j):=by
 rintro b s k H x y v u Q I c d ⟨i,j,rfl,rfl,e,q⟩
 let{t,rfl}:=c;let{h,rfl}:=d;exact a i j t h s _ _ e {.int<|g i j,H,I.tok _,{_,rfl},q}
def opI0 {g:Int->Int->Int}
  (a:∀i j t u s Q E,Q (.int (g i j) s.toks) {s with toks:=s.toks+1}->X['a'] (f (.int i t)<|.int j u) Q E s):
  OpR X f (mS λi j=>.int<|g i j):=by
 rintro b s h H x y v u Q I c d ⟨i,j,rfl,rfl,q⟩
 let{t,rfl}:=c;let{e,rfl}:=d;exact a i j t e s _ _ {.int<|g i j,H,I.tok _,{_,rfl},q}
def opB0 {g:Int->Int->Bool}
  (a:∀i j t u s Q E,Q (.bool<|g i j) s->X['a'] (f (.int i t)<|.int j u) Q E s):
  OpR X f (mS λi j=>.bl<|g i j):=by
 rintro b s h H x y v u Q I c d ⟨i,j,rfl,rfl,q⟩
 let{t,rfl}:=c;let{e,rfl}:=d;exact a i j t e s _ _ {.bl<|g i j,H,I,rfl,q}
def BD (i j:Int):Prop:=0<=j/\j<=1000000/\i.natAbs<2 ^ 64
def sS (i j:Int):Prop:=(-(2 ^ 64)<i/\i<2 ^ 64)\/(-(2 ^ 64)<j/\j<2 ^ 64)
def sS.ok (h:sS i j):IntMulOk i j:=by
 rcases h with⟨a,b⟩|⟨a,b⟩
 .exact .of_left (intBits_le_64 a b)
 .exact .of_right (intBits_le_64 a b)
theorem ML:OpR X (f8 .Add) (mS λi j=>.int<|i+j):=opI0 λ_ _ _ _ _ _ _ q=>add_int q
theorem MM:OpR X (f8 .Sub) (mS λi j=>.int<|i-j):=opI0 λ_ _ _ _ _ _ _ q=>sub_int q
theorem MN:OpR X (f8 .Mult) (rI sS λi j=>.int<|i*j):=opI λ_ _ _ _ _ _ _ a q=>mul_int q a.ok
theorem MO:OpR X (f8 .Mod) (rI (λ_ j=>0<j) λi j=>.int<|i%j):=opI λi j _ _ _ _ _ a q=>by exact mod_int' ZQ (by rw[Int.fmod_eq_emod_of_nonneg i ZQ];exact q)
theorem MP:OpR X (f8 .Pow) (rI BD λi j=>.int<|i ^ j.toNat):=opI λ_ _ _ _ _ _ _ a q=>pow_int_small a.1 a.2.1 a.2.2 q
def unI {g:Int->Int}
  (a:∀i t s Q E,Q (.int (g i) s.toks) {s with toks:=s.toks+1}->X['a'] (f<|.int i t) Q E s):
  BA X f (rU λi=>.int<|g i):=by
 rintro b s d H x v Q I c ⟨i,rfl,q⟩
 let{t,rfl}:=c;exact a i t s _ _ {.int<|g i,H,I.tok _,{_,rfl},q}
theorem MQ:BA X (unaryOp .USub) (rU λi=>.int<|-i):=unI λ_ _ _ _ _ q=>neg_int q
end
section
variable {X:Cx}{a b c:Expr}{ta tb tc:TE}{pos:Pos}
def Gu (I:Inv X pins σ H s)(q:Q (.bl k) H)(e:k=k'):EP X pins σ Q (.bool k') s:=by subst e;exact{.bl k,H,I,rfl,q}
theorem MR:OpR X (cn .Lt) (mS λi j=>.bl (decide (i<j))):=opB0 λ_ _ _ _ _ _ _ q=>lt_int q
theorem MS:OpR X (cn .LtE) (mS λi j=>.bl (decide (i<=j))):=opB0 λ_ _ _ _ _ _ _ q=>le_int q
theorem MT:OpR X (cn .Gt) (mS λi j=>.bl (decide (j<i))):=opB0 λ_ _ _ _ _ _ _ q=>gt_int q
def MU:OpR X (cn .Lt) (λx y H Q=>∃i j,x=.str i/\y=.str j/\Q (.bl (decide (i[[]]<j[[]]))) H):=by
 rintro a s d H x y v u Q I b c ⟨i,j,rfl,rfl,q⟩
 let{t,rfl}:=b;let{e,rfl}:=c;exact lt_str (Gu I q rfl)
def MV:OpR X (cn .In) (λx y H Q=>∃i j,x=.str i/\y=.str j/\Q (.bl<|!(ec j i 0 j.length 1).isEmpty) H):=by
 rintro a s d H x y v u Q I b c ⟨i,j,rfl,rfl,q⟩
 let{t,rfl}:=b;let{e,rfl}:=c;exact in_str (Gu I q rfl)
def OpR.or (h:OpR X f r)(e:OpR X f g):OpR X f (λx y H Q=>r x y H Q\/g x y H Q):=by
 intro a s b H x y v u Q I c d q;rcases q with q|q
 .exact h a s b H x y v u Q I c d q
 .exact e a s b H x y v u Q I c d q
def MW (ho:OpR X (cn op) r)(ha:PE X a ta)(hb:PE X b tb)(hm:d5 op b=Z6):PE X (.Compare a [op] [b] pos) (mR r ta tb):=by intro c s d H Q I h;exact wpAny_Compare1 (binT ha hb I h λv u e x y f g i j q=>ho c e d f x y v u Q g i j q) hm
def vY (t:TE):TT:=λσ H Q=>t σ H λx H'=>∃k,x=.bl k/\Q k H'
def Gv (ho:OpR X (cn op) r)(ha:PE X a ta)(hb:PE X b tb)(hm:d5 op b=Z6):PT X (.Compare a [op] [b] pos) (vY<|mR r ta tb):=by intro d s f H Q I h;refine mw (aR (ha d s f H _ I h) λv g ⟨x,i,j,l,m⟩=>aR (hb d g f i _ j m) λu n ⟨y,o,p,q,t⟩=>aR (ho d n f o x y v u _ p l q t) λc C ⟨z,w,A,r3,k,e,B⟩=>?_) hm;subst e;ext r3;exact d8 {(w),A,B}
def BE (r r':R2)(ta tb tc:TE):TE:=λσ H Q=>ta σ H λx H1=>tb σ H1 λy H2=>r x y H2 λz H3=>∃k,z=.bl k/\(if k=J then tc σ H3 λw' H4=>r' y w' H4 Q else Q (.bl Z6) H3)
def zh8 (q:OpR X (cn l) r)(j:OpR X (cn g) t)(w:PE X a ta)(A:PE X b tb)(B:PE X c tc)
  (hm:l9 [l,g] [b,c]=false:=by with_unfolding_all rfl):PE X (.Compare a [l,g] [b,c] pos) (BE r t ta tb tc):=by
 intro f s i H Q I h;refine Compare_chain (aR (w f s i H _ I h) λv C ⟨x,D,E,F,G⟩=>chain_link<|aR (A f C i D _ E G) λu ZK ⟨y,K,L,m,M⟩=>aR (q f ZK i K x y v u _ L F m M) λd N ⟨z,n,o,O,k,e,p⟩=>?_) hm;subst e;ext O;refine d8 ?_;cases k with
 |false=>exact ite_ff {.bl Z6,n,o,rfl,p}
 |true=>exact ite_tt (chain_last<|aR (B f N i n _ o p) λP R ⟨S,T,ZL,V,W⟩=>j f R i T y S u P Q ZL m V W)
def zgl (q:OpR X (cn l) r)(j:OpR X (cn g) t)(w:PE X a ta)(A:PE X b tb)(B:PE X c tc)
  (hm:l9 [l,g] [b,c]=false:=by with_unfolding_all rfl):PT X (.Compare a [l,g] [b,c] pos) (vY<|BE r t ta tb tc):=by
 intro f s i H Q I h;refine isTrue_chain (aR (w f s i H _ I h) λv C ⟨x,D,E,F,G⟩=>test_link<|aR (A f C i D _ E G) λu ZK ⟨y,K,L,m,M⟩=>aR (q f ZK i K x y v u _ L F m M) λd N ⟨z,n,o,O,k,e,p⟩=>?_) hm;subst e;ext O;refine d8 ?_;cases k with
 |false=>let{k',P,R}:=p;ext P;exact ite_ff {(n),o,R}
 |true=>refine ite_tt<|test_last<|aR (B f N i n _ o p) λS T ⟨ZL,V,W,ZM,Z⟩=>aR (j f T i V y ZL u S _ W m ZM Z) λd' s5 ⟨z2,H5,I5,r5,k2,e2,q5⟩=>?_;subst e2;ext r5;exact d8 {(H5),I5,q5}
def pY (K:Z5)(x:V)(H:Hp)(k:Bool):Prop:=
 match x with
 |.non=>k=Z6
 |.bl b=>k=b
 |.int i=>k=(i != 0)
 |.str y=>y.length<=aw/\k=((y.length:Int) != 0)
 |.ref p=>(∃xs,SqL K H p xs/\k=!xs.isEmpty)\/(∃xs,dC K H p xs/\k=!xs.isEmpty)\/∃kvs,H p=Y (.dK kvs)/\k=!kvs.isEmpty
 |_=>False
def MX (r:KV kvs vs):(!vs.isEmpty)=!kvs.isEmpty:=by ext r<;>rfl
def Gy (r:Vals xs dV):(!dV.toArray.isEmpty)=!xs.isEmpty:=by ext r<;>simp
def sT:(aw:Nat)<2 ^ 63:=by rw[cf];decide
def Gz:BB X (λx H Q=>∃k,pY X.K x H k/\Q k H):=by
 rintro g s o H x v Q I d ⟨k,e,q⟩
 have hl:=sT;cases x with
 |non=>ext d;have a:=e;subst a;exact truthy_none {(H),I,q}
 |bl b=>ext d;have a:=e;subst a;exact d8 {(H),I,q}
 |int i=>let{t,rfl}:=d;have a:=e;subst a;exact PySem.P.truthy_int {(H),I,q}
 |str y=>let{t,rfl}:=d;let{u,rfl}:=e;exact PySem.P.truthy_str ZQ {H,I.tok _,q}
 |ref p=>
  ext d;have a:=e;rcases a with⟨j,hx,a⟩|⟨j,hx,a⟩|⟨l,hx,a⟩
  .subst a;let{f,r,pl,h}:=I.list hx;have c:=r.length;exact wpAny_truthy_list pl.isList (by grind) {H,I.tok _,by rw[Gy r];exact q}
  .subst a;let{f,r,pl,h}:=I.tuple hx;have c:=r.length;exact truthy_tuple pl (by grind) {H,I.tok _,by rw[Gy r];exact q}
  .subst a;let{h,n,w,r,m}:=I.hok p _ hx;have c:=Paired.length r;exact wpAny_truthy_dict n m ZQ {H,I.tok _,by rw[MX r];exact q}
 |_=>exact e.elim
def z9a (ha:PE X a ta)(f:∀b,p6 a X.env b=(do let v <-b;standAt a.pos;holding [v] (truthy v))):
  PT X a (λd H Q=>ta d H λx e=>∃k,pY X.K x e k/\Q k e):=by
 intro c s d H Q I h;exact isTrue_plain (aR (ha c s d H _ I h) λv g ⟨x,i,j,l,m⟩=>Gz c g d i x v Q j l m) (f _)
def MY:OpR X (f8 .Add) (λx y H Q=>∃i j,x=.str i/\y=.str j/\i.length+j.length<=aw/\Q (.str<|i++j) H):=by
 rintro a s f H x y v u Q I b c ⟨i,j,rfl,rfl,d,q⟩
 let{t,rfl}:=b;let{e,rfl}:=c;exact add_str (λe g=>{.str<|i++j,H,I.tok _,{_,rfl},q}) d
def vals1 (r:Vals [x] us):∃u,us=[u]/\RelV x u:=by
 cases r with
 |cons a b=>ext b;exact{_,rfl,a}
def vals2 (r:Vals [x,y] us):∃u a,us=[u,a]/\RelV x u/\RelV y a:=by
 cases r with
 |cons b c=>
  cases c with
  |cons r3 r4=>ext r4;exact{_,_,rfl,b,r3}
def MZ (d:X.calm=J):CallR X (.builtin "max") (λb H Q=>∃i j,b=[.int i,.int j]/\Q (.int (if j>i then j else i)) H):=by
 rintro c s e H b f Q I r ⟨i,j,rfl,q⟩
 let{u,g,rfl,{t,rfl},h,rfl}:=vals2 r;refine max_two_ints (I.ok.hd d) λl m k=>{_,H,I.kept k,?_,q};by_cases a:j>i
 .rw[qq a,qq a];exact{_,rfl}
 .rw[qr a,qr a];exact{_,rfl}
def M0:CallR X (.type "int") (λa H Q=>(∃i,a=[.int i]/\Q (.int i) H)\/∃k,a=[.bl k]/\Q (.int (if k then 1 else 0)) H):=by
 intro b s c H a d Q I r h;rcases h with⟨i,rfl,q⟩|⟨k,rfl,q⟩
 .let{u,rfl,t,rfl}:=vals1 r;exact call_int_int {.int i,H,I,{_,rfl},q}
 .let{u,rfl,rfl}:=vals1 r;exact call_int_bool {.int (if k then 1 else 0),H,I.tok _,{_,rfl},q}
def M3:CallR X (.type "str") (λa H Q=>∃i,a=[.int i]/\i.natAbs.log2<1920/\Q (.str<|toString i) H):=by
 rintro b s d H a e Q I r ⟨i,rfl,c,q⟩
 let{u,rfl,t,rfl}:=vals1 r;exact PySem.P.str_of_int c {.str _,H,I.tok _,{_,rfl},q}
end
structure ObjM (h:Heap)(x dx C:Addr)(mA:U->Option Value):Prop where
 obj:h.get? x=Y (W.instObj C dx)
 ns:h.Ns1 dx mA
 ne:dx≠x
def M4 {h:Heap}(n:h.Ns1 d f):∃od,h.get? d=Y od/\∀b,W.lookIn b od=Y (f b):=by
 let{o,es,ep,ho,hd,hk,_,hm}:=n;refine{o,ho,λb=>?_};have e:=hm b;unfold nsFind findBy at e;rw[<-ow]at e;unfold W.lookIn;rw[hd]
 dsimp only
 split
 .rename_i y q;rw[q]at e;exact congrArg Y e
 .rename_i q;rw[q]at e;have a:es.toList.any (·.refKey)=false:=by rw[List.any_eq_false];intro y g;let{z,t,c}:=hk y<|Array.mem_toList_iff.mp g;simp[DictEntry.refKey,c]
  rw[qr<|a▸di];exact congrArg Y e
theorem ObjM.look (I:ObjM h x b C c):∃od,W.InstAt h x (W.instObj C b) C (Y od)/\∀a,W.lookIn a od=Y (c a):=
 let⟨od,ho,hl⟩:=M4 I.ns
 {od,{I.obj,rfl,rfl,(ho)},hl}
section
variable {prog:b9}{w:World}{A:eh}{E:Value->aq->Prop}{s:aq}{K:Z5}{x dx C f:Addr}{mA:U->Option Value}{name:U}{v:Value}
def zmk (X:K.In s.heap)(I:ObjM s.heap x dx C mA)(b:W.plainGet K C name=J)(hh:W.hasDictIn K C=J)
  (c:Z4 K (.ref C) name=Y Z8) (d:mA name=Y v) (a:W.handedIn v=J) (h:Q v {s with toks:=s.toks+1}):
  w['b'] (qo (.ref x) name expr) Q E s:=by
 let{od,ZK,e}:=I.look;exact W.get_value X ZK (W.plainGet_of b).1 (W.findObj_own hh c rfl<|by rw[e,d]) a h
def zgg (X:K.In s.heap)(I:ObjM s.heap x dx C mA)(a:W.plainGet K C name=J)
  (hf:Z4 K (.ref C) name=Y (Y<|.ref f)) (b:W.isFn K (.ref f)=J) (c:mA name=Z8) (h:Q (.ref f,[.ref x]) s):
  w['b'] (getMethod (.ref x) name pl) Q E s:=by
 let{od,ZK,d}:=I.look;exact W.method_fn X ZK (W.plainGet_of a).1 (W.plainGet_of a).2 hf (q8 b) (by show(W.lookIn name od).map (·.isSome)=Y Z6;rw[d,c];rfl) h
def zkr (X:K.In s.heap)(I:ObjM s.heap x dx C mA)
  (hs:Z4 K (.ref C) "__setattr__"=Y (Y<|.builtin "object.__setattr__")) (hp:W.plainOver K C=J) (ht:W.takerIn K C name=Y Z8) (hh:W.hasDictIn K C=J)
  (hw:PySem.Within mA ns) (M5:ns.length<=aw)
  (h:∀h',ObjM h' x dx C (λy=>if y=name then Y v else mA y)->cc dx s.heap h'->Q () {s with heap:=h',toks:=s.toks+2}):
  w['b'] (setAttr (.ref x) name v) Q E s:=by
 let{od,ZK,hl}:=I.look;refine W.set_plain X ZK hs<|W.osa_open X ZK hp ht λb=>?_;let{cd,hc,BF}:=W.any_some hh;refine aa<|au<|aa<|aa<|wpAny_loadPart I.obj<|aa<|W.Looks.here (W.looks_clsIn X hc) ?_;rw[BF];refine au<|aa<|au<|aa ?_;refine wpAny_nsSet1 I.ns λh' hn2 GA=>?_;let{oD,WW,WX,M6,BH,M7}:=hn2.count<|PySem.Within.cons name v hw;refine aa<|wpAny_lookBehind M6 (BH▸pastItsLine_dict (bj M7<|by grind)) ?_;exact au (h _ {(GA.2 _<|Ne.symm I.ne).trans I.obj,hn2,I.ne} GA)
def zg4 (X:K.In s.heap)(hm:W.makesIn K C=J)
  (c:Z4 K (.ref C) "__init__"=Y (Y<|.ref f)) (hf:W.typeIn K (.ref f)=Y (.type "function"))
  (h:jy (model prog w) (A.under<|.builtin "type.__call__" {.ref C::a,b}) (.call (.ref f) {.ref (s[?_]+1)::a,b}) (W.InitBack (s[?_]+1) R)
   {s with heap:=(s.heap.push W.emptyDict).push<|W.instObj C s[?_]}):
  jy (model prog w) A (.call (.ref C) {(a),b}) R s:=by
 exact W.make_core (W.makes_of X hm) (Z3 X c) (λself=>W.bind_fn X self hf) (.inl rfl) h
end
def dN (f:U)(v:V):List (U×V)->List (U×V)
 | []=>[(f,v)]
 |(g,x)::r=>if g=f then(g,v)::r else(g,x)::dN f v r
theorem GB (f g:U)(v:V):∀fs,(dN f v fs).lookup g=if g=f then Y v else fs.lookup g
 | []=>by
  show jq g [(f,v)]=_;by_cases h:g=f
  .have a:(g==f)=true:=beq_iff_eq.mpr h;simp only[jq,a,qq h]
  .have a:(g==f)=false:=beq_eq_false_iff_ne.mpr h;simp only[jq,a,qr h]
 |(k,x)::r=>by
  rw[show dN f v ((k,x)::r)=(if k=f then(k,v)::r else(k,x)::dN f v r)from rfl];by_cases hk:k=f
  .rw[qq hk];by_cases h:g=k
   .have a:(g==k)=true:=beq_iff_eq.mpr h;simp only[jq,a,qq<|h.trans hk]
   .have a:(g==k)=false:=beq_eq_false_iff_ne.mpr h;simp only[jq,a,qr (λe:g=f=>h<|e.trans hk.symm)]
  .rw[qr hk];by_cases h:g=k
   .have a:(g==k)=true:=beq_iff_eq.mpr h;simp only[jq,a,qr (λe:g=f=>hk<|h.symm.trans e)]
   .have a:(g==k)=false:=beq_eq_false_iff_ne.mpr h;simp only[jq,a];exact GB f g v r
theorem BJ (f:U)(v:V):∀fs,f∈(dN f v fs).map (·.1)/\∀g,g∈fs.map (·.1)->g∈(dN f v fs).map (·.1)
 | []=>{by simp[dN],λg h=>by simp at h}
 |(k,x)::r=>by
  let{a,b}:=BJ f v r;rw[show dN f v ((k,x)::r)=(if k=f then(k,v)::r else(k,x)::dN f v r)from rfl];by_cases hk:k=f
  .rw[qq hk];subst hk;exact{by simp,λg h=>by simpa using h}
  .rw[qr hk];refine{?_,λg h=>?_}
   .rw[bu];exact ao _ a
   .rw[bu]at h ⊢;rcases ak.mp h with e|e
    .exact ak.mpr (.inl e)
    .exact ao _ (b g e)
theorem GC (f:U)(v:V):∀fs,(dN f v fs).length<=fs.length+1
 | []=>by simp[dN]
 |(k,x)::r=>by
  have a:=GC f v r;rw[show dN f v ((k,x)::r)=(if k=f then(k,v)::r else(k,x)::dN f v r)from rfl];by_cases hk:k=f
  .rw[qq hk,ay,ay];omega
  .rw[qr hk,ay,ay];omega
def cT.some_of (r:cT (Y v) o):∃u,o=Y u/\RelV v u:=by
 cases o with
 |none=>exact r.elim
 |some u=>exact{(u),rfl,r}
def cT.none_of (r:cT Z8 o):o=none:=by
 cases o with
 |none=>rfl
 |some u=>exact r.elim
def GF (r:RelV v u):W.handedIn u=true:=by
 cases v with
 |non=>ext r;rfl
 |bl b=>ext r;rfl
 |int i=>let{t,e}:=r;ext e;rfl
 |str x=>let{t,e}:=r;ext e;rfl
 |ref a=>ext r;rfl
 |ty n=>ext r;rfl
section
variable {P:b9}{w:World}{H H':Hp}{h h':Heap}{a C dx:Addr}{fs Mb:List<|U×V}
def zj (hok:HOk P w H h)(e:H a=Y (.ins C dx fs)):∃b,ObjM h a dx C b/\(∀f,cT (fs.lookup f)<|b f)/\PySem.Within b (fs.map (·.1))/\fs.length<=1000/\H dx=Y (.own a):=by let{d,z,ne,c,b,n,r,q}:=(hok a _ e);exact{b,{(c),n,ne},r,q,z,d}
end
structure Cls (K:Z5)(C:Addr):Prop where
 pg:W.plainGet K C Str.empty=J
 hd:W.hasDictIn K C=J
 po:W.plainOver K C=J
 sa:Z4 K (.ref C) "__setattr__"=Y (Y<|.builtin "object.__setattr__")
theorem Cls.get {K:Z5}(c:Cls K C)(f:U):W.plainGet K C f=true:=c.pg
def z3l (K:Z5)(C:Addr)(f:U):Prop:=Z4 K (.ref C) f=Y Z8
def z3l.vZ {K:Z5}(n:z3l K C f):W.takerIn K C f=Y none:=by unfold W.takerIn;rw[show Z4 K (.ref C) f=Y Z8 from n];rfl
structure Meth (K:Z5)(C:Addr)(m:U)(f:Addr):Prop where
 at_:Z4 K (.ref C) m=Y (Y<|.ref f)
 fn:W.isFn K (.ref f)=J
 kp:Z2 K (.ref f)=J
section
variable {X:Cx}{pins:List<|Addr×Obj}{σ:St}{H:Hp}{s:aq}{a C dx:Addr}{fs:List<|U×V}{f:U}{v:V}{A:eh}{E:Value->aq->Prop}
def zb8 (I:Inv X pins σ H s)(e:H a=Y (.ins C dx fs))(c:Cls X.K C)(n:z3l X.K C f)(l:fs.lookup f=Y v)
  (h:∀u d,Inv X pins σ H d->RelV v u->Q u d):wpAny (model X.prog X.w) A (qo (.ref a) f b) Q E s:=by
 let{i,O,r,_,_,_}:=zj I.hok e;let{u,hu,g}:=cT.some_of<|l▸r f;exact zmk I.dM O (c.get f) c.hd n hu (GF g) (h u _ (I.tok _) g)
def zat (I:Inv X pins σ H s)(e:H a=Y (.ins C dx fs))(c:Cls X.K C)(k:Meth X.K C m g)(l:fs.lookup m=Z8)
  (h:Q (.ref g,[.ref a]) s):wpAny (model X.prog X.w) A (getMethod (.ref a) m pl) Q E s:=by
 let{b,O,r,_,_,_}:=zj I.hok e;exact zgg I.dM O (c.get m) k.at_ k.fn (cT.none_of<|l▸r m) h
def zbg (I:Inv X pins σ H s)(e:H a=Y (.ins C dx fs))(c:Cls X.K C)(n:z3l X.K C f)(x:fs.length<1000)(m:RelV y u)
  (h:∀i,Inv X pins σ (upd H a<|.ins C dx<|dN f y fs) i->Q () i):wpAny (model X.prog X.w) A (setAttr (.ref a) f u) Q E s:=by
 let{j,O,r,k,_,l}:=zj I.hok e;refine zkr I.dM O c.sa c.po n.vZ c.hd k (by rw[am,cf];omega) λB d p=>h _ (I.write (e▸True.intro) (.inr l) (λb q t z=>(p.2 b t).trans z) (let⟨o,_,_,e',_⟩:=d.ns;{(o),e'}) {by rw[aK O.ne];exact l,?_,O.ne,d.obj,_,d.ns,λg=>?_,λg v=>?_})
 .have:=GC f y fs;omega
 .show cT ((dN f y fs).lookup g) (if g=f then Y u else j g);rw[GB];by_cases q:g=f
  .rw[qq q,qq q];exact m
  .rw[qr q,qr q];exact r g
 .by_cases q:g=f
  .rw[q];exact(BJ f y fs).1
  .refine(BJ f y fs).2 g (k g λz=>v ?_);show(if g=f then Y u else j g)=Z8;rw[qr q];exact z
def Inv.made (I:Inv X pins σ H s):Inv X pins σ (upd (upd H s[?_]<|.own<|s[?_]+1) (s[?_]+1)<|.ins C s[?_] [])
  {s with heap:=(s.heap.push W.emptyDict).push<|W.instObj C s[?_]}:=by
 have a:(s.heap.push W.emptyDict).get? s[?_]=Y W.emptyDict:=ba s.heap rfl
 have c:((s.heap.push W.emptyDict).push<|W.instObj C s[?_]).get? (s[?_]+1)=Y (W.instObj C s[?_]):=by
  have:=ba (s.heap.push W.emptyDict) (o:=W.instObj C s[?_]) rfl
  rwa [m5]at this
 refine(I.laid (o:=.own<|s[?_]+1) (t':=s.toks) (λb u q=>af _ q) (ag _) {_,a}).laid (λb u q=>af _ q) (o7<|m5 _ _) ?_;have ne:s[?_]≠s[?_]+1:=cg<|j6 _;refine{by rw[aK ne,bH],c9 _,ne,c,λ_=>Z8,(o8 {W.emptyDict,#[],_,a,rfl,(λe d=>absurd d ZO),λ_=>rfl}).at λo q=>af _ q,λ_=>True.intro,λy f=>absurd rfl f}
theorem zfa (hb:i7 e f env (eval e env)=eval e env)
  (h:w['b'] (eval e env) (λo a=>w['b'] (qo o f J) Q E a) E s):w['b'] (eval (.Attribute e f pos) env) Q E s:=
 Attribute_any_ h (by rw[arm_eval_Attribute,hb])
end
def sU (K:Z5)(ta:TE)(f:U):TE:=λσ H Q=>ta σ H λx H1=>∃a C dx fs v,x=.ref a/\H1 a=Y (.ins C dx fs)/\Cls K C/\z3l K C f/\fs.lookup f=Y v/\Q v H1
def sV (K:Z5)(ta tv:TE)(f:U):TS:=λD σ H=>tv σ H λy H1=>ta σ H1 λx H2=>∃a C dx fs,x=.ref a/\H2 a=Y (.ins C dx fs)/\Cls K C/\z3l K C f/\fs.length<1000/\D.nx σ (upd H2 a<|.ins C dx<|dN f y fs)
section
variable {X:Cx}{o e value:Expr}{f:U}{pos pos' M8:Pos}{ta tv:TE}
def M9 (d:PE X e ta)(g:i7 e f X.env (eval e X.env)=eval e X.env):PE X (.Attribute e f pos) (sU X.K ta f):=by intro b s i H Q I h;refine zfa g<|aR (d b s i H _ I h) λu t ⟨x,j,k,m,a,C,w,fs,v,ex,o,c,n,l,q⟩=>?_;subst ex;obtain rfl:u=ZR a:=m;exact zb8 k o c n l λy z p r=>{(v),j,p,r,q}
def M' (e:PE X o ta)(g:PE X value tv)(hs:jh value (Y<|.Attribute o f pos') pos.line X.env=pure Z6):PS X (.Assign [.Attribute o f pos'] value pos) (sV X.K ta tv f):=by intro b s d H D I h;refine j4 (aR (g b s d H _ I h) λu i ⟨y,j,k,m,q⟩=>aR (e b i d j _ k q) λp A ⟨x,B,r,t,a,C,E,fs,ex,v,c,n,l,w⟩=>?_) hs;subst ex;obtain rfl:p=ZR a:=t;exact zbg r v c n l m λF z=>{d,_,z,w}
end
section
variable {X:Cx}{pins:List<|Addr×Obj}{σ:St}{H:Hp}{s:aq}{A:eh}{E:Value->aq->Prop}{Q:Value->aq->Prop}{c:Value}{b:Bool}
inductive TyOf (K:Z5)(H:Hp):V->Value->Prop where
 |non:TyOf K H .non (.type "NoneType")
 |bl (x:Bool):TyOf K H (.bl x) (.type "bool")
 |int (i:Int):TyOf K H (.int i) (.type "int")
 |str (x:U):TyOf K H (.str x) (.type "str")
 |lst {a:Addr} {xs:List V} (e:H a=Y (.lst xs)):TyOf K H (.ref a) (.type "list")
 |gL {a:Addr} {o:Obj} {xs:List V} (e:H a=Y (.gL o<|.lst xs)):TyOf K H (.ref a) (.type "list")
 |tup {a:Addr} {xs:List V} (e:H a=Y (.tup xs)):TyOf K H (.ref a) (.type "tuple")
 |dK {a:Addr} {kvs:List<|Key×V} (e:H a=Y (.dK kvs)):TyOf K H (.ref a) (.type "dict")
 |dT {a:Addr} {kvs:List<|List Key×V} (e:H a=Y (.dT kvs)):TyOf K H (.ref a) (.type "dict")
 |ins {a C dx:Addr} {fs:List<|U×V} (e:H a=Y (.ins C dx fs)) (cl:Cls K C) (ha:Z4 K (.ref C) "__class__"=Y (Y<|.builtin "object.__class__"))
  (hn:W.specialIn K (.builtin "object.__class__") "__get__"=Y (Y<|.builtin "getset_descriptor.__get__")) (WY:W.takesIn K (.builtin "object.__class__")=Y J)
  (hm:W.mroIn K C (.type "object")=Y J):TyOf K H (.ref a) (.ref C)
def z2e (I:Inv X pins σ H s)(f:RelV x u)(ty:TyOf X.K H x t)(e:W.kitOne X.K t c=Y b)(h:∀r,Q (.bool b) {s with toks:=r}):
  wpAny (model X.prog X.w) A (call (.builtin "isinstance") [u,c]) Q E s:=by
 cases ty with
 |non=>ext f;exact Z1 W.kitx_none I.dM True.intro e (λz=>nomatch z) h
 |bl y=>ext f;exact Z1 W.kitx_bool I.dM True.intro e (λz=>nomatch z) h
 |int i=>let{t,q}:=f;ext q;exact Z1 W.kitx_int I.dM True.intro e (λz=>nomatch z) h
 |str y=>let{t,q}:=f;ext q;exact Z1 W.kitx_str I.dM True.intro e (λz=>nomatch z) h
 | @lst a k d=>ext f;let{_,_,n,_,g}:=(I.hok a _ d);exact Z1 W.kitx_list I.dM {_,g,rfl} e (λz=>nomatch z) h
 | @gL a v k d=>ext f;let{_,_,_,n,_,g}:=(I.hok a _ d);exact Z1 W.kitx_list I.dM {_,g,rfl} e (λz=>nomatch z) h
 | @tup a k d=>ext f;let{_,_,_,p}:=(I.hok a _ d);let{o,g,j,_}:=p.tup;exact Z1 W.kitx_tuple I.dM {(o),g,j} e (λz=>nomatch z) h
 | @dK a l d=>ext f;let{_,_,B,_,{o,es,ep,g,j,_}}:=(I.hok a _ d);exact Z1 W.kitx_dict I.dM {(o),g,j.1} e (λz=>nomatch z) h
 | @dT a l d=>ext f;let{_,_,k,_,o,es,ep,g,j,_}:=(I.hok a _ d);exact Z1 W.kitx_dict I.dM {(o),g,j.1} e (λz=>nomatch z) h
 | @ins a C D fs d cl ha hn m hm=>ext f;let{F,O,_}:=zj I.hok d;let{od,ZK,_}:=O.look;exact Z1 (W.kitx_own (cl.get _) cl.hd ha hn m hm) I.dM ZK e (λz=>nomatch z) h
end
structure Room (k:Nat)(A:eh):Prop where
 hd:A.handled=Z8
 dp:A.depth+3*k+5<recursionLimit
 un:A.units+16*k+200<cLine
theorem Room.mono (r:Room k A)(h:j<=k):Room j A:={r.hd,by have:=r.dp;omega,by have:=r.un;omega}
theorem Room.deeper (r:Room (k+1) A)(env:Env):Room k (A.deeper env):={r.hd,by have:=r.dp;show A.depth+1+3*k+5<_;omega,by have:=r.un;show A.units+3+16*k+200<_;omega}
def Na {A:eh}:(A.under<|.builtin "type.__call__" {.ref C::a,b}).depth=A.depth+1:=by first|rfl|simp[Around.under,Code.weight,Code.isCreation,Code.isGuard,Code.isCaller,Code.frames,Code.isFrame,guardIds]
def Nb {A:eh}:(A.under<|.builtin "type.__call__" {.ref C::a,b}).units=A.units+1:=by first|rfl|simp[Around.under,Code.cUnits,Code.frames,Code.isFrame]
theorem Room.make (r:Room (k+1) A)(C:Addr)(a:List Value)(b:List<|U×Value):Room k (A.under<|.builtin "type.__call__" {.ref C::a,b}):={r.hd,by have:=r.dp;rw[Na];omega,by have:=r.un;rw[Nb];omega}
def Room.depth (r:Room k A):A.depth<recursionLimit:=by have:=r.dp;omega
def Room.units (r:Room k A):A.units+64<cLine:=by have:=r.un;omega
def fF:TA:=λ_ H Q=>Q [] H
def mT (ta:TE)(tr:TA):TA:=λσ H Q=>ta σ H λx H1=>tr σ H1 λxs H2=>Q (x::xs) H2
section
variable {X:Cx}{e:Expr}{es:List Expr}{te:TE}{t:TA}{pos:Pos}
theorem kR:PA X [] fF:=λ_ _ _ _ H Q I h=>o9 {[],H,I,.nil,h}
def v5 (ha:PE X e te)(hr:PA X es t)(hs:cx (e::es) X.env=(Z6,eval e X.env)::cx es X.env:=by rfl):PA X (e::es) (mT te t):=by intro pos a s b H Q I h;rw[hs];refine ox<|aR (ha a s b H _ I h) λu c ⟨x,d,f,g,i⟩=>?_;exact aR (hr pos a c b d _ f i) λo p ⟨j,k,l,m,n⟩=>{x::j,k,l,.cons g m,n}
def wa (t:TA):TE:=λσ H Q=>t σ H λxs H1=>xs.length<=aw/\∀p,H1 p=Z8->Q (.ref p) (upd H1 p<|.tup xs)
def wb (t:TA):TE:=λσ H Q=>t σ H λxs H1=>xs.length<=aw/\∀p,H1 p=Z8->Q (.ref p) (upd H1 p<|.lst xs)
def BK {f}(h:PA X es t):PE X (.Tuple es f pos) (wa t):=by intro a s g H Q I i;refine wpAny_Tuple_spliced<|aR (h pos a s g H _ I i) λj c ⟨k,l,d,r,z,q⟩=>{by rw[<-r.length];exact z,?_};refine{.ref c[?_],upd l c[?_]<|.tup k,d.laid (λb u e=>af _ e) (ag _) ?_,rfl,q _<|d.hok.fresh<|ag _};exact{z,j,r,{_,ba _ rfl}}
def GH (h:PA X es t):PE X (.List es pos) (wb t):=by intro a s f H Q I g;refine wpAny_List_spliced<|aR (h pos a s f H _ I g) λi c ⟨j,k,d,r,z,q⟩=>{by rw[<-r.length];exact z,?_};refine{.ref c[?_],upd k c[?_]<|.lst j,d.laid (λb u e=>af _ e) (ag _) ?_,rfl,q _<|d.hok.fresh<|ag _};exact{z,i,0,r,ba _ rfl}
end
abbrev Sp:=List V->Hp->VK->XK->Prop
abbrev CXT:=List Env->Hp->aq->XK->Value->aq->Prop
structure lL (P:b9)(w:World)(K:Z5)(mg:U->Option Value)(base:Heap)(A:eh)(outer:List Env)(s:aq)(H:Hp):Prop where
 frames:A.frames=Y outer
 mod:Mod K mg base
 bs:∀b o,base.get? b=Y o->s.heap.get? b=Y o/\H b=Z8
 mP:base.objs.size<=s[?_]
 dF:s.heap.FunFrames base outer
 pX:∀b∈frs outer,H b=Z8
 hok:HOk P w H s.heap
 bare:kz s.gens
def CE (outer:List Env)(P:b9)(w:World)(H:Hp)(s:aq)(Q:VK)(u:Value)(s':aq):Prop:=∃v H',s'.os=s.os/\kz s'.gens/\Un (frs outer) [] H H' s.heap s'.heap/\HOk P w H' s'.heap/\RelV v u/\Q v H'
def CR (CX:CXT)(outer:List Env)(P:b9)(w:World)(H:Hp)(s:aq)(Q:VK)(E:XK)(r:Result)(s':aq):Prop:=
 match r with
 |.ok (.ret u)=>CE outer P w H s Q u s'
 |.ok _=>False
 |.error e=>CX outer H s E e s'
structure FnOk (P:b9)(w:World)(K:Z5)(mg:U->Option Value)(base:Heap)(CX:CXT)(k:Nat)(f:Addr)(fd:d6)(ps:List U)(sp:Sp):Prop where
 len:∀vs H Q E,sp vs H Q E->vs.length=ps.length
 run:∀(A:eh) (outer:List Env) (s:aq) (H:Hp) (args:Args) (us:List Value) (vs:List V) (Q:VK) (E:XK),Room k A->lL P w K mg base A outer s H->nq s fd args (ps.zip us)->Vals vs us->sp vs H Q E->jy (model P w) A (.call (.ref f) args) (CR CX outer P w H s Q E) s
theorem lL.make {K:Z5}(e:lL P w K mg base A outer s H)(C:Addr)(a:List Value)(b:List<|U×Value): lL P w K mg base (A.under<|.builtin "type.__call__" {.ref C::a,b}) outer s H:={by first|exact e.frames|(simpa[Around.under,Code.envs,Code.isFrame,pushEnvs]using e.frames),e.mod,e.bs,e.mP,e.dF,e.pX,e.hok,e.bare}
section
variable {X:Cx}{pins:List<|Addr×Obj}{σ:St}{H:Hp}{s s':aq}
theorem Inv.sW (I:Inv X pins σ H s):lL X.prog X.w X.K X.mg X.base X.A X.stack s H:={I.ok.frames,I.ok.mod,I.bs,bj I.ok.mP I.sz,I.stack,I.hX,I.hok,I.bare}
def Inv.after (I:Inv X pins σ H s)(h:CE X.stack X.prog X.w H s Q u s'):EP X pins σ Q u s':=by let{v,c,os,bare,un,hok,r,q}:=h;let{e,g,d,t,a}:=s';obtain rfl:a=s.os:=os;exact{v,c,I.call un hok bare<|λb z=>absurd z ZO,r,q}
end
def kS (sp:Sp)(dvs:List V)(E:XK)(t:TA):TE:=λσ H Q=>t σ H λvs H1=>sp (vs++dvs) H1 Q E
def rO (C:Addr)(m:U)(sp:Sp)(dvs:List V)(E:XK)(ta:TE)(t:TA):TE:=λσ H Q=>ta σ H λx H1=>∃a dx fs,x=.ref a/\H1 a=Y (.ins C dx fs)/\fs.lookup m=Z8/\t σ H1 λvs H2=>sp (x::(vs++dvs)) H2 Q E
def uM (C:Addr)(sp:Sp)(dvs:List V)(E:XK)(t:TA):TE:=λσ H Q=>t σ H λvs H1=>∀x dx,H1 x=Z8->H1 dx=Z8->dx≠x->sp (.ref x::(vs++dvs)) (upd (upd H1 dx<|.own x) x<|.ins C dx []) (λv H2=>v=.non/\Q (.ref x) H2) E
def Binds (K:Z5)(fd:d6)(ps:List U)(ds:List Value):Prop:=∀(s:aq) (us:List Value),K.In s.heap->(us++ds).length=ps.length->nq s fd {us,[]} (ps.zip<|us++ds)
theorem Binds.all {K:Z5}(h:∀a,a.length=ps.length->qh fd {a,[]}=pure (ps.zip a)):Binds K fd ps []:=λs a _ hl=>by rw[b7]at hl ⊢;exact .of_eq (h a hl)
def z2r (CX:CXT)(X:Cx)(E:XK):Prop:=∀(pins:List<|Addr×Obj) (σ:St) (H:Hp) (s:aq) (e:Value) (s':aq),Inv X pins σ H s->CX X.stack H s E e s'->X.xe e s'
section
variable {X:Cx}{CX:CXT}{k:Nat}{f C:Addr}{fd:d6}{ps:List U}{sp:Sp}{dvs:List V}{ds:List Value}{E:XK}{x m:U}{p pos apos:Pos}{e o:Expr}{es:List Expr}{ta:TE}{t:TA}
def z96 (F:FnOk X.prog X.w X.K X.mg X.base CX k f fd ps sp)(hr:Room k X.A)(hb:Binds X.K fd ps ds)(hd:Vals dvs ds)(hx:z2r CX X E)
  (I:Inv X pins σ H s) (r:Vals vs us) (h:sp (vs++dvs) H Q E):X['a'] (call (.ref f) us) (EP X pins σ Q) X.xe s:=by
 have r2:=r.append hd;refine oy<|ji (F.run X.A X.stack s H {us,[]} (us++ds) (vs++dvs) Q E hr I.sW (hb s us I.dM<|r2.length▸F.len _ _ _ _ h) r2 h) λr s' hq=>?_;cases r with
 |error e=>exact hx pins σ H s e s' I hq
 |ok fl=>
  cases fl with
  |ret u=>exact I.after hq
  |next=>exact False.elim hq
  |brk=>exact False.elim hq
  |cont=>exact False.elim hq
def zdf (F:FnOk X.prog X.w X.K X.mg X.base CX k f fd ps sp)(hr:Room k X.A)(g:Gl X x)(hm:X.mg x=Y (.ref f))(hk:Z2 X.K (.ref f)=J)(hb:Binds X.K fd ps ds)(hd:Vals dvs ds)(hx:z2r CX X E)
  (ha:PA X (e::es) t) (b:Xf x:=by decide) (i:cx (e::es) X.env=(Z6,eval e X.env)::cx es X.env:=by rfl) (c:(ja pos<|cx es X.env).any (·.1)=false:=by rfl):
  PE X (.Call (.Name x p) (e::es) [] pos) (kS sp dvs E t):=by
 intro a s j H Q I h;refine f9<|z2x I g hm ?_ b;refine W.callWith_K I.ok.mod.uI hk (aR (ha pos a s j H _ I h) λl m ⟨n,o,d,r,q⟩=>{d.dM,?_}) i c;exact z96 F hr hb hd hx d r q
structure Mk (K:Z5)(C f:Addr):Prop where
 makes:W.makesIn K C=J
 init:Z4 K (.ref C) "__init__"=Y (Y<|.ref f)
 fn:W.isFn K (.ref f)=J
 kp:Z2 K (.ref C)=J
def zhz (M:Mk X.K C f)(F:FnOk X.prog X.w X.K X.mg X.base CX k f fd ps sp)(hr:Room (k+1) X.A)(n:Binds X.K fd ps ds)(hd:Vals dvs ds)
  (o:z2r CX X E) (I:Inv X b i H s) (r:Vals j c)
  (h:∀x d,H x=Z8->H d=Z8->d≠x->sp (.ref x::(j++dvs)) (upd (upd H d<|.own x) x<|.ins C d []) (λv p=>v=.non/\Q (.ref x) p) E):
  X['a'] (call (.ref C) c) (EP X b i Q) X.xe s:=by
 have l:=h (s[?_]+1) s[?_] (I.hok.fresh<|ij _) (I.hok.fresh<|ag _)<|cg<|j6 _;have g:=Inv.made (C:=C) I;have m:Vals (V.ref (s[?_]+1)::(j++dvs)) (ZR (s[?_]+1)::(c++ds)):=.cons rfl<|r.append hd;have q:(ZR (s[?_]+1)::c++ds).length=ps.length:=by have e:=m.length;rw[F.len _ _ _ _ l]at e;exact e.symm
 refine oy<|zg4 I.dM M.makes M.init (q8 M.fn)<|ji (F.run _ X.stack _ _ {ZR (s[?_]+1)::c,[]} (ZR (s[?_]+1)::(c++ds)) _ _ E (hr.make C c []) (g.sW.make C c []) (n _ (ZR (s[?_]+1)::c) g.dM q) m l) λr t a=>?_;cases r with
 |error e=>exact o b i _ _ e t g a
 |ok fl=>
  cases fl with
  |ret u=>let{v,y,z,B,rfl,D}:=g.after a;exact{B,V.ref<|s[?_]+1,y,z,rfl,D}
  |next=>exact False.elim a
  |brk=>exact False.elim a
  |cont=>exact False.elim a
def znu (M:Mk X.K C f)(F:FnOk X.prog X.w X.K X.mg X.base CX k f fd ps sp)(hr:Room (k+1) X.A)(g:Gl X x)(hm:X.mg x=Y (.ref C))(i:Binds X.K fd ps ds)(hd:Vals dvs ds)(j:z2r CX X E)
  (l:PA X (e::es) t) (b:Xf x:=by decide) (m:cx (e::es) X.env=(Z6,eval e X.env)::cx es X.env:=by rfl) (c:(ja pos<|cx es X.env).any (·.1)=false:=by rfl):
  PE X (.Call (.Name x p) (e::es) [] pos) (uM C sp dvs E t):=by
 intro a s n H Q I h;refine f9<|z2x I g hm ?_ b;refine W.callWith_K I.ok.mod.uI M.kp (aR (l pos a s n H _ I h) λo u ⟨v,y,d,r,q⟩=>{d.dM,?_}) m c;exact zhz M F hr i hd j d r q
end
def PK (X:Cx)(nR:List k4)(t:TA):Prop:=∀(pos:Pos) (pins:List<|Addr×Obj) (s:aq) (σ:St) (H:Hp) (Q:List V->Hp->Prop),Inv X pins σ H s->t σ H Q->X['a'] (evalAll ((m6 pos<|ki nR X.env).map (·.2))) (AP X pins σ Q) X.xe s
section
variable {X:Cx}{CX:CXT}{k:Nat}{f C:Addr}{fd:d6}{ps ks:List U}{sp:Sp}{E:XK}{x m:U}{p pos apos BL:Pos}{e o:Expr}{es:List Expr}{nR:List k4}{te ta:TE}{t tk:TA}{nm:Option U}
def sX (c:PE X e te)(hr:PK X nR t):PK X ({nm,(e),BL}::nR) (mT te t):=by intro pos a s b H Q I h;refine wpAny_evalAll_cons<|aa<|aR (c a s b H _ I h) λu d ⟨x,f,g,i,j⟩=>aa<|i8<|au ?_;exact aR (hr pos a d b f _ g j) λp q ⟨k,l,m,n,o⟩=>{x::k,l,m,.cons i n,o}
structure sY (K:Z5)(fd:d6)(ps ks:List U)(g:List Value->List Value->List Value)(gV:List V->List V->List V):Prop where
 to:∀(s:aq) (us ws:List Value),K.In s.heap->(g us ws).length=ps.length->nq s fd {us,ks.zip ws} (ps.zip<|g us ws)
 rel:∀{vs:List V} {us:List Value} {zs:List V} {ws:List Value},Vals vs us->Vals zs ws->Vals (gV vs zs) (g us ws)
variable {g:List Value->List Value->List Value}{gV:List V->List V->List V}
end
structure FnScope (N P:List U)(sc:Scope):Prop where
 kind:sc.kind=.function
 co:sc.isCoroutine=Z6
 gen:sc.isGenerator=Z6
 nd:N.Nodup
 pre:N.take P.length=P
 par:∀x∈P,sc.names.lookup x=Y .local\/sc.names.lookup x=Y .cell
 sZ:∀y∈sc.names,y.2≠.free
theorem GI {a:U->Option gb}:∀{binds:List<|U×Value} {m:U->Option Value},(∀v,(x,v)∉binds)->bindL a binds m x=m x
 | [],_,_=>rfl
 |(n,v)::r,m,h=>by
  unfold bindL;rw[GI λw b=>h w<|ao _ b];split
  .have :x≠n:=by rintro rfl;exact h v ar
   simp[this]
  .rfl
theorem GJ {a:U->Option gb}:∀{binds:List<|U×Value} {m:U->Option Value},(∀v,(x,v)∉binds)->bindC a binds m x=m x
 | [],_,_=>rfl
 |(n,v)::r,m,h=>by
  unfold bindC;rw[GJ λw b=>h w<|ao _ b];split
  .rfl
  .have :x≠n:=by rintro rfl;exact h v ar
   simp[this]
theorem z6p {a:U->Option gb}:∀{P:List U} {b:List Value} {i:Nat} {m:U->Option Value},P.Nodup->P[i]?=Y x->b[i]?=Y v->a x=Y .local->
  bindL a (P.zip b) m x=Y v
 | [],_,_,_,_,h,_,_=>by simp at h
 |_::_,[],_,_,_,_,h,_=>by simp at h
 |p::P,w::b,0,m,nd,c,d,hk=>by simp at c d;subst c;subst d;show bindL a ((p,w)::P.zip b) m p=_;unfold bindL;rw[GI λv e=>(iz.mp nd).1 (mr e).1,qq hk];simp
 |p::P,w::b,i+1,m,nd,c,d,hk=>by show bindL a ((p,w)::P.zip b) m x=_;exact z6p (iz.mp nd).2 (by simpa using c) (by simpa using d) hk
theorem z7n {a:U->Option gb}:∀{P:List U} {b:List Value} {i:Nat} {m:U->Option Value},P.Nodup->P[i]?=Y x->b[i]?=Y v->a x≠Y .local->
  bindC a (P.zip b) m x=Y v
 | [],_,_,_,_,h,_,_=>by simp at h
 |_::_,[],_,_,_,_,h,_=>by simp at h
 |p::P,w::b,0,m,nd,c,d,hk=>by simp at c d;subst c;subst d;show bindC a ((p,w)::P.zip b) m p=_;unfold bindC;rw[GJ λv e=>(iz.mp nd).1 (mr e).1,qr hk];simp
 |p::P,w::b,i+1,m,nd,c,d,hk=>by show bindC a ((p,w)::P.zip b) m x=_;exact z7n (iz.mp nd).2 (by simpa using c) (by simpa using d) hk
def start (N:List U)(vs:List V):St:=vs.map Y++bq (N.length-vs.length) Z8
def jA (CX:CXT)(P:b9)(w:World)(K:Z5)(mg:U->Option Value)(base:Heap)(N:List U)(qual:U)(scope:Scope)(f:Addr)(cd:Value)(A:eh)(outer:List Env)(s:aq)(H:Hp)(E:XK):Cx where
 prog:=P
 w:=w
 K:=K
 mg:=mg
 base:=base
 A:=A.deeper (m7 qual scope s[?_] f cd)
 N:=N
 s₀:=s
 iY:=H
 env:=m7 qual scope s[?_] f cd
 outer:=outer
 stack:=m7 qual scope s[?_] f cd::outer
 ex:=[]
 calm:=J
 fn:=λ_=>J
 pn:=[]
 xe:=λe s'=>wpAny (model P w) (A.deeper<|m7 qual scope s[?_] f cd) (qd (m7 qual scope s[?_] f cd) e) (λ_ tj=>CX outer H s E e tj) (λe' tj=>CX outer H s E e' tj) s'
def GK {sc:Scope}(h:sc.names.lookup x=Y .cell):∃c,(cellsFrom n sc.names []).lookup x=Y c:=by exact Option.isSome_iff_exists.mp (W.cellsFrom_some sc.names n []<|.inl h)
def zdb {K:Z5}
  (S:FnScope N ps scope) (hd:A.handled=Z8) (j:lL P w K mg base A outer s H) (hl:n.length=ps.length) (r:Vals n D)
  (x:InCallC s s[?_] (bindL (m7 g scope s[?_] f cd).kindOf (ps.zip D) λ_=>Z8) (cellsFrom (s[?_]+1) scope.names []) (bindC (m7 g scope s[?_] f cd).kindOf (ps.zip D) λ_=>Z8) F):
  Inv (jA G P w K mg base N g scope f cd A outer s H E) [] (start N n) H F:=by
 have I:=by have:=congrArg gq S.pre;rw[du]at this;omega
 let{B,ZK,rfl,hk}:=x.done;have l:∀b,b∉(jA G P w K mg base N g scope f cd A outer s H E).ex:=λb z=>absurd (show b∈([]:List Addr)from z) ZO;refine{{j.mod,S.kind,rfl,rfl,ag _,λy z c B d=>?_,λy m=>?_,λy c _ h=>?_,λ_=>hd,Around.frames_deeper j.frames,.inr {(rfl),rfl},λb z=>absurd z<|l b,j.bs,j.mP,λb _ _=>l b,λb z=>absurd z<|l b,j.dF,j.pX,λ_ _ z=>by ext z},rfl,j.bare,Un.kept hk,{_,x.toInCall.ns,λi y v B d L=>?_},λy c h=>{_,x.cell y c h},j.hok.fresh<|ag _,λy c h=>?_,λp o=>absurd (show p∈([]:List<|Addr×Obj)from o) ZO,j.hok.kept hk,?_,λ_ _ z=>by ext z}
 .exact name_of_addr x.apart (PySem.mem_of_lookup B) (PySem.mem_of_lookup d)
 .have m:scope.names.lookup y=Y .cell\/scope.names.lookup y=Y .free:=m;rcases m with m|m
  .exact GK m
  .exact absurd rfl (S.sZ _<|PySem.mem_of_lookup m)
 .exact gm (x.above y c<|PySem.mem_of_lookup h)
 .have C:i<n.length:=by
   unfold start at d;by_cases C:i<n.length
   .exact C
   .rw[jf<|by simpa using C]at d;rw[cu]at d;split at d<;>ext d
  have ha:n[i]?=Y v:=by
   unfold start at d;rw[eo (by simpa using C),bv]at d;cases e:n[i]? with
   |none=>rw[e]at d;ext d
   |some a=>rw[e]at d;cases d;rfl
  let{u,hu,rv}:=r.get ha;have o:ps[i]?=Y y:=by rw[<-S.pre,List.getElem?_take_of_lt ZQ];exact B
  have t:ps.Nodup:=S.pre▸S.nd.sublist (pb _ _);refine{u,rv,?_};rcases S.par y (dg o)with k|k
  .exact .inl {k,z6p t o hu k}
  .let{c,e}:=GK k;refine .inr {.inl k,c,e,?_};have q:=x.cell y c e;rw[z7n t o hu (by show scope.names.lookup y≠_;rw[k];decide)]at q;exact q
 .exact j.hok.fresh (gm<|x.above y c<|PySem.mem_of_lookup h)
 .unfold start;show _=N.length;rw[ax,am,cz];omega
def zm8 {K:Z5}{kV:Value}
  (M:K.lookup f=Y {oc,od,.func<|W.fnOf m a params g scope O kV C R an c ct,T}) (D:W.codeIn K c a=J) (S:FnScope N ps scope)
  (len:∀h H Q E,G h H Q E->h.length=ps.length)
  (j:∀A outer s H h Q E,Room k (A.deeper<|m7 a scope s[?_] f c)->G h H Q E->∃t,PSs (jA I P w K mg base N a scope f c A outer s H E) g t/\t {nx:=λ_ i=>Q .non i,rt:=Q} (start N h) H):
  FnOk P w K mg base I (k+1) f (W.fnOf m a params g scope O kV C R an c ct) ps G:=by
 refine{len,λA outer s H args ZL h Q E hr p hb r z=>?_};have L:=p.mod.uI.keeps λb o e=>(p.bs b o e).1
 have l:∀y∈ps.zip ZL,scope.names.lookup y.1=Y .local\/(scope.names.lookup y.1=Y .cell/\((cellsFrom (s[?_]+1) scope.names []).lookup y.1).isSome=J):=λ⟨n,v⟩ X=>by
  rcases S.par n (mr X).1 with q|q
  .exact .inl q
  .exact .inr {q,W.cellsFrom_some _ _ _<|.inl q}
 refine codeAny_call_function hr.depth (L _ _ M) rfl S.co S.gen rfl (W.codeRec_of L D)<|hb _ _ _ _ ?_;refine wpAny_newFunctionEnv_cells S.kind l λenv ZM s1 x=>?_;subst ZM;refine{(p.mod.nolimit.keeps λb o e=>(p.bs b o e).1).keeps x.toInCall.keep,codeAny_func ?_};let{t,ht,hq}:=j A outer s H h Q E (hr.deeper _) z;refine il (ht [] s1 (start N h) H _ (zdb S hr.hd p (len _ _ _ _ z) r x) hq) (λfl F hs=>?_) λe F hs=>hs;have B:∀{d:St} {i:Hp} {v:V} {u:Value},Inv (jA I P w K mg base N a scope f c A outer s H E) [] d i F->RelV v u->Q v i->CE outer P w H s Q u F:=λ{d i v u} ZK rv q=>{(v),i,ZK.os,ZK.bare,ZK.base,ZK.hok,rv,q};cases fl with
 |ret u=>let{v,d,i,ZK,rv,q}:=hs;exact B ZK rv q
 |next=>let{d,i,ZK,q}:=hs;exact B (v:=V.non) ZK rfl q
 |brk=>let{_,_,_,q}:=hs;exact False.elim q
 |cont=>let{_,_,_,q}:=hs;exact False.elim q
section
variable {X:Cx}{x:U}{p pos:Pos}{e:Expr}{es:List Expr}{t:TA}{id T:String}{r:List V->Hp->VK->Prop}
def pZ (r:List V->Hp->VK->Prop)(t:TA):TE:=λσ H Q=>t σ H λvs H1=>r vs H1 Q
def zfu (f:CallR X (.builtin id) r)(g:Gl X x)(hm:X.mg x=Z8)(i:cy x=Y (.builtin id))(ha:PA X (e::es) t)(hn:x≠"__name__":=by decide)(b:Xf x:=by decide)
  (j:cx (e::es) X.env=(Z6,eval e X.env)::cx es X.env:=by rfl) (c:(ja pos<|cx es X.env).any (·.1)=false:=by rfl):PE X (.Call (.Name x p) (e::es) [] pos) (pZ r t):=by
 intro a s d H Q I h;refine f9<|z2t I g hm i ?_ hn b;exact PyProof.Rows.callWith_builtin1 (aR (ha pos a s d H _ I h) λk l ⟨m,n,o,q,u⟩=>f a l d n m k Q o q u) j c
def zff (f:CallR X (.type T) r)(g:Gl X x)(hm:X.mg x=Z8)(i:cy x=Y (.type T))(ha:PA X (e::es) t)(hn:x≠"__name__":=by decide)(b:Xf x:=by decide)
  (j:cx (e::es) X.env=(Z6,eval e X.env)::cx es X.env:=by rfl) (c:(ja pos<|cx es X.env).any (·.1)=false:=by rfl):PE X (.Call (.Name x p) (e::es) [] pos) (pZ r t):=by
 intro a s d H Q I h;refine f9<|z2t I g hm i ?_ hn b;exact PyProof.Rows.callWith_type1 (aR (ha pos a s d H _ I h) λk l ⟨m,n,o,q,u⟩=>f a l d n m k Q o q u) j c
end
section
variable {κ:Type} [DecidableEq κ]
def cZ (kvs:List<|κ×V)(k:κ):Option V:=(kvs.find? λkv=>decide (kv.1=k)).map (·.2)
def putK (kvs:List<|κ×V)(k:κ)(v:V):List (κ×V):=if(kvs.any λkv=>decide (kv.1=k))=J then kvs.map (λkv=>if kv.1=k then(kv.1,v)else kv)else kvs++[(k,v)]
def zk {p:κ×V}(e:p.1=k):cZ (p::r) k=Y p.2:=by simp[cZ,dt,e]
def zl {p:κ×V}(e:¬p.1=k):cZ (p::r) k=cZ r k:=by simp[cZ,dt,e]
theorem GL (k:κ):∀a,(a.any λb=>decide (b.1=k))=(cZ a k).isSome
 | []=>rfl
 |p::r=>by
  rw[gu];by_cases e:p.1=k
  .simp only[zk e,qx e,Bool.true_or,Option.isSome_some]
  .rw[zl e,qy e];exact GL k r
def GN (a:List<|κ×V)(k:κ)(v:V):(putK a k v).length<=a.length+1:=by
 unfold putK;split
 .rw[am];omega
 .rw[ax,ay,List.length_nil];omega
def cT.cM (r:cT o u):o.isSome=u.isSome:=by
 cases o with
 |none=>cases u with
  |none=>rfl
  |some _=>exact r.elim
 |some _=>cases u with
  |none=>exact r.elim
  |some _=>rfl
def cT.getD (r:cT o u)(rd:RelV d a):RelV (o.getD d) (u.getD a):=by
 cases o with
 |none=>cases u with
  |none=>exact rd
  |some _=>exact r.elim
 |some _=>cases u with
  |none=>exact r.elim
  |some _=>exact r
def KV.val (r:KV a g)(k:κ):cT (cZ a k) (pc g k):=by
 induction r with
 |nil=>exact True.intro
 | @cons p q ps c h t i=>
  let{f,j}:=h;by_cases e:p.1=k
  .have d:q.1=k:=f.symm.trans e;have b:pc (q::c) k=Y q.2:=by simp[pc,dt,d]
   rw[zk e,b];exact j
  .have d:¬q.1=k:=λz=>e<|f.trans z;have b:pc (q::c) k=pc c k:=by simp[pc,dt,d]
   rw[zl e,b];exact i
def KV.any (r:KV a c)(k:κ):(a.any λb=>decide (b.1=k))=c.any λb=>decide (b.1=k):=by
 induction r with
 |nil=>rfl
 |cons h t d=>rw[gu,gu,d,h.1]
def KV.repl (r:KV c d)(k:κ)(f:RelV y u):
  KV (c.map λa=>if a.1=k then(a.1,y)else a) (d.map λa=>if a.1=k then(a.1,u)else a):=by
 induction r with
 |nil=>exact .nil
 | @cons p q ps j h t g=>
  rw[bu,bu];refine .cons ?_ g;let{b,i}:=h;by_cases e:p.1=k
  .rw[qq e,qq<|b.symm.trans e];exact{(b),f}
  .rw[qr e,qr<|λz=>e<|b.trans z];exact{(b),i}
def KV.put (r:KV a b)(k:κ)(c:RelV y u):KV (putK a k y) (stored b k u):=by
 unfold putK stored;rw[r.any k];by_cases e:(b.any λd=>decide (d.1=k))=J
 .rw[qq e,qq e];exact r.repl k c
 .rw[qr e,qr e];exact Paired.snoc r {rfl,(c)}
theorem KV.length (r:KV a vs):a.length=vs.length:=Paired.length r
end
def uN (r:RelV (kV k) u):(jO P w).is k u=true:=by
 cases k with
 |inl i=>let{t,e}:=r;subst e;exact L9 P w i t
 |inr x=>let{t,e}:=r;subst e;exact L' P w x t
theorem GO:∀{ks:List Key} {a:List Value},Vals (ks.map kV) a->ItemsAre (jO P w) ks a
 | [],_,r=>by rw[List.map_nil]at r;ext r;exact .nil
 |k::ks,_,r=>by
  cases r with
  |cons h t=>exact .cons (uN h) (GO t)
abbrev KT (H:Hp):List (List Key×V)->List (List Key×Addr×Value)->Prop:=jo λp q=>p.1=q.1/\H q.2.1=Y (.tup<|p.1.map kV)/\RelV p.2 q.2.2
def KT.val (r:KT H kvs xs)(k:List Key):cT (cZ kvs k) ((atKey xs k).map (·.2)):=by
 induction r with
 |nil=>exact True.intro
 | @cons p q ps qs h t ih=>
  let{h1,_,h2}:=h;by_cases e:p.1=k
  .have e':q.1=k:=h1.symm.trans e;have b:atKey (q::qs) k=Y q.2:=by simp[atKey,dt,e']
   rw[zk e,b];exact h2
  .have e':¬q.1=k:=λz=>e<|h1.trans z;have b:atKey (q::qs) k=atKey qs k:=by simp[atKey,dt,e']
   rw[zl e,b];exact ih
def KT.repl (r:KT H b f)(k:List Key)(g:RelV y u):
  KT H (b.map λc=>if c.1=k then(c.1,y)else c) (f.map<|putAt k u):=by
 induction r with
 |nil=>exact .nil
 | @cons p q ps l h t i=>
  rw[bu];refine .cons ?_ i;let{a,d,j}:=h;unfold putAt;by_cases e:p.1=k
  .rw[qq e,qq<|a.symm.trans e];exact{(a),d,g}
  .rw[qr e,qr<|λz=>e<|a.trans z];exact{(a),d,j}
def KT.put (r:KT H a c)(k:List Key)(hb:H b=Y (.tup<|k.map kV))(d:RelV y u):
  KT H (putK a k y) (storedH c k b u):=by
 have e:(a.any λf=>decide (f.1=k))=(atKey c k).isSome:=by rw[GL,(r.val k).cM,jz]
 unfold putK storedH;rw[e];by_cases q:(atKey c k).isSome=J
 .rw[qq q,qq q];exact r.repl k d
 .rw[qr q,qr q];exact Paired.snoc r {rfl,hb,(d)}
theorem KT.keeps (r:KT H a d)(ht:∀b c,H b=Y (.tup c)->e b=Y (.tup c)):KT e a d:=Paired.sO r λ_ _ z=>{z.1,ht _ _ z.2.1,z.2.2}
section
variable {P:b9}{w:World}{H:Hp}{h:Heap}{a:Addr}
theorem GP (ok:HOk P w H h)(e:Rd H a u):z1u P w H h a u:=e.ok ok
theorem rP (ok:HOk P w H h)(e:Rd H a<|.dK b):b.length<=aw/\(a==ik)=Z6/\∃c,KV b c/\h.DictOf (jO P w) a c:=show z1u P w H h a (.dK b)from GP ok e
theorem BM (ok:HOk P w H h)(e:H a=Y (.dK b)):b.length<=aw/\(a==ik)=Z6/\∃c,KV b c/\h.DictOf (jO P w) a c:=rP ok (.inl e)
def uO (ok:HOk P w H h)(e:H a=Y (.tup<|ks.map kV)):(l7<|jO P w).is h ks a:=by let{_,b,r,n,c}:=(ok a _ e);exact{_,b.toArray,n,c,rfl,rfl,by simpa using GO r}
def z85 (ok:HOk P w H h)(e:Rd H a<|.dT b):b.length<=aw/\(a==ik)=Z6/\
  ∃c,KT H b c/\h.DictOfH (l7<|jO P w) a c:=by
 let{z,y,c,r,o,es,ep,f,g,i,j,k}:=(GP ok e);refine{z,y,c,r,o,es,ep,f,g,i,j,λx hx=>?_,k}
 have all:∀{l:List<|List Key×V} {m:List<|List Key×Addr×Value},KT H l m->∀x∈m,(l7<|jO P w).is h x.1 x.2.1:=by
  intro l m q
  induction q with
  |nil=>intro x hx;exact nomatch hx
  | @cons p q ps s d t n=>
   intro x hx;rcases ak.mp hx with e|hx
   .subst e;exact uO ok (d.1▸d.2.1)
   .exact n x hx
 exact all r x hx
theorem Nc (ok:HOk P w H h)(e:H a=Y (.dT b)):b.length<=aw/\(a==ik)=Z6/\∃c,KT H b c/\h.DictOfH (l7<|jO P w) a c:=z85 ok (.inl e)
end
def DGet (H:Hp)(a:Addr)(y:V)(r:Option V):Prop:=(∃kvs k,Rd H a (.dK kvs)/\y=kV k/\r=cZ kvs k)\/∃kvs k b,Rd H a (.dT kvs)/\y=.ref b/\H b=Y (.tup<|k.map kV)/\r=cZ kvs k
def DPut (H:Hp)(a:Addr)(y v:V)(H':Hp):Prop:=
 (∃kvs k,H a=Y (.dK kvs)/\y=kV k/\kvs.length<aw/\H'=upd H a (.dK<|putK kvs k v))\/
 ∃kvs k b,H a=Y (.dT kvs)/\y=.ref b/\H b=Y (.tup<|k.map kV)/\kvs.length<aw/\H'=upd H a (.dT<|putK kvs k v)
theorem DGet.k {k:Key}(e:H a=Y (.dK b)):DGet H a (kV k) (cZ b k):=.inl {b,k,.inl e,rfl,rfl}
theorem DPut.k {k:Key}(e:H a=Y (.dK b))(hl:b.length<aw):DPut H a (kV k) v (upd H a<|.dK<|putK b k v):=.inl {(b),k,e,rfl,hl,rfl}
section
variable {X:Cx}{pins:List<|Addr×Obj}{σ:St}{H:Hp}{s:aq}{a:Addr}{y v:V}{u r:Value}{o:Option V}{A:eh}{E:Value->aq->Prop}
def Inv.big (I:Inv X pins σ H s):ik<s[?_]:=by exact k6 ZP ((I.mod.glob.keeps I.bk).lt)
def zep (hu:A.units+1<cLine)(I:Inv X pins σ H s)(g:DGet H a y<|Y v)(n:RelV y u)(h:∀d o,Inv X pins σ H o->RelV v d->Q d o):
  wpAny (model X.prog X.w) A (pd (.ref a) u) Q E s:=by
 rcases g with⟨f,k,e,i,l⟩|⟨f,k,b,e,i,q,l⟩
 .subst i;let{z,hd,t,rel,dd}:=rP I.hok e;let{d,j,c}:=cT.some_of<|l▸rel.val k;exact wpAny_getItem_of (uN n) dd.mapOf j (h d _ (I.tok _) c)
 .subst i;ext n;let{z,hd,x,rel,dd}:=z85 I.hok e;let{d,j,c}:=cT.some_of<|l▸rel.val k;let{p,r,m}:=c7.mp j;refine wpAny_getItem_heap (ip hu) (uO I.hok q) dd r ?_;rw[m];exact h d _ (I.tok _) c
def d_in (hu:A.units+1<cLine)(I:Inv X pins σ H s)(g:DGet H a y o)(f:RelV y u)(h:∀i,Inv X pins σ H i->Q (.bool o.isSome) i):
  wpAny (model X.prog X.w) A (cn .In u<|.ref a) Q E s:=by
 rcases g with⟨c,k,e,d,l⟩|⟨c,k,b,e,d,j,l⟩
 .subst d;let{z,hd,m,rel,dd}:=rP I.hok e;refine wpAny_in_of (uN f) hd dd.mapOf ?_;rw[<-(rel.val k).cM,<-l];exact h _ (I.tok _)
 .subst d;ext f;let{z,hd,n,rel,dd}:=z85 I.hok e;refine wpAny_in_heap (ip hu) (uO I.hok j) hd dd ?_;have q:=(rel.val k).cM;rw[jz]at q;rw[<-q,<-l];exact h _ (I.tok _)
def zna (hu:A.units+1<cLine)(I:Inv X pins σ H s)(g:DGet H a y o)(f:RelV y u)(h:∀i,Inv X pins σ H i->Q (.bool<|!o.isSome) i):
  wpAny (model X.prog X.w) A (cn .NotIn u<|.ref a) Q E s:=by
 rcases g with⟨c,k,e,d,l⟩|⟨c,k,b,e,d,j,l⟩
 .subst d;let{z,hd,m,rel,dd}:=rP I.hok e;refine wpAny_notIn_of (uN f) hd dd.mapOf ?_;rw[<-(rel.val k).cM,<-l];exact h _ (I.tok _)
 .subst d;ext f;let{z,hd,n,rel,dd}:=z85 I.hok e;refine wpAny_notIn_heap (ip hu) (uO I.hok j) hd dd ?_;have q:=(rel.val k).cM;rw[jz]at q;rw[<-q,<-l];exact h _ (I.tok _)
theorem ze9 (I:Inv X pins σ H s)(mu:Mut<|H a)(hs:cc a s.heap c)(e:∃q,c.get? a=Y q)(new:z1u X.prog X.w (upd H a d) c a d):
  Inv X pins σ (upd H a d) {s with heap:=c,toks:=t'}:=
 I.write mu (.inl rfl) (λb q hb z=>(hs.2 b hb).trans z) e new
theorem Nd (z:b.length<=aw)(hd:(a==ik)=Z6)(rel:KV b c)(dd:d.DictOf (jO P w) a c): z1u P w e d a (.dK b):={(z),hd,c,rel,dd}
def zfk (hu:A.units+1<cLine)(I:Inv X pins σ H s)(g:DPut H a y v B)(n:RelV y u)(rv:RelV v r)(h:∀o,Inv X pins σ B o->Q () o):
  wpAny (model X.prog X.w) A (setItem (.ref a) u r) Q E s:=by
 rcases g with⟨f,k,e,j,l,m⟩|⟨f,k,b,e,j,p,l,m⟩
 .subst j m;let{z,hd,C,rel,dd}:=BM I.hok e;have t:C.length<=aw:=rel.length▸z;exact wpAny_setItem_pairs (hsz:=t) (uN n) dd λD d hs=>h _ (ze9 I (e▸True.intro) hs (let⟨q,_,_,i,_⟩:=d;{(q),i})<|Nd (by have:=GN f k v;omega) hd (rel.put k rv) d)
 .subst j m;ext n;let{z,hd,F,rel,dd}:=Nc I.hok e;have t:F.length<=aw:=Paired.length rel▸z;refine wpAny_setItem_heap (ip hu) (uO I.hok p) dd λD d hs=>h _ ?_;let{q,es,ep,i,G,ZK,K,_,L}:=d;refine ze9 I (e▸True.intro) hs {(q),i} {(by have:=GN f k v;omega),hd,_,(rel.put k p rv).keeps λc M x=>?_,q,es,ep,i,G,ZK,K,L};rw[aK<|Ma x e<|λz=>nomatch z];exact x
end
section
variable {X:Cx}{pins:List<|Addr×Obj}{σ:St}{H:Hp}{s:aq}{a:Addr}{kvs:List<|Key×V}{k:Key}{u:Value}{A:eh}{E:Value->aq->Prop}
def Nf (I:Inv X pins σ H s)(e:Rd H a<|.dK kvs)(h:∀t b,Inv X pins σ H b->Q (.int kvs.length t) b):wpAny (model X.prog X.w) A (call (.builtin "len") [.ref a]) Q E s:=by let{z,hd,c,rel,dd}:=rP I.hok e;refine call_len_dict hd dd (by rw[<-rel.length];rw[cf]at z;omega) ?_;rw[<-rel.length];exact h _ _ (I.tok _)
end
def Ng (I:Inv X d f H s)(g:DGet H a y o):s.TypeIs (.ref a) "dict":=by
 rcases g with⟨c,k,e,_,_⟩|⟨c,k,b,e,_,_,_⟩
 .let{_,_,h,_,dd}:=rP I.hok e;exact dd.typeIs
 .let{_,_,i,_,dd}:=z85 I.hok e;exact dd.typeIs
theorem Nh (h:Heap)(hb:ik<h.objs.size):z1u P w H (h.push {cls:=.type "dict",data:=.dict #[]}) h.objs.size (.dK []):={c9 _,beq_eq_false_iff_ne.mpr<|Ne.symm<|cg hb,[],.nil,Heap.DictOf.new h}
def GQ:TE:=λ_ H Q=>∀p,H p=Z8->Q (.ref p) (upd H p<|.dK [])
section
variable {X:Cx}{pos:Pos}
theorem GR:PE X (.Dict [] [] pos) GQ:=λa s b H Q I h=>wpAny_Dict_empty {.ref s[?_],_,I.laid (λ_ _ q=>af _ q) (ag _)<|Nh s.heap I.big,rfl,h _<|I.hok.fresh<|ag _}
end
def Ni (kvs more:List<|Key×V):List (Key×V):=more.foldl (λacc kv=>putK acc kv.1 kv.2) kvs
def KV.merge:∀{a:List<|Key×V} {d:List<|Key×Value} {b:List<|Key×V} {c:List<|Key×Value},KV a d->KV b c->KV (Ni b a) (merged c d):=by
 intro a d b c r
 induction r generalizing b c with
 |nil=>intro q;exact q
 | @cons p q ps i h t f=>
  intro g;have e:KV (putK b p.1 p.2) (stored c q.1 q.2):=by have:=g.put p.1 h.2;rw[<-h.1];exact this
  exact f e
structure M1 (X:Cx)(o:Expr)(m:U)(apos:Pos)(e:Expr)(cpos:Pos):Prop where
 base:i7 o m X.env (eval o X.env)=eval o X.env
 Nj:((ja cpos<|cx [e] X.env).all (λx=> !x.1)&&(m6 cpos<|ki [] X.env).all (λx=>x.1.isSome) &&decide (([e]:List Expr).length+([]:List k4).length+(if([]:List k4).isEmpty then 0 else 1)<30))=J
 line:(apos.endLine==cpos.line)=J
 trees:ja cpos (cx [e] X.env)=[(Z6,eval e X.env)]
def IsD (H:Hp)(a:Addr):Prop:=(∃kvs,Rd H a<|.dK kvs)\/∃kvs,Rd H a (.dT kvs)
def zpc (I:Inv X i j H s)(d:IsD H a):
  s.TypeIs (.ref a) "dict"/\(∀b,ZR a=.ref b->∃ob,s.heap.get? b=Y ob/\ob.dict=Z8)/\(a==ik)=false:=by
 rcases d with⟨f,e⟩|⟨f,e⟩
 .let{_,hd,k,_,c}:=rP I.hok e;refine{c.typeIs,λb q=>?_,hd};ext q;let{ob,_,_,g,h,_}:=c;exact{ob,(g),h.2.1}
 .let{_,hd,l,_,c}:=z85 I.hok e;refine{c.typeIs,λb q=>?_,hd};ext q;let{ob,_,_,g,h,_}:=c;exact{ob,(g),h.2.1}
section
variable {X:Cx}{pins:List<|Addr×Obj}{σ:St}{H:Hp}{s:aq}{a:Addr}{y d:V}{u r:Value}{o:Option V}{A:eh}{E:Value->aq->Prop}
def zt0 (hu:A.units+1<cLine)(I:Inv X pins σ H s)(g:DGet H a y o)(i:RelV y u)(h:∀j m,Inv X pins σ H m->RelV (o.getD .non) j->Q j m):
  wpAny (model X.prog X.w) A (call (.builtin "dict.get") [.ref a,u]) Q E s:=by
 rcases g with⟨d,k,e,f,l⟩|⟨d,k,b,e,f,n,l⟩
 .subst f;let{z,hd,q,rel,c}:=rP I.hok e;refine pe PySem.F.slot_dict_get c.typeIs PySem.F.entry_dict_get (PySem.F.args_dict_get_2 _ _) (meets_dict_get (jO X.prog X.w) a (uN i) hd) {_,c.mapOf,h _ _ (I.tok _) ?_};rw[l];exact(rel.val k).getD rfl
 .subst f;ext i;let{z,hd,p,rel,c}:=z85 I.hok e;refine pe PySem.F.slot_dict_get c.typeIs PySem.F.entry_dict_get (PySem.F.args_dict_get_2 _ _) (meetsH_dict_get (l7<|jO X.prog X.w) a b hd) {ip hu,k,p,uO I.hok n,c,h _ _ (I.tok _) ?_};rw[l];exact(rel.val k).getD rfl
end
def GS (td ty:TE):TE:=λσ H Q=>td σ H λx H1=>∃a,x=.ref a/\IsD H1 a/\ty σ H1 λy H2=>∃o,DGet H2 a y o/\Q (o.getD .non) H2
section
variable {X:Cx}{o e f:Expr}{apos cpos:Pos}{td ty tx:TE}
def Nk (hu:X.A.units+1<cLine)(j:PE X o td)(k:PE X e ty)(m:M1 X o "get" apos e cpos):PE X (.Call (.Attribute o "get" apos) [e] [] cpos) (GS td ty):=by intro b s f H Q I h;refine wpAny_Call_method m.base m.Nj m.line PySem.F.plainAttrs_dict PySem.F.slot_dict_get PySem.F.type_dict_get<|aR (j b s f H _ I h) λu l ⟨x,n,i,p,a,ex,d,q⟩=>?_;subst ex;obtain rfl:u=ZR a:=p;let{r,t,_}:=zpc i d;refine{r,t,?_};rw[m.trees];refine j0 rfl<|kj<|ox<|aR (k b l f n _ i q) λD E ⟨y,v,w,z,G,g,B⟩=>o9 ?_;exact zt0 hu w g z λZK K C c=>{_,v,C,c,B}
end
end L2
namespace HT
open PySem PyProof.Rows
section
variable {prog:b9}{w:World}{A:eh}{E:Value->aq->Prop}{s:aq}
def cat_tup (ht:IsTup s.heap t c.toArray)(hb:IsTup s.heap b ws.toArray)(l:c≠[])
  (p:ws=[]->Q (.ref t) s) (q:ws≠[]->Q (.ref s[?_]) {s with heap:=s.heap.push {cls:=.type "tuple",data:=.seq (c++ws).toArray}})
  (d:c.length+ws.length<=aw):w['b'] (f8 .Add (.ref t)<|.ref b) Q E s:=by
 let{{cls,dd,data,sl},ho,r,n,hd}:=id ht;let{{m,f,i,g},a,j,o,k}:=id hb;subst r hd j k;have e:c.toArray++ws.toArray=(c++ws).toArray:=by simp
 by_cases h:ws=[]
 .exact mi {_,ho,rfl} {_,a,rfl} mf ol PySem.F.slot_tuple_add PySem.F.entry_tuple_add (PySem.F.args_tuple_add_2 _ _) (tuple_addW1 t b c.toArray ws.toArray n o dd f sl g (by simpa using l)<|by simp[h]) {ho,a,p h}
 .refine mi {_,ho,rfl} {_,a,rfl} mf ol PySem.F.slot_tuple_add PySem.F.entry_tuple_add (PySem.F.args_tuple_add_2 _ _)
   (tuple_addW2 t b c.toArray ws.toArray n o dd f sl g (by simpa using l) (by simpa using h)<|br▸d) {ho,a,?_}
  rw[e];exact q h
def bC (n d:Nat):Option Int->Nat
 |none=>d
 |some v=>if v<0 then(v+(n:Int)).toNat else min v.toNat n
def tm (n d:Nat)(hd:d<=n)(o:Option Int):bC n d o<=n:=by
 cases o with
 |none=>exact hd
 |some v=>
  show(if v<0 then(v+n).toNat else min v.toNat n)<=n;by_cases a:v<0
  .rw[qq a];omega
  .rw[qr a];exact Nat.min_le_right _ _
def GU (v:Int)(n d:Nat):(if v<0 then max (v+(n:Int)) 0 else min v (n:Int))=((bC n d (Y v):Nat):Int):=by
 show(if v<0 then max (v+n) 0 else min v n)=(((if v<0 then(v+n).toNat else min v.toNat n):Nat):Int);by_cases a:v<0
 .simp only[qq a];omega
 .simp only[qr a];omega
def Nl (a b:Option Int)(n:Nat):lm a b 1 (n:Int)=(((bC n 0 a:Nat):Int),((bC n n b:Nat):Int)):=by
 refine Prod.ext ?_ ?_
 .cases a with
  |none=>rfl
  |some v=>exact GU v n 0
 .cases b with
  |none=>rfl
  |some v=>exact GU v n n
def Nm (i j:Nat):gj (i:Int) (j:Int) 1=j-i:=by unfold gj;split<;>omega
def GV (p:oz v o)(h:Q o s):w['b'] (Builtin.Slice.slicePartIndex v) Q E s:=by
 cases p with
 |none=>exact slicePart_none h
 |int i t=>exact slicePart_int h
def z3p {a:Option Int}{n:Nat}(hs:s.heap.IsSliceOf sl e f .none)(pl:oz e a)(pu:oz f d)
  (h:Q (((bC n 0 a:Nat):Int),1,bC n n d-bC n 0 a) s):w['b'] (Builtin.Slice.sliceApplied (.ref sl)<|pure n) Q E s:=by
 let{os,b,g,c}:=id hs;refine aa<|aa<|dj b c rfl<|aa<|dj b c rfl<|aa<|dj b c rfl<|au ?_;refine aa<|slicePart_none ?_;refine aa<|GV pl<|aa<|GV pu<|aa<|au ?_;show wpAny _ _ (match lm a d 1 n with|(a,d)=>pure (a,(1:Int),gj a d 1)) _ _ s;rw[Nl a d n];show wpAny _ _ (pure (((bC n 0 a:Nat):Int),1,gj ((bC n 0 a:Nat):Int) ((bC n n d:Nat):Int) 1)) _ _ s;rw[Nm];exact au h
def Nn (a:Array Value)(i k:Nat):((dz k).filterMap λ(m:Nat)=>a[((i:Int)+(m:Int)*1).toNat]?).toArray=((a.toList.drop i).take k).toArray:=by
 have e:(λ(m:Nat)=>a[((i:Int)+m*1).toNat]?)=λm=>a[i+m]?:=by
  funext m
  have:((i:Int)+m*1).toNat=i+m:=by omega
  rw[this]
 rw[e];have:=pick_run a i k;rw[List.filterMap_map]at this;have b:((λx=>a[x]?)∘λx=>i+x)=λm=>a[i+m]?:=rfl;rw[b]at this;rw[this]
def getItem_tuple_cut {b:Option Int}(ht:IsTup s.heap t items)(hs:s.heap.IsSliceOf sl i j .none)(pl:oz i b)(pu:oz j c)
  (k:¬(bC items.size 0 b=0/\bC items.size items.size c=items.size))
  (h:Q (.ref s[?_]) {s with heap:=s.heap.push {cls:=.type "tuple",data:=.seq ((items.toList.drop<|bC items.size 0 b).take<|bC items.size items.size c-bC items.size 0 b).toArray}})
  (g:items.size<=aw):w['b'] (pd (.ref t)<|.ref sl) Q E s:=by
 have a:sizeOk (.seq ((items.toList.drop<|bC items.size 0 b).take<|bC items.size items.size c-bC items.size 0 b).toArray):=by show((items.toList.drop<|bC items.size 0 b).take<|bC items.size items.size c-bC items.size 0 b).toArray.size<=aw;rw[br,du,df,dv];omega
 let{os,d,e,l}:=id hs;unfold pd
 try exists fz ?_
 first|refine aa (au ?_)|skip
 refine aa<|wpAny_sequenceKey ht.typeIs ZP ?_;refine aa<|fi ht.typeIs PyProof.Rows.slot_tuple_getitem<|gx PyProof.Rows.slot_tuple_getitem ht.typeIs entry_tuple_getitem ?_<|args_tuple_getitem _ _;show wpAny _ _ (Builtin.Tuple.tupleItemsOf (.ref t)>>=_) _ _ s;refine aa<|tupleItemsOf_ ht ?_;refine aa<|wpAny_typeOf {os,(d),e} ?_;refine aa<|z3p hs pl pu ?_;have f:¬((((bC items.size 0 b:Nat):Int)==0&&(1:Int)==1&&(bC items.size items.size c-bC items.size 0 b)==items.size)=J):=by intro q;rw[aj,aj]at q;have m:=eq_of_beq q.1.1;have n:=eq_of_beq q.2;exact k {by omega,by omega}
 show wpAny _ _ (if(((bC items.size 0 b:Nat):Int)==0&&1==1&&(bC items.size items.size c-bC items.size 0 b)==items.size)=J then _ else _) _ _ s;rw[qr f,Nn]
 first
  |exact aa (gr (au ⟨_,rfl,au h⟩) a)
  |exact aa (gr (aa<|au<|au ⟨_,rfl,au h⟩) a)
  |exact aa (aa<|gr (au<|au ⟨_,rfl,au h⟩) a)
  |exact aa (aa<|gr (au ⟨_,rfl,au h⟩) a)
end
end HT
namespace L2
open PySem PySem.Spec PyProof.Rows
abbrev TO:=St->Hp->(Option Int->Hp->Prop)->Prop
def PO (X:Cx)(e:Option Expr)(t:TO):Prop:=∀(pins:List<|Addr×Obj) (s:aq) (σ:St) (H:Hp) (Q:Option Int->Hp->Prop),Inv X pins σ H s->t σ H Q->X['a'] (evalPart e X.env) (λu s'=>∃o H',Inv X pins σ H' s'/\oz u o/\Q o H') X.xe s
def Nq:TO:=λ_ H Q=>Q Z8 H
def Nr (t:TE):TO:=λσ H Q=>t σ H λx H1=>∃i,x=.int i/\Q (Y i) H1
section
variable {X:Cx}{e:Expr}{te:TE}{lo hi:Option Expr}{tl th:TO}{pos p2:Pos}
def Nt:PO X Z8 Nq:=by intro a s b H Q I h;exact au {Z8,H,I,.none,h}
def Nu (h:PE X e te):PO X (Y e) (Nr te):=by intro a s b H Q I c;refine aR (h a s b H _ I c) λu k ⟨x,d,f,g,j⟩=>?_;let{i,rfl,q}:=j;let{t,rfl}:=g;exact{Y i,d,f,.int i t,q}
def pG (X:Cx)(r:V->Option Int->Option Int->Hp->VK->Prop):Prop:=∀(pins:List<|Addr×Obj) (s:aq) (σ:St) (H:Hp) (x:V) (v vl vu:Value) (lo hi:Option Int) (sl:Addr) (Q:VK),Inv X pins σ H s->RelV x v->s.heap.IsSliceOf sl vl vu .none->oz vl lo->oz vu hi->r x lo hi H Q->∃T id,typeLookup (.type T) "__getitem__"=pure (Y<|.builtin id)/\s.TypeIs v T/\X['a'] (pd v<|.ref sl) (EP X pins σ Q) X.xe s
def pG.or (h:pG X r)(f:pG X g):pG X (λx lo hi H Q=>r x lo hi H Q\/g x lo hi H Q):=by
 intro a s b H x v c d lo hi sl Q I e hs pl pu q;rcases q with q|q
 .exact h a s b H x v c d lo hi sl Q I e hs pl pu q
 .exact f a s b H x v c d lo hi sl Q I e hs pl pu q
def Nv (r:V->Option Int->Option Int->Hp->VK->Prop)(te:TE)(tl th:TO):TE:=λσ H Q=>te σ H λx H1=>tl σ H1 λl H2=>th σ H2 λu H3=>r x l u H3 Q
def Nw (hr:pG X r)(j:PE X e te)(hl:PO X lo tl)(hu:PO X hi th):PE X (.Subscript e (.Slice lo hi Z8 p2) pos) (Nv r te tl th):=by intro a s c H Q I h;refine Subscript_<|aR (j a s c H _ I h) λv k ⟨x,m,n,o,p⟩=>?_;refine wpAny_Slice<|aR (hl a k c m _ n p) λf t ⟨l,w,y,pl,z⟩=>aR (hu a t c w _ y z) λg d ⟨u,i,A,pu,B⟩=>?_;refine au ?_;have C:Inv X a c i {d with heap:=d.heap.push {cls:=.type "slice",data:=.fields #[f,g,.none]}}:=A.kept λb F q=>af _ q;let{T,id,D,ht,E}:=hr a {d with heap:=d.heap.push {cls:=.type "slice",data:=.fields #[f,g,.none]}} c i x v f g l u d[?_] Q C o (Heap.IsSliceOf.new ..) pl pu B;exact tail_any ht D E (by with_unfolding_all rfl)
def qA (xs:List V)(lo hi:Option Int):List V:=(xs.drop<|HT.bC xs.length 0 lo).take (HT.bC xs.length xs.length hi-HT.bC xs.length 0 lo)
def GW (a:List V)(lo hi:Option Int):(qA a lo hi).length<=a.length:=by unfold qA;rw[du,df];omega
def BN (K:Z5):V->Option Int->Option Int->Hp->VK->Prop:=λx lo hi H Q=>∃a xs,x=.ref a/\dC K H a xs/\¬(HT.bC xs.length 0 lo=0/\HT.bC xs.length xs.length hi=xs.length)/\∀p,H p=Z8->Q (.ref p) (upd H p<|.tup<|qA xs lo hi)
def Ny:pG X (BN X.K):=by
 rintro f s j H x v k l lo hi sl Q I h hs pl pu ⟨a,d,rfl,hx,i,q⟩
 ext h;let{e,r,ht,g}:=I.tuple hx;have c:e.toArray.size=d.length:=br▸r.length.symm;refine{"tuple",_,PyProof.Rows.slot_tuple_getitem.lookup,ht.typeIs,?_};refine HT.getItem_tuple_cut ht hs pl pu (c▸i) ?_<|c▸g;rw[c];refine{.ref s[?_],_,I.laid (λb m q=>af _ q) (ag _) ?_,rfl,q _<|I.hok.fresh<|ag _};exact{bj (GW d lo hi) g,_,(r.drop<|HT.bC d.length 0 lo).take<|HT.bC d.length d.length hi-HT.bC d.length 0 lo,iX.new _ _}
def GX (K:Z5):R2:=λx y H Q=>∃a b xs ys,x=.ref a/\y=.ref b/\dC K H a xs/\dC K H b ys/\xs≠ []/\xs.length+ys.length<=aw/\(ys=[]->Q (.ref a) H)/\(ys≠[]->∀p,H p=Z8->Q (.ref p) (upd H p<|.tup<|xs++ys))
def Vals.hZ (r:Vals a b):b=[]↔a=[]:=by
 cases r with
 |nil=>simp
 |cons _ _=>simp
def Nz:OpR X (f8 .Add) (GX X.K):=by
 rintro e s n H x y v u Q I h i ⟨a,b,o,p,rfl,rfl,ha,hb,hx,f,j,k⟩
 ext h;ext i;let{l,d,m,_}:=I.tuple ha;let{g,c,p2,_}:=I.tuple hb;refine HT.cat_tup m p2 (λz=>hx<|d.hZ.mp z) (λz=>{.ref a,H,I,rfl,j<|c.hZ.mp z}) (λz=>?_) (by rw[<-d.length,<-c.length];exact f);refine{.ref s[?_],_,I.laid (λb r q=>af _ q) (ag _) ?_,rfl,k (λw=>z<|c.hZ.mpr w) _<|I.hok.fresh<|ag _};exact{by rw[ax];exact f,_,d.append c,iX.new _ _}
end
def kT (n:Nat)(i:Int):Option Nat:=if 0<=i then(if i<n then Y i.toNat else Z8)else if -(n:Int)<=i then Y (i+n).toNat else Z8
def cN {α:Type}(xs:List α)(i:Int):Option α:=(kT xs.length i).bind λj=>xs[j]?
def GY (h:kT n i=Y j):seqIndex? i n=Y j/\j<n/\-(n:Int)<=i/\i<n:=by
 unfold kT at h;by_cases h0:0<=i
 .rw[qq h0]at h;by_cases a:i<n
  .rw[qq a]at h;have e:=qt h;exact{by rw[p9 h0 a,e],by omega,by omega,a}
  .rw[qr a]at h;ext h
 .rw[qr h0]at h;by_cases a:-n<=i
  .rw[qq a]at h;have e:=qt h;exact{by rw[pf ZQ a,e],by omega,a,by omega}
  .rw[qr a]at h;ext h
def BO (h:cN a i=Y v):∃j,seqIndex? i a.length=Y j/\a[j]?=Y v/\j<a.length/\-(a.length:Int)<=i/\i<a.length:=by
 unfold cN at h;cases e:kT a.length i with
 |none=>rw[e]at h;ext h
 |some j=>rw[e]at h;let{b,c,d,f}:=GY e;exact{(j),b,h,c,d,f}
def GZ (b:Expr):Prop:=∀o i,subscripted b Z6 o i=operate [o,i] (pd o i)
def mU (X:Cx)(r:R2):Prop:=∀(value slice:Expr) (pins:List<|Addr×Obj) (s:aq) (σ:St) (H:Hp) (x y:V) (v u:Value) (Q:VK),Inv X pins σ H s->RelV x v->RelV y u->r x y H Q->subscripted slice Z6 v u=operate [v,u] (pd v u)->X['a'] (subscriptTail value slice v u) (EP X pins σ Q) X.xe s
def MtR (X:Cx)(id:String)(r:V->List V->Hp->VK->Prop):Prop:=∀(pins:List<|Addr×Obj) (s:aq) (σ:St) (H:Hp) (x:V) (xs:List V) (v:Value) (us:List Value) (Q:VK),Inv X pins σ H s->RelV x v->Vals xs us->r x xs H Q->X['a'] (call (.builtin id) (v::us)) (EP X pins σ Q) X.xe s
section
variable {X:Cx}{a b:Expr}{ta tb:TE}{pos:Pos}
def mU.or (h:mU X r)(g:mU X i):mU X (λx y H Q=>r x y H Q\/i x y H Q):=by
 intro a b c s d H x y v u Q I e f q hs;rcases q with q|q
 .exact h a b c s d H x y v u Q I e f q hs
 .exact g a b c s d H x y v u Q I e f q hs
def G0 (hr:mU X r)(ha:PE X a ta)(hb:PE X b tb)(hs:GZ b):PE X (.Subscript a b pos) (mR r ta tb):=by intro c s d H Q I h;exact Subscript_ (binT ha hb I h λv u e x y f g i j q=>hr a b c e d f x y v u Q g i j q<|hs _ _)
def wc (K:Z5):R2:=λx y H Q=>∃p xs i v,x=.ref p/\y=.int i/\SqL K H p xs/\cN xs i=Y v/\Q v H
def we (K:Z5):R2:=λx y H Q=>∃p xs i v,x=.ref p/\y=.int i/\dC K H p xs/\cN xs i=Y v/\Q v H
def wg:R2:=λx y H Q=>∃z i c,x=.str z/\y=.int i/\z.length<=aw/\cN z[[]] i=Y c/\Q (.str {#[c]}) H
def NA:mU X (wc X.K):=by
 intro d e a s m H x y v u Q I n o h hs;let{p,F,i,z,rfl,rfl,A,B,q}:=h;ext n;let{t,rfl}:=o;let{f,r,pl,G}:=I.list A;let{j,c,C,ZK,D,E}:=BO B;let{w,l,g}:=r.get C;have hl:=r.length;have hn:=sT;have b:EP X a m Q w s:={(z),H,I,g,q};by_cases h0:0<=i
 .have k:i.toNat=j:=by
   rw[p9 h0 E]at c;exact qt c
  exact item_listR pl.isList h0 ZQ (by rw[k];simpa using l) b hs
 .have k:(i+f.toArray.size).toNat=j:=by
   rw[pf ZQ D]at c;rw[br,<-hl];exact qt c
  exact mj pl.isList.typeIs slot_list_getitem.lookup (wpAny_getItem_list_neg pl.isList ZQ (by rw[br]<;>omega) ZQ (by rw[k];simpa using l) {rfl,(b)}) hs
def NC:mU X (we X.K):=by intro a b d s A H x y v u Q I e f h hs;let{p,B,i,z,rfl,rfl,g,k,q}:=h;ext e;let{t,rfl}:=f;let{l,r,pl,C}:=I.tuple g;let{j,m,n,D,E,F}:=BO k;let{w,o,c}:=r.get n;have hn:=sT;exact mj pl.typeIs slot_tuple_getitem.lookup (getItem_tuple pl ZQ ZQ (by rw[br,<-r.length];exact m) (by simpa using o) {rfl,{(z),H,I,c,q}}) hs
def uP:mU X wg:=by
 intro a b d s o H x y v u Q I f g h hs;let{z,i,c,rfl,rfl,p,k,q}:=h;let{t,rfl}:=f;let{r,rfl}:=g;let{j,e,l,w,m,n}:=BO k;have hl:z[[]].length=z.length:=by simp[Str.length]
 rw[hl]at e m n;have hn:=sT;exact tail_any (lb s z t) slot_str_getitem.lookup (getItem_str (by rw[qy ZQ,qy ZQ,lx]) (by rw[e];simpa using l) {.str {#[c]},H,I.tok _,{_,rfl},q}) hs
def G1 (K:Z5):R2:=λx y H Q=>wc K x y H Q\/we K x y H Q\/wg x y H Q
theorem ND:mU X (G1 X.K):=NA.or (NC.or uP)
def NF (a:List Value)(n j:Nat)(u:Value):Obj.mapSeq (·.setIfInBounds j u) {cls:=.type "list",data:=.seq a.toArray n}={cls:=.type "list",data:=.seq (a.set j u).toArray n}:=by simp[Obj.mapSeq]
def Inv.lst {pins:List<|Addr×Obj}{σ:St}{H:Hp}{s:aq}{p:Addr}{xs:List V}(I:Inv X pins σ H s)(h:H p=Y (.lst xs)):
  ∃dV n,Vals xs dV/\s.heap.get? p=Y {cls:=.type "list",data:=.seq dV.toArray n}/\xs.length<=aw:=by
 let{z,dV,n,r,e}:=I.hok p _ h;exact{dV,(n),r,e,z}
def Inv.lstUpd {a:List Value}(I:Inv X c d H s)(h:H p=Y (.lst i))
  (ho:s.heap.get? p=Y {cls:=.type "list",data:=.seq a.toArray n}) (hf:f {cls:=.type "list",data:=.seq a.toArray n}={cls:=.type "list",data:=.seq lM.toArray n'}) (r:Vals ys lM) (g:ys.length<=aw) t:
  Inv X c d (upd H p<|.lst ys) {s with heap:=s.heap.update p f,toks:=t}:=by
 have e:(s.heap.update p f).get? p=Y {cls:=.type "list",data:=.seq lM.toArray n'}:=by rw[ey f ho (by rw[hf]<;>rfl),hf]
 refine I.write (by rw[h];trivial) (.inl rfl) (λb u hb q=>(ej _ _<|Ne.symm hb).trans q) {_,e} ?_;exact{(g),lM,n',r,e}
def G2:V->V->V->Hp->(Hp->Prop)->Prop:=λo i v H Q=>∃p xs k j,o=.ref p/\i=.int k/\H p=Y (.lst xs)/\kT xs.length k=Y j/\Q (upd H p<|.lst<|xs.set j v)
def set_list:Bu X G2:=by
 rintro a s h H o i v ov z u Q I l m rv ⟨p,w,k,j,rfl,rfl,d,x,q⟩
 ext l;let{t,rfl}:=m;let{b,n,r,ho,y}:=I.lst d;let{c,A,e,f}:=GY x;have hl:=r.length;have hn:=sT;have g:Inv X a h (upd H p<|.lst<|w.set j v) {s with heap:=s.heap.update p (Obj.mapSeq (·.setIfInBounds j u))}:=I.lstUpd d ho (NF b n j u) (r.set rv j) (by rw[cw];exact y) s.toks;by_cases h0:0<=k
 .have hk:k.toNat=j:=by
   rw[p9 h0 f]at c;exact qt c
  exact W.ki_setAt ho h0 ZQ (by rw[br,<-hl];exact f) (hk▸{_,g,q})
 .have hk:(k+b.toArray.size).toNat=j:=by
   rw[pf ZQ e]at c;rw[br,<-hl];exact qt c
  exact W.ki_setBack ho ZQ (by rw[br,<-hl];exact e) ZQ (hk▸{_,g,q})
def NG (a b:Option Int)(n:Nat):(jr a b Z8 n).1=((HT.bC n 0 a:Nat):Int)/\(jr a b Z8 n).2.1=((HT.bC n n b:Nat):Int)/\(jr a b Z8 n).2.2=1:=by
 refine{?_,?_,rfl}
 .cases a with
  |none=>simp[jr,HT.bC]
  |some i=>
   simp only[jr,HT.bC,Option.getD_none,show 1>0 by decide,if_true];by_cases h:i<0
   .simp only[h,if_true]<;>omega
   .simp only[h,if_false]<;>omega
 .cases b with
  |none=>simp[jr,HT.bC]
  |some i=>
   simp only[jr,HT.bC,Option.getD_none,show 1>0 by decide,if_true];by_cases h:i<0
   .simp only[h,if_true]<;>omega
   .simp only[h,if_false]<;>omega
def NH (a:List Value)(b c:Option Int):slicePick a.toArray b c Z8=((a.drop<|HT.bC a.length 0 b).take<|HT.bC a.length a.length c-HT.bC a.length 0 b).toArray:=by let{d,e,f}:=NG b c a.toArray.size;unfold slicePick;rw[d,e,f];simp only[m8,pick_run,br]<;>rfl
def wj (K:Z5):V->Option Int->Option Int->Hp->VK->Prop:=λx lo hi H Q=>∃a xs,x=.ref a/\SqL K H a xs/\∀p,H p=Z8->Q (.ref p) (upd H p<|.lst<|qA xs lo hi)
def NI:pG X (wj X.K):=by
 rintro f s k H x v l m e g sl Q I h hs pl pu ⟨a,c,rfl,hx,q⟩
 ext h;let{i,r,ht,j}:=I.list hx;have d:=r.length;refine{"list",_,slot_list_getitem.lookup,ht.isList.typeIs,?_};refine wpAny_getItem_list_slice ht.isList hs pl pu .none ZO ?_ (by rw[br]<;>omega);rw[NH,<-d];refine{.ref s[?_],_,I.laid (λb n q=>af _ q) (ag _) ?_,rfl,q _<|I.hok.fresh<|ag _};exact{bj (GW c e g) j,_,0,(r.drop<|HT.bC c.length 0 e).take<|HT.bC c.length c.length g-HT.bC c.length 0 e,ba _ rfl}
def rQ:V->Bool
 |.non=>J
 |.bl _=>J
 |.int _=>J
 |.str _=>J
 |_=>Z6
def rR:V->V->Bool
 |.non,.non=>J
 |.bl a,.bl b=>a==b
 |.bl a,.int b=>(if a then 1 else 0)==b
 |.int a,.bl b=>a==(if b then 1 else 0)
 |.int a,.int b=>a==b
 |.str a,.str b=>a==b
 |_,_=>Z6
def NJ (e:RelV y u)(c:RelV x v)(f:rQ y=J)(fx:rQ x=J):SeqAt.EqAt A s u v (rR y x):=by
 cases y with
 |non=>
  ext e;cases x with
  |non=>ext c;exact SeqAt.EqAt.same _
  |bl b=>ext c;exact SeqAt.EqAt.none_bool b
  |int b=>let{t,rfl}:=c;exact SeqAt.EqAt.none_int b t
  |str b=>let{t,rfl}:=c;exact SeqAt.EqAt.none_str b t
  |_=>exact absurd fx di
 |bl a=>
  ext e;cases x with
  |non=>ext c;exact SeqAt.EqAt.bool_none a
  |bl b=>ext c;exact SeqAt.EqAt.bool_bool a b
  |int b=>let{t,rfl}:=c;exact SeqAt.EqAt.bool_int a b t
  |str b=>let{t,rfl}:=c;exact SeqAt.EqAt.bool_str a b t
  |_=>exact absurd fx di
 |int a=>
  let{d,rfl}:=e;cases x with
  |non=>ext c;exact SeqAt.EqAt.int_none a d
  |bl b=>ext c;exact SeqAt.EqAt.int_bool a d b
  |int b=>let{t,rfl}:=c;exact SeqAt.EqAt.int_int a d b t
  |str b=>let{t,rfl}:=c;exact SeqAt.EqAt.int_str a d b t
  |_=>exact absurd fx di
 |str a=>
  let{d,rfl}:=e;cases x with
  |non=>ext c;exact SeqAt.EqAt.str_none a d
  |bl b=>ext c;exact SeqAt.EqAt.str_bool a d b
  |int b=>let{t,rfl}:=c;exact SeqAt.EqAt.str_int a d b t
  |str b=>let{t,rfl}:=c;exact SeqAt.EqAt.str_str a d b t
  |_=>exact absurd fx di
 |_=>exact absurd f di
def jY (x:V)(u:Value):Bool:=match u with
 |.none=>rR .non x
 |.bool b=>rR (.bl b) x
 |.int i _=>rR (.int i) x
 |.str z _=>rR (.str z) x
 |_=>Z6
def G3 (r:RelV y u)(f:rQ y=J):jY x u=rR y x:=by
 cases y with
 |non=>ext r;rfl
 |bl b=>ext r;rfl
 |int i=>let{t,rfl}:=r;rfl
 |str z=>let{t,rfl}:=r;rfl
 |_=>exact absurd f di
theorem wm:∀{a:List V} {b:List Value},Vals a b->a.all rQ=J->b.any (jY x)=a.any λy=>rR y x
 |_,_,.nil,_=>rfl
 |y::a,u::b,.cons r t,f=>by rw[b8,aj]at f;rw[gu,gu,G3 r f.1,wm t f.2]
theorem wo (c:RelV x v)(fx:rQ x=J):∀{a:List V} {b:List Value},Vals a b->a.all rQ=J->∀u∈b,SeqAt.EqAt A s u v (jY x u)
 |_,_,.nil,_=>λu hu=>by ext hu
 |y::a,u::b,.cons r t,f=>λd hu=>by
  rw[b8,aj]at f;rcases ak.mp hu with rfl|hu
  .rw[G3 r f.1];exact NJ r c f.1 fx
  .exact wo c fx t f.2 d hu
def G4 (x:V)(xs:List V):Bool:=xs.any λy=>rR y x
def BP (K:Z5)(neg:Bool):R2:=λx y H Q=>∃p xs,y=.ref p/\(SqL K H p xs\/dC K H p xs)/\rQ x=J/\xs.all rQ=J/\Q (.bl (if neg then !G4 x xs else G4 x xs)) H
def NK:OpR X (cn .In) (BP X.K Z6):=by
 rintro d s h H x y v u Q I e f ⟨p,i,rfl,b,fx,fs,q⟩
 ext f;rcases b with b|b
 .let{a,r,pl,g}:=I.list b;refine SeqAt.in_listAt (jY x) pl.isList (λw c=>wo e fx r fs w<|by simpa using c) {.bl _,H,I,rfl,?_};rw[show a.toArray.any (jY x)=a.any (jY x) by simp,wm r fs];exact q
 .let{a,r,pl,g}:=I.tuple b;refine SeqAt.in_tupleAt (jY x) pl (λw c=>wo e fx r fs w<|by simpa using c) {.bl _,H,I,rfl,?_};rw[show a.toArray.any (jY x)=a.any (jY x) by simp,wm r fs];exact q
def NL:OpR X (cn .NotIn) (BP X.K J):=by
 rintro d s h H x y v u Q I e f ⟨p,i,rfl,b,fx,fs,q⟩
 ext f;rcases b with b|b
 .let{a,r,pl,g}:=I.list b;refine SeqAt.notIn_listAt (jY x) pl.isList (λw c=>wo e fx r fs w<|by simpa using c) {.bl _,H,I,rfl,?_};rw[show a.toArray.any (jY x)=a.any (jY x) by simp,wm r fs];exact q
 .let{a,r,pl,g}:=I.tuple b;refine SeqAt.notIn_tupleAt (jY x) pl (λw c=>wo e fx r fs w<|by simpa using c) {.bl _,H,I,rfl,?_};rw[show a.toArray.any (jY x)=a.any (jY x) by simp,wm r fs];exact q
def NM:OpR X (cn .NotIn) (λx y H Q=>∃i j,x=.str i/\y=.str j/\Q (.bl<|!(!(ec j i 0 j.length 1).isEmpty)) H):=by
 rintro a s d H x y v u Q I b c ⟨i,j,rfl,rfl,q⟩
 let{t,rfl}:=b;let{e,rfl}:=c;exact notIn_str {.bl _,H,I,rfl,q}
def NO:CallR X (.builtin "len") (λf H Q=>∃p b,f=[.ref p]/\(SqL X.K H p b\/dC X.K H p b)/\Q (.int b.length) H):=by
 rintro g s i H f j Q I r ⟨p,b,rfl,c,q⟩
 let{u,rfl,rfl}:=vals1 r;have hn:=sT;rcases c with c|c
 .let{d,e,pl,h}:=I.list c;have a:=e.length;exact Calls.call_len_list pl.isList (by simp<;>omega) {.int b.length,H,I.tok _,{s.toks+1,by rw[br,a]},q}
 .let{d,e,pl,h}:=I.tuple c;have a:=e.length;exact len_tuple pl (by simp<;>omega) {.int b.length,H,I.tok _,{s.toks+1,by rw[br,a]},q}
def NP:CallR X (.builtin "len") (λa H Q=>∃z,a=[.str z]/\z.length<=aw/\Q (.int z.length) H):=by
 rintro b s c H a d Q I r ⟨z,rfl,e,q⟩
 let{u,rfl,t,rfl}:=vals1 r;have hn:=sT;exact len_str ZQ {.int z.length,H,I.tok _,{_,rfl},q}
def CallR.or (h:CallR X f r)(h':CallR X f r'):CallR X f (λxs H Q=>r xs H Q\/r' xs H Q):=by
 intro pins s σ H xs us Q I rs q;rcases q with q|q
 .exact h pins s σ H xs us Q I rs q
 .exact h' pins s σ H xs us Q I rs q
def NQ:CallR X (.type "tuple") (λj H Q=>∃p d,j=[.ref p]/\((SqL X.K H p d/\∀l,H l=Z8->Q (.ref l) (upd H l<|.tup d))\/(dC X.K H p d/\Q (.ref p) H))):=by
 rintro a s k H j w Q I r ⟨p,d,rfl,h⟩
 let{u,rfl,rfl}:=vals1 r;rcases h with⟨g,q⟩|⟨g,q⟩
 .let{c,i,pl,m}:=I.list g;have n:=i.length;refine call_tuple_list pl.isList (λf kp=>?_) (by simp<;>omega);have t:Inv X a k H {s with heap:=f}:=I.kept kp;have v:Inv X a k (upd H f.objs.size<|.tup d) {s with heap:=f.push {cls:=.type "tuple",data:=.seq c.toArray}}:=t.laid (λb o e=>af _ e) (ag _)<|{m,c,i,iX.new _ _};exact{.ref f.objs.size,_,v,rfl,q _<|t.hok.fresh<|ag _}
 .let{c,i,pl,m}:=I.tuple g;exact call_tuple_same pl {.ref p,H,I,rfl,q}
def tyV (K:Z5)(T:String)(x:V)(H:Hp):Prop:=match x with
 |.str _=>T="str"
 |.int _=>T="int"
 |.ref p=>(T="list"/\∃xs,SqL K H p xs)\/(T="tuple"/\∃o,K.lookup p=Y o/\o.cls=.type "tuple"/\o.dict=Z8)\/(T="dict"/\((∃kvs,H p=Y (.dK kvs))\/∃kvs,H p=Y (.dT kvs)))\/(T="set"/\∃S n,H p=Y (.set S n))
 |_=>False
def zjx (I:Inv X f l H s)(r:RelV x v)(ty:tyV X.K T x H):
  s.TypeIs v T/\∀a,v=.ref a->∃g,s.heap.get? a=Y g/\g.dict=none:=by
 cases x with
 |str z=>let{t,rfl}:=r;ext ty;exact{lb s z t,λ_ e=>nomatch e}
 |int i=>let{t,rfl}:=r;ext ty;exact{typeIs_int s i t,λ_ e=>nomatch e}
 |ref p=>
  ext r;rcases ty with⟨rfl,m,h⟩|⟨rfl,o,hk,j,hd⟩|⟨rfl,hk⟩|⟨rfl,S,n,hk⟩
  .let{k,_,pl,_}:=I.list h;refine{pl.isList.typeIs,λa e=>?_};ext e;let{o,n,e,c,hd,_}:=pl;exact{(o),e,hd}
  .refine{{o,I.dM p o hk,j},λa e=>?_};ext e;exact{o,I.dM _ o hk,hd}
  .have z:∃o,s.heap.get? p=Y o/\o.ExactDict:=by
    rcases hk with⟨b,hk⟩|⟨b,hk⟩
    .let{_,_,_,_,o,_,_,e,ex,_}:=I.hok p _ hk;exact{(o),e,ex}
    .let{_,_,_,_,o,_,_,e,ex,_}:=I.hok p _ hk;exact{(o),e,ex}
   let{o,e,ex}:=z;refine{{(o),e,ex.1},λa d=>?_};ext d;exact{(o),e,ex.2.1}
  .let{o,_,_,_,e,ex,_}:=I.hok p _ hk;refine{{(o),e,ex.1},λa d=>?_};ext d;exact{(o),e,ex.2.1}
 |_=>exact False.elim ty
def tq (K:Z5)(T:String)(r:V->List V->Hp->VK->Prop)(to:TE):TE:=λσ H Q=>to σ H λx H1=>tyV K T x H1/\r x [] H1 Q
def wu (K:Z5)(T:String)(r:V->List V->Hp->VK->Prop)(to:TE)(t:TA):TE:=λσ H Q=>to σ H λx H1=>tyV K T x H1/\t σ H1 λxs H2=>r x xs H2 Q
variable {o e:Expr}{es:List Expr}{to:TE}{t:TA}{name:U}{apos cpos:Pos}{T id:String}{r:V->List V->Hp->VK->Prop}
def z6x (i:qi T)(slot:Slot T name id)(d:qp (.builtin id)=pure (.type "method_descriptor"))(hm:MtR X id r)(ho:PE X o to)
  (b:i7 o name X.env (eval o X.env)=eval o X.env:=by rfl) (c:(apos.endLine==cpos.line)=true:=by rfl):PE X (.Call (.Attribute o name apos) [] [] cpos) (tq X.K T r to):=by
 intro a s e H Q I h;refine wpAny_Call_method0_late b c<|aR (ho a s e H _ I h) λv j ⟨x,k,f,g,ty,l⟩=>?_;let{m,n}:=zjx f g ty;exact{T,id,i,slot,d,m,n,j0 rfl<|PySem.evalArgs_none<|hm a j e k x [] v [] Q f g .nil l}
def zav (m:qi T)(slot:Slot T name id)(g:qp (.builtin id)=pure (.type "method_descriptor"))(hm:MtR X id r)(ho:PE X o to)(ha:PA X (e::es) t)
  (c:i7 o name X.env (eval o X.env)=eval o X.env:=by rfl)
  (f:((ja cpos<|cx (e::es) X.env).all (λx=> !x.1)&&(m6 cpos<|ki [] X.env).all (λx=>x.1.isSome)
   &&decide ((e::es).length+([]:List k4).length+(if([]:List k4).isEmpty then 0 else 1)<30))=true:=by rfl)
  (d:(apos.endLine==cpos.line)=true:=by rfl) (hs:cx (e::es) X.env=(Z6,eval e X.env)::cx es X.env:=by rfl) (b:(ja cpos<|cx es X.env).any (·.1)=false:=by rfl):
  PE X (.Call (.Attribute o name apos) (e::es) [] cpos) (wu X.K T r to t):=by
 intro a s i H Q I h;refine wpAny_Call_method_late c f d rfl<|aR (ho a s i H _ I h) λv n ⟨x,p,j,k,ty,q⟩=>?_;let{u,w}:=zjx j k ty;refine{T,id,m,slot,g,u,w,?_};have l:=ha cpos a n i p _ j q;rw[hs]at l ⊢;refine j0 (by show(Z6||(ja cpos<|cx es X.env).any (·.1))=Z6;rw[b]<;>rfl)<|kj ?_;exact aR l λy z ⟨A,B,C,D,E⟩=>hm a z i B x A v y Q C k D E
end
def G5 (X:Cx)(id:String)(r:V->List V->Hp->VK->Prop):Prop:=∀(pins:List<|Addr×Obj) (s:aq) (σ:St) (H:Hp) (x:V) (xs:List V) (v:Value) (us:List Value) (Q:VK),Inv X pins σ H s->RelV x v->Vals xs us->r x xs H Q->X['a'] (call (.builtin id) (v::us)) (EP X pins σ Q) X.xe s
def Vals.one (h:Vals [x] a):∃u,a=[u]/\RelV x u:=by
 cases h with
 |cons r h=>ext h;exact{_,rfl,r}
def Vals.two (h:Vals [x,y] a):∃u v,a=[u,v]/\RelV x u/\RelV y v:=by
 cases h with
 |cons r h=>cases h with
  |cons q h=>ext h;exact{_,_,rfl,r,q}
theorem Vals.zero:∀{a:List Value},Vals [] a->a=[]
 |_,.nil=>rfl
def Vals.dropLast (h:Vals a b):Vals a.dropLast b.dropLast:=by
 induction h with
 |nil=>exact .nil
 |cons r t c=>
  cases t with
  |nil=>exact .nil
  |cons q d=>exact .cons r c
theorem Vals.eraseIdx:∀{a:List V} {b:List Value} i,Vals a b->Vals (a.eraseIdx i) (b.eraseIdx i)
 |_,_,_,.nil=>.nil
 |_,_,0,.cons _ t=>t
 |_,_,i+1,.cons r t=>.cons r (Vals.eraseIdx i t)
theorem Vals.rep (h:Vals a b):∀k,Vals (bq k a).flatten (bq k b).flatten
 |0=>.nil
 |k+1=>by exact Vals.append h (Vals.rep h k)
def NR {a:Type}(l:List a):l.eraseIdx (l.length-1)=l.dropLast:=by grind
section
variable {X:Cx}{pins:List<|Addr×Obj}{σ:St}{H:Hp}{s:aq}{l b:Addr}{xs ys zs:List V}
def Inv.lset {a:List Value}(I:Inv X pins σ H s)(b:H l=Y (.lst xs))
  (e:s.heap.get? l=Y {cls:=.type "list",data:=.seq a.toArray n}) (hf:f a.toArray=lM.toArray) (c:Vals ys lM) (d:ys.length<=aw):
  Inv X pins σ (upd H l<|.lst ys) {s with heap:=s.heap.update l<|Obj.mapSeq f,toks:=t'}:=by
 have q:=PySem.IsL.update e f;rw[hf]at q;refine I.write (b▸trivial) (.inl rfl) (λg u hb hu=>(ej s.heap (Obj.mapSeq f)<|Ne.symm hb).trans hu) {_,q} ?_;exact{d,lM,_,c,q}
theorem Inv.lnew (I:Inv X pins σ H s)(b:Vals ys a)(c:ys.length<=aw):
  Inv X pins σ (upd H s[?_]<|.lst ys) {s with heap:=s.heap.push {cls:=.type "list",data:=.seq a.toArray},toks:=t'}:=
 I.laid (λ_ _ q=>af _ q) (ag _) {c,a,0,b,ba _ rfl}
theorem Inv.fresh (I:Inv X pins σ H s):H s[?_]=none:=I.hok.fresh (ag _)
def Inv.lN (I:Inv X pins σ H s)(b:H l=Y (.lst xs)):xs.length<=aw/\∃a n,Vals xs a/\xs.length=a.length/\s.heap.get? l=Y {cls:=.type "list",data:=.seq a.toArray n}:=by let{z,a,n,r,e}:=I.hok l _ b;exact{(z),a,n,r,r.length,e}
end
section
variable {X:Cx}
def zm:V->List V->Hp->VK->Prop:=λx vs H Q=>∃l xs y,x=.ref l/\vs=[y]/\H l=Y (.lst xs)/\xs.length<aw/\Q .non (upd H l<|.lst<|xs++[y])
def zo:G5 X "list.append" zm:=by
 rintro b s g H x h v i Q I d rv ⟨l,j,y,rfl,rfl,c,k,q⟩
 ext d;let{u,rfl,f}:=rv.one;let{z,a,n,r,hl,e}:=I.lN c;refine jp F.slot_list_append {_,e,rfl} F.entry_list_append (F.args_list_append_2 _ _) (PySem.list_append l a.toArray n u<|by grind) {e,?_};refine{.non,_,I.lset c e ZO (r.append<|.cons f .nil) ?_,rfl,q};rw[ax,List.length_singleton];omega
def BQ:V->List V->Hp->VK->Prop:=λx vs H Q=>∃l xs y,x=.ref l/\vs=[]/\H l=Y (.lst xs)/\xs[xs.length-1]?=Y y/\Q y (upd H l<|.lst xs.dropLast)
def G6:G5 X "list.pop" BQ:=by
 rintro d s m H x o v p Q I g h ⟨l,t,y,rfl,rfl,f,i,q⟩
 ext g;have b:=h.zero;subst b;let{z,a,n,r,j,e}:=I.lN f;let{u,hu,k}:=r.get i;have c:a.toArray[a.toArray.size-1]?=Y u:=by show a.toArray[a.length-1]?=Y u;rw[<-mx,<-j];exact hu
 refine jp F.slot_list_pop {_,e,rfl} F.entry_list_pop (F.args_list_pop_1 _) (MeetsSeq.list_pop_last l a.toArray n u c<|by grind) {e,?_};refine{y,_,I.lset f e ?_ r.dropLast ?_,k,q}
 .show a.toArray.eraseIdxIfInBounds (a.toArray.size-1)=a.dropLast.toArray;rw[br,List.eraseIdxIfInBounds_toArray,NR]
 .rw[m9];omega
def wx:R2:=λx y H Q=>∃l b xs zs,x=.ref l/\y=.ref b/\H l=Y (.lst xs)/\H b=Y (.lst zs)/\xs.length+zs.length<=aw/\∀p,H p=Z8->Q (.ref p) (upd H p<|.lst<|xs++zs)
def NS:OpR X (f8 .Add) wx:=by
 rintro d s p H x y v u Q I f g ⟨l,b,t,w,rfl,rfl,h,i,A,q⟩
 ext f;ext g;let{z,c,n,r,hl,e}:=I.lN h;let{B,a,C,j,k,m}:=I.lN i;refine PySem.P.add_list e m ?_ (by grind);have o:c.toArray++a.toArray=(c++a).toArray:=by simp
 rw[o];exact{.ref _,_,I.lnew (r.append j) (by grind),rfl,q _ I.fresh}
end
end L2
namespace Att
open PySem PySem.W PySem.Calls PyProof.Rows
def NT:∀ns c,WellAll P h c (ns.map WData.int)->qe c ns:=by
 intro ns
 induction ns with
 |nil=>intro c w;ext w;exact .nil
 |cons n ns d=>
  intro c w;cases w with
  |cons a b=>ext a;exact .cons _ _ (d _ b)
def zdd {l:OpenLaw}(hn:l.most=Y n)
  (b:l.row.toRowW.claim.pre args=J) (i:WellAll P h c args):
  ∃a k ns,c=[ZR a]/\args=[WData.list<|ns.map WData.int]/\h.get? a=Y {cls:=.type "list",data:=.seq k.toArray}/\qe k ns/\ns.length<=n:=by
 have m:l.pre.holds [] {args:=args}=true:=(pre_splitW b).2;let{d,r,rfl,o,p}:=hasAllW_cons<|(pre_splitW b).1;obtain rfl:=hasAllW_nil p;let{v,rfl,s}:=hasW_list o;let{ns,rfl}:=items_int s
 have e:ns.length<=n:=by
  have g:(WTm.not<|.lt (.lit<|.int n)<|.len<|.arg 0).holds [] {args:=[.list<|ns.map .int]}=true:=by have g:=(holds_andW m).1;rw[hn]at g;exact g
  have j:=condW_of g<|w_not<|w_lt w_lit<|w_len_list<|w_arg rfl;refine Nat.le_of_not_lt λq=>?_
  first
   |(rw[qx q']at j;exact absurd j dc)
   |(simp at j;omega)
 cases i with
 |cons t u=>
  ext u;cases t with
  |list ho f=>exact{_,_,ns,rfl,rfl,ho,NT ns _ f,e}
theorem NU (l:OpenLaw)(args:List WData):l.row.toRowW.claim.post args (.bool J) args=true:=
 postW_of
  (show WShape.has [] (.bool J) .bool=J by first|rfl|decide|simp[WShape.has,WShape.arms,WShape.armsAll])
  (show(WTm.eq .res<|.lit<|.bool J).value [] {args:=args,res:=Y<|.bool J,after:=args}=Y (.bool<|J==J)from w_eq_bool (w_res rfl) w_lit) rfl
def attach_call {l:OpenLaw}
  (hn:l.most=Y n) (p:d.params.defaults=[])
  (call:∀w s₀ b mg s h o t cd c a g ns,
   Ground q loose [] B w s₀ mg s b.heap->C w b.heap->
   b.heap.get? h=Y o->o.data=.func (docDef d.name d.params d.body d.scope t cd c)->b.heap.CodeRec cd d.name->mg d.name=Y (.ref h)->
   b.heap.get? a=Y {cls:=.type "list",data:=.seq g.toArray}->qe g ns->ns.length<=n->b.gens=#[]->
   jy (model l.prog w) pi (.call (.ref h) {[.ref a],[]}) (λr m=>r=.ok (.ret<|.bool J)/\OldK b.heap m.heap/\m.os=b.os/\kz m.gens) b):
  WalkO q loose B C l.row.toRowW d [] (λf g=>PySem.call f g):=by
 intro w s₀ b mg s G ZM h o t cd c D kV ho hd u y v E args z M i A F x H;obtain rfl:D=.none:=Dflts.none y p;obtain rfl:kV=.none:=Dflts.noKw y;let{a,g,ns,rfl,rfl,j,e,k}:=zdd hn i x;refine enter_call<|ji (call w s₀ b mg s h o t cd c a g ns G ZM ho (fd_plain hd) u v j e k E) λr m I=>?_;let{rfl,ZK,K,L}:=I;exact{.inl {.bool J,.bool J,[],rfl,λ_=>rfl,.bool J,NU l _,λ_=>{List.Pairwise.nil,λ_ hm=>(nomatch hm)}},ZK,K,L}
end Att
namespace L2
open PySem PySem.Spec PyProof.Rows
theorem G7:∀{a:List Value} {ns:List Int},qe a ns->Vals (ns.map V.int) a
 |_,_,.nil=>.nil
 |_,_,.cons n t h=>.cons {(t),rfl} (G7 h)
def Only (H:Hp):Prop:=∀b,H b=Z8\/∃o xs,H b=Y (.gL o<|.lst xs)
def zh3 {K:Z5}
  (I:K.In c.heap) (l:c.heap.Ns bh mg) (hb:c.heap.Ns qf ZK) (B:∀x:U,x≠"__name__"->ZK x=cy x) (p:c.heap.NoLimit) (Q:c.gens=#[])
  (ha:c.heap.get? a=Y {cls:=.type "list",data:=.seq vs.toArray}) (L:qe vs ns) (hl:ns.length<=aw) (hr:Room k pi)
  (F:∀base,K.In base->base.Ns bh mg->FnOk P w K mg base CX k fa fd [x] sp) (j:∀s u,nq s fd {[u],[]} [(x,u)])
  (C:∀H,Only H->SqL K H a (ns.map V.int)->sp [.ref a] H (λv _=>v=.bl J) λ_ _ _=>False)
  (D:∀H e f,CX [] H c (λ_ _ _=>False) e f->False):
  jy (model P w) pi (.call (.ref fa) {[.ref a],[]}) (λr f=>r=.ok (.ret<|.bool J)/\OldK c.heap f.heap/\f.os=c.os/\kz f.gens) c:=by
 have rv:=G7 L
 have i:∀H,Only H->SqL K H a (ns.map V.int)->HOk P w H c.heap->(∀b,H b≠Z8->b=a)->(H a≠Z8->K.lookup a=Z8)->
   jy (model P w) pi (.call (.ref fa) {[.ref a],[]}) (λr f=>r=.ok (.ret<|.bool J)/\OldK c.heap f.heap/\f.os=c.os/\kz f.gens) c:=by
  intro H M R hok N S;have kU:∀{b:Addr} {o:Obj},c.heap.get? b=Y o->H b=Z8->(lH c.heap H).get? b=Y o:=λe n=>Md e n
  have E:∀{b:Addr} {o:Obj} {es:Array DictEntry} {ep:Nat},c.heap.get? b=Y o->o.data=.dict es ep->H b=none:=λ{b o es ep} e d=>by
   cases q:H b with
   |none=>rfl
   |some u=>have G:=N b (by rw[q];simp);subst G;rw[ha]at e;ext e;ext d
  have g:∀{b:Addr} {m:U->Option Value},c.heap.Ns b m->(lH c.heap H).Ns b m:=λ{b m} ⟨o,es,ep,e,d,r⟩=>{o,es,ep,kU e<|E e d,d,r}
  have t:=λb o e=>kU (I b o e) (by
   cases q:H b with
   |none=>rfl
   |some u=>have G:=N b (by rw[q];simp);subst G;rw[S (by rw[q];simp)]at e;ext e)
  refine ji ((F _ t<|g l).run pi [] c H {[.ref a],[]} [.ref a] [.ref a] _ _ hr {rfl,{t,g l,{ZK,g hb,B},let⟨mc,h1,h2⟩:=p;{mc,g h1,h2}},λb o e=>Me e,o7<|Mc _ _,trivial,λb hb=>absurd (show b∈([]:List Addr)from hb) ZO,hok,.of_eq Q} (j c<|.ref a) (.cons rfl .nil)<|C H M R) λr f h=>?_;cases r with
  |error e=>exact(D H e f h).elim
  |ok T=>
   cases T with
   |next=>exact False.elim h
   |brk=>exact False.elim h
   |cont=>exact False.elim h
   |ret u=>
    let{v,H',os,bare,un,y,r',rfl}:=h;obtain rfl:u=Value.bool true:=r';refine{rfl,OldK.of_keep λb o e=>?_,os,bare};cases q:H b with
    |none=>exact un.keep b o e q (by intro z;exact absurd (show b∈([]:List Addr)from z) ZO) ZO
    |some u=>
     rcases M b with z|⟨ob,xs,z⟩
     .rw[q]at z;ext z
     .have z2:=un.cY b ob _ z;let{O,_}:=hok b _ z;let{e2,_}:=y b _ z2;rw[e]at O;ext O;exact e2
 cases hk:K.lookup a with
 |some o=>have e:=I a o hk;rw[ha]at e;ext e;refine i (λ_=>Z8) (λ_=>.inl rfl) (.inr {_,vs.toArray,_,hk,rfl,rfl,rfl,by rw[br,L.length];exact hl,by simpa using rv}) (λb u z=>by have A:Z8=Y u:=z;ext A) (λb z=>absurd rfl z) λz=>absurd rfl z
 |none=>
  refine i (λb=>if b=a then Y (.gL {cls:=.type "list",data:=.seq vs.toArray}<|.lst<|ns.map V.int)else Z8) (λb=>?_) (.inl<|.inr {{cls:=.type "list",data:=.seq vs.toArray},qq rfl}) (λb u z=>?_) (λb z=>?_) λ_=>hk
  .by_cases hb:b=a
   .exact .inr {_,_,qq hb}
   .exact .inl (qr hb)
  .by_cases hb:b=a
   .have A:=(qq hb).symm.trans z;ext A;subst hb;exact{ha,by rw[am];exact hl,vs,_,rv,ha}
   .have A:=(qr hb).symm.trans z;ext A
  .by_cases hb:b=a
   .exact hb
   .exact absurd (qr hb) z
def walk_of {l:W.OpenLaw}{K:en->Z5}{C:World->CXT}{D:World->Sp}
  (hn:l.most=Y n) (r:n<=aw) (t:d.params.defaults=[]) (hr:Room k pi)
  (ZK:∀w h,L w h->(K w.params).In h)
  (F:∀w mg p h,(K w.params).In h->h.Ns bh mg->mg d.name=Y (.ref p)->∃fd,(∀s u,nq s fd {[u],[]} [(x,u)])/\∀base,(K w.params).In base->base.Ns bh mg->FnOk l.prog w (K w.params) mg base (C w) k p fd [x] (D w))
  (y:∀w H a (ns:List Int),ns.length<=n->Only H->SqL (K w.params) H a (ns.map V.int)->D w [.ref a] H (λv _=>v=.bl J) λ_ _ _=>False)
  (z:∀w H s e A,C w [] H s (λ_ _ _=>False) e A->False):
  W.WalkO q loose S L l.row.toRowW d [] (λf E=>PySem.call f E):=by
 refine Att.attach_call hn t λw s₀ j mg ZL p o X cd M a E ns G ZM ho hd N B m i c O=>?_;have I:=ZK w _ ZM;let{fd,hb,P}:=F w mg p _ I G.T.g B;exact zh3 I G.T.g G.T.b G.T.builtins G.T.nolimit O m i (bj c r) hr P hb (λH Q R=>y w H a ns c Q R) λH e A=>z w H j e A
def z1d (s:Stmt):Arguments:=match s with
 |.FunctionDef _ a _ _ _ _ _ _ _ _=>a
 |_=>{posonlyargs:=[],args:=[],vararg:=Z8,kwonlyargs:=[],kw_defaults:=[],kwarg:=Z8,defaults:=[]}
def z0m (s:Stmt):List Stmt:=match s with
 |.FunctionDef _ _ b _ _ _ _ _ _ _=>b
 |_=>[]
def z0c (s:Stmt):Scope:=match s with
 |.FunctionDef _ _ _ _ _ _ sc _ _ _=>sc
 |_=>{kind:=.function,names:=[],isGenerator:=Z6,isCoroutine:=Z6}
abbrev pH:CXT:=λ_ _ _ _ _ _=>False
abbrev E0:XK:=λ_ _ _=>False
theorem NV:z2r pH X E0:=λ_ _ _ _ _ _ _ h=>h.elim
structure Fun (K:Z5)(x qual:U)(st:Stmt)(f:Addr)(fd:d6):Prop where
 ex:∃(oc:Value) (od:Option Addr) (kV doc pm:Value) (an:Option Addr) (qB ct:Value) (G8:Array<|Option Value),fd=W.fnOf x qual (z1d st) (z0m st) (z0c st) .none kV doc pm an qB ct/\K.lookup f=Y {oc,od,.func fd,G8}/\W.codeIn K qB qual=J
 kp:Z2 K (.ref f)=J
section
variable {P:b9}{w:World}{K:Z5}{mg:U->Option Value}{base:Heap}
def Fun.ok {st:Stmt}(F:Fun K x qual st f fd)(S:FnScope N ps<|z0c st)(len:∀vs H Q E,sp vs H Q E->vs.length=ps.length)
  (wy:∀qB A outer s H vs Q E,Room k (A.deeper<|m7 qual (z0c st) s[?_] f qB)->sp vs H Q E->∃t,PSs (jA pH P w K mg base N qual (z0c st) f qB A outer s H E).vR (z0m st) t/\t {nx:=λ_ H'=>Q .non H',rt:=Q} (start N vs) H):FnOk P w K mg base pH (k+1) f fd ps sp:=by
 let{oc,od,kV,doc,pm,an,qB,ct,G8,rfl,lk,hcd}:=F.ex;refine zm8 lk hcd S len λA outer s H vs Q E hr NY=>?_;let{t,h,q}:=wy qB A outer s H vs Q E hr NY;exact{(t),h.vR,q}
def Fun.binds {st:Stmt}(F:Fun K x c st f fd)
  (h:∀kV a d an b ct e,e.length=ps.length->qh (W.fnOf x c (z1d st) (z0m st) (z0c st) .none kV a d an b ct) {e,[]}=pure (ps.zip e)):Binds K fd ps []:=by
 let{oc,od,kV,a,d,an,b,ct,g,rfl,j,i}:=F.ex;exact .all (h kV a d an b ct)
theorem BS {st:Stmt}{kV:Value}(l:K.lookup f=Y {oc,od,.func<|W.fnOf x a (z1d st) (z0m st) (z0c st) .none kV d g an b ct,e}) (c:W.codeIn K b a=J) (k:Z2 K (.ref f)=J):Fun K x a st f (W.fnOf x a (z1d st) (z0m st) (z0c st) .none kV d g an b ct):={{oc,od,kV,(d),g,an,b,ct,e,rfl,l,c},k}
end
theorem aY {B:Prop}(h:B):if Z6=J then A else B:=h
theorem bD {B:Prop}(h:A):if J=J then A else B:=h
def Same (H H':Hp):Prop:=∀b o,H b=Y o->H' b=Y o
theorem Same.refl (H:Hp):Same H H:=λ_ _ h=>h
theorem Same.trans (a:Same H d)(b:Same d e):Same H e:=λc o h=>b c o (a c o h)
section
variable {X:Cx}
def NZ:CallR X (.builtin "len") (λc H Q=>∃a b,c=[V.ref a]/\H a=Y (.dK b)/\Q (.int b.length) H):=by
 rintro d s f H c g Q I r ⟨a,b,rfl,ha,q⟩
 let{u,rfl,rfl}:=vals1 r;exact Nf I (.inl ha) λt h e=>{.int b.length,H,e,{(t),rfl},q}
end
end L2
set_option maxHeartbeats 5000000
namespace L2
open PySem PySem.Spec PyProof.Rows
def fV (env:Env):List (U×gb)->List (U×Addr)->List (U×Addr)
 | [],cs=>cs
 |(n,k)::r,cs=>fV env r (if(k==.free)=J then(n,(env.cells.lookup n).getD 0)::cs else cs)
theorem G9:∀l (a:List<|U×Addr),(∃c,a.lookup x=Y c)->∃c,(fV env l a).lookup x=Y c
 | [],a,h=>h
 |(n,k)::r,a,h=>by
  refine G9 r _ ?_;split
  .by_cases e:(x==n)=J
   .exact{_,by rw[db,e]}
   .let{c,b}:=h;exact{c,by rw[db,pj.mpr e];exact b}
  .exact h
theorem BU:∀(l:List<|U×gb) cs,l.lookup x=Y .free->∃c,(fV env l cs).lookup x=Y c
 | [],cs,h=>by simp at h
 |(n,k)::r,cs,h=>by
  rw[db]at h;cases e:(x==n)with
  |true=>rw[e]at h;have a:=qt h;subst a;exact G9 r _ {_,by rw[qq (by rfl),db,e]}
  |false=>rw[e]at h;exact BU r _ h
theorem zcn:∀l cs,(∀y∈l,y.2=.free->∃c,env.cells.lookup y.1=Y c)->(∀x c,cs.lookup x=Y c->env.cells.lookup x=Y c)->
  ∀x c,(fV env l cs).lookup x=Y c->env.cells.lookup x=Y c
 | [],cs,_,h=>h
 |(n,k)::r,cs,i,h=>by
  refine zcn r _ (λy j=>i y<|ao _ j) λx c a=>?_;by_cases f:(k==NameKind.free)=J
  .rw[qq f,db]at a;cases e:(x==n)with
   |true=>
    rw[e]at a;have g:x=n:=by simpa using e
    let{d,hd}:=i (n,k) ar (by simpa using f);have b:=hd;rw[b]at a;rw[g,b];exact a
   |false=>rw[e]at a;exact h x c a
  .rw[qr f]at a;exact h x c a
def G' (h:∀y∈scope.names,y.2=.free->∃c,env.cells.lookup y.1=Y c):closureFor scope env=pure (fV env scope.names []):=by
 have go:∀l cs,(∀y∈l,y.2=.free->∃c,env.cells.lookup y.1=Y c)->
   (forIn l cs λx r=>if(x.2==NameKind.free)=J then(do let a <-cellOf env x.1;pure (ForInStep.yield ((x.1,a)::r)):Sem _)else pure<|ForInStep.yield r)=(pure (fV env l cs):Sem _):=by
  intro l
  induction l with
  |nil=>intro cs _;rfl
  |cons y r i=>
   intro cs f;let{n,k}:=y;rw[List.forIn_cons];unfold fV;by_cases b:(k==NameKind.free)=J
   .let{c,hc}:=f (n,k) ar (by simpa using b);have d:=hc;have e:cellOf env n=pure c:=by unfold cellOf;rw[d]
    rw[qq b,qq b];rw[e,d];exact i ((n,c)::cs) λy g=>f y (ao _ g)
   .rw[qr b,qr b];exact i cs λy g=>f y (ao _ g)
 have:=go scope.names [] h
 first
  |exact this
  |(show(forIn scope.names [] _>>=λr=>pure r)=_;rw[show(forIn scope.names ([]:List<|U×Addr) _:Sem _)=_ from this];rfl)
def zb7 (hc:∀y∈scope.names,y.2≠.cell):
  (relabel scope env).names.lookup x=Y .cell\/(relabel scope env).names.lookup x=Y .free->scope.names.lookup x=Y .free:=by
 have go:∀(l:List<|U×gb),(∀y∈l,y.2≠ .cell)->∀k,(k=NameKind.cell\/k=NameKind.free)->
   (l.map λ(n,k)=>if(k==.free&&env.scope.kind==.function&&env.kindOf n==Y .cell)then(n,NameKind.cell)else(n,k)).lookup x=Y k->l.lookup x=Y .free:=by
  intro l
  induction l with
  |nil=>intro _ k _ h;simp at h
  |cons y r g=>
   intro d k a h;let{n,q}:=y;rw[bu]at h;rw[db];by_cases c:(q==NameKind.free&&env.scope.kind==.function&&env.kindOf n==Y .cell)=J
   .have b:q=.free:=by
     simp at c;simpa using c.1.1
    dsimp only at h
    rw[qq c,db]at h;cases e:(x==n)with
    |true=>rw[b]
    |false=>rw[e]at h;exact g (λy f=>d y<|ao _ f) k a h
   .dsimp only at h
    rw[qr c,db]at h;cases e:(x==n)with
    |true=>
     rw[e]at h;have b:=qt h;rcases a with a|a
     .exact absurd (b.trans a) (d (n,q) ar)
     .show Y q=Y .free;rw[b,a]
    |false=>rw[e]at h;exact g (λy f=>d y<|ao _ f) k a h
 rintro(h|h)
 .exact go scope.names hc .cell (.inl rfl) h
 .exact go scope.names hc .free (.inr rfl) h
def blk (X:Cx)(scope:Scope)(N':List U)(C:Addr)(fp:List Addr)(s:aq)(H:Hp):Cx:={X with N:=N',s₀:=s,iY:=H,env:=compEnvC scope (fV X.env scope.names []) C X.env,outer:=X.stack,stack:=X.stack,ex:=fp,fn:=λ_=>Z6,xe:=λ_ _=>False,fx:=Z8}
structure BlkScope (X:Cx)(scope:Scope)(N':List U)(nt:Nat)(js:List Nat):Prop where
 kind:scope.kind=.function
 nT:∀y∈scope.names,y.2≠.cell
 names:∀y∈scope.names,y.2=.local->scope.names.lookup y.1=Y .local
 frees:∀y∈scope.names,y.2=.free->X.env.scope.names.lookup y.1=Y .cell\/X.env.scope.names.lookup y.1=Y .free
 nd:N'.Nodup
 len:N'.length=nt+js.length
 pl:∀(i j:Nat),js[i]?=Y j->N'[nt+i]?=X.N[j]?/\∃x,X.N[j]?=Y x/\scope.names.lookup x=Y .free
def tu (NX:List U)(Ha scope:Scope)(N':List U)(nt:Nat)(js:List Nat):Bool:=
 (scope.kind==.function)&&scope.names.all (λy=>!(y.2==.cell))&&scope.names.all (λy=>!(y.2==.local)||(scope.names.lookup y.1==Y .local))&&
 scope.names.all (λy=>!(y.2==.free)||(Ha.names.lookup y.1==Y .cell)||(Ha.names.lookup y.1==Y .free))&&decide N'.Nodup&&(N'.length==nt+js.length)&&
 (N'.drop nt==js.map λj=>NX.getD j "")&&js.all (λj=>decide (j<NX.length)&&(scope.names.lookup (NX.getD j "")==Y .free))
def N5 (hN:X.N=f)(hs:X.env.scope=c)(h:tu f c scope k l m=J):BlkScope X scope k l m:=by
 unfold tu at h;simp only[aj,bc,decide_eq_true_eq,beq_iff_eq,mv,lr,beq_eq_false_iff_ne]at h;let{{{{{{{n,o},p},q},r},s},t},u}:=h;refine{n,o,λy d e=>(p y d).resolve_left<|λz=>z e,λy d e=>?_,r,s,λi j g=>?_}
 .rw[hs];rcases q y d with(z|z)|z
  .exact absurd e z
  .exact .inl z
  .exact .inr z
 .let{a,b}:=u j<|dg g;have e:X.N[j]?=Y (f.getD j ""):=by rw[hN,ah,bn a];rfl
  refine{?_,_,e,b};rw[e,<-lc,t,bv,g];rfl
def gZ (nt:Nat)(js:List Nat)(σ:St):St:=bq nt Z8++js.map λj=>σ.getD j Z8
section
variable {X:Cx}{scope:Scope}{N':List U}{nt:Nat}{js:List Nat}
def zl4 (B:BlkScope X scope Q G R)(I:Inv X D ZK H s)
  (w:∀b∈fp,FpOk X D H b) (S:∀b∈fp,∃o,s.heap.get? b=Y o)
  (k:∀b o,s.heap.get? b=Y o->O.get? b=Y o) (hn:O.Ns s[?_] m1):
  Inv (blk X scope Q s[?_] fp s H) D (gZ G R ZK) H {s with heap:=O,toks:=t1}:=by
 have g:∀x c,(fV X.env scope.names []).lookup x=Y c->X.env.cells.lookup x=Y c:=zcn _ _ (λy P hf=>I.ok.has y.1<|B.frees y P hf) (λx c h=>by simp at h);have lt:∀b o,s.heap.get? b=Y o->b≠s[?_]:=λb o e=>cg<|bb e;refine{{I.ok.mod,B.kind,I.ok.glob,I.ok.blt,ag _,λx y c O h2=>I.ok.inj x y c (g x c O)<|g y c h2,λx T=>BU _ _<|zb7 B.nT T,λx c h=>(by ext h),I.ok.hd,I.ok.frames,.inl rfl,λb E=>?_,I.bs,bj I.ok.mP I.sz,λb o e E=>?_,λb E T=>?_,I.stack,I.hX,λ_ _ z=>by ext z},rfl,I.bare,Un.kept k,{m1,hn,λi x v e1 A e3=>?_},λx c e=>?_,I.hok.fresh<|ag _,λx c e=>I.bJ x c<|g x c e,λp hp=>?_,I.hok.kept k,?_,λ_ _ z=>by ext z}
 .let{o,K}:=S b E;exact{lt b o K,λx c h=>(w b E).2.2.2.2.1 x c<|g x c h}
 .rcases(w b E).2.2.2.1 with z|z
  .exact I.ok.jV b o e z
  .exact absurd (bx (bb e)<|bj I.ok.mP z) (c8 _)
 .rcases ak.mp (I.hU b T)with z|z
  .exact(w b E).2.1 z
  .exact(w b E).2.2.1 z
 .--a name with a value:one of WZ zp
  have hi:G<=i:=by refine Nat.le_of_not_lt λh=>?_;unfold gZ at A;rw[eo<|cz▸h,cu,qq h]at A;ext A
  unfold gZ at A;rw[jf<|cz▸hi,cz,bv]at A;cases ZL:R[i-G]? with
  |none=>rw[ZL]at A;ext A
  |some j=>
   rw[ZL]at A;have C:ZK.getD j Z8=Y v:=qt A;let{L,y,P,f}:=B.pl (i-G) j ZL;rw[nv hi]at L;have V:x=y:=by have M:Q[i]?=Y x:=e1;rw[L,P]at M;exact(qt M).symm
   subst V
   have W:ZK[j]?=Y (Y v):=by
    rw[ah]at C;cases q:ZK[j]? with
    |none=>rw[q]at C;ext C
    |some z=>rw[q]at C;simp_all
   have N:=B.frees (x,.free) (PySem.mem_of_lookup f) rfl;let{m,W0,hl}:=I.loc;let{u,r,l}:=hl j x v P W<|N.elim (λz=>.inr<|.inl z)<|λz=>.inr<|.inr z;refine{u,r,?_};rcases l with⟨ZM,_⟩|⟨ZM,c,hc,F⟩
   .rcases N with z|z
    .have t:X[!x]=Y .local:=ZM;rw[z]at t;ext t
    .have t:X[!x]=Y .local:=ZM;rw[z]at t;ext t
   .let{d,hd}:=BU scope.names [] f;have Z:d=c:=by have:=g x d hd;rw[hc]at this;ext this;rfl
    subst Z;refine .inr {?_,d,hd,?_}
    .rcases e3 with z|z|z
     .exfalso
      have:∀(l:List<|U×gb),l.lookup x=Y .free->(l.map λ(n,k)=>if(k==.free&&X.env.scope.kind==.function&&X.env.kindOf n==Y .cell)then(n,NameKind.cell)else(n,k)).lookup x≠Y .local:=by
       intro l
       induction l with
       |nil=>intro h;simp at h
       |cons y r ih=>
        intro h;let{n,q}:=y;rw[db]at h;rw[bu]
        dsimp only
        cases e:(x==n)with
        |true=>
         rw[e]at h;have hq:=qt h;subst hq;split
         .rw[db,e];intro z;ext z
         .rw[db,e];intro z;ext z
        |false=>
         rw[e]at h;split
         .rw[db,e];exact ih h
         .rw[db,e];exact ih h
      exact this _ f z
     .exact .inl z
     .exact .inr z
    .let{o,K,BF}:=F;exact{o,k _ _ K,BF}
 .let{v,o,K,hd}:=I.cell x c<|g x c e;exact{v,o,k _ _ K,hd}
 .let{q1,q2,q3,q4,q5}:=I.pin p hp;refine{k _ _ q1,q2,lt _ _ q1,λz=>?_,q5};rcases ak.mp (I.hU p.1 z)with z|z
  .exact q3 z
  .exact q4 z
 .show(gZ G R ZK).length=Q.length;unfold gZ;rw[ax,cz,am,B.len]
end
section
variable (M:Model)(A:eh)(env:Env)
abbrev hA:Value->aq->Prop:=λ_ _=>False
def N6 (acc:Value)(Z:aq->Prop)(x:Value):aq->Prop:=wpAny M A (call (.builtin "list.append") [acc,x]) (λ_=>Z) hA
def BV (elt:Expr)(acc:Value)(Z:aq->Prop)(ok:Bool)(s:aq):Prop:=if ok=J then wpAny M A (eval elt env) (N6 M A acc Z) hA s else Z s
def N7 (ifs:List Expr)(elt:Expr)(acc:Value)(Z:aq->Prop):aq->Prop:=wpAny M A (forIn ifs J λc r=>if r=J then(p6 c env (eval c env)>>=λok=>pure<|ForInStep.yield ok)else pure<|ForInStep.yield r) (BV M A env elt acc Z) hA
def BW (tg:Expr)(ifs:List Expr)(elt:Expr)(acc:Value)(Z:aq->Prop)(v:Value):aq->Prop:=wpAny M A (ou tg env v) (λ_=>N7 M A env ifs elt acc Z) hA
def BX (tg:Expr)(ifs:List Expr)(elt:Expr)(it acc:Value)(End Z:aq->Prop)(r:Option Value)(s:aq):Prop:=match r with
 |some v=>wpAny M A (iw tg it v) (λ_=>BW M A env tg ifs elt acc Z v) hA s
 |none=>End s
end
def zmu (I:Nat->aq->Prop)
  (one:∀k t,I k t->wpAny (model P w) A (p7 it) (BX (model P w) A env g a b it c (R<|.ok .next) λi=>∃m,m<k/\I m i) hA t) n (h:I n s):
  jy (model P w) A (.compLoop (.ListComp b [{(g),d,a,0}] scope pos) 0 it c env) R s:=by
 apply codeAny_loop rfl I _ n h;intro k t j;apply wpAny_noted;apply wpAny_noRaise;apply aa;apply i8;apply aa;refine aR (one k t j) ?_
 rintro(_|v) r e
 .exact au e
 apply aa;refine aR e λ_ u l=>?_;apply aa;refine aR l λ_ y o=>?_;apply aa;refine aR o ?_
 rintro(_|_) z f
 .exact au {rfl,(f)}
 apply aa;apply aa;refine aR f λx B p=>?_;apply aa;exact aR p λ_ C q=>au (au {rfl,(q)})
def Un.but (u:Un fs ex H f h g)(i:h.get? C=Z8)(c:cc C g j):Un fs ex H f h j:=by
 have ne:∀b o,h.get? b=Y o->b≠C:=λb o e z=>by rw[z,i]at e;ext e
 exact{λb o e n d a=>c.extBut b o (ne b o e)<|u.keep b o e n d a,λb o e n d a=>let⟨sl,q⟩:=u.slot b o e n d a;{sl,c.extBut b _ (ne b o e) q},u.free,λb o e a=>let⟨o',q⟩:=u.there b o e a;{o',c.extBut b _ (ne b o e) q},u.dD,u.cY,u.dE}
theorem HOk.but (ok:HOk P w H h)(d:H C=Z8)(f:cc C h g):HOk P w H g:=λa o e=>by
 refine(ok a o e).stay (λb u c q=>f.extBut b u (λz=>?_) q) (λ_ q=>q) λ_ _ q=>q;rcases c with c|c
 .rw[z]at c;rw[<-c,d]at e;ext e
 .rw[z,d]at c;ext c
def rS (X:Cx)(ifs:List Expr)(t:TT):Prop:=∀(pins:List<|Addr×Obj) (s:aq) (σ:St) (H:Hp) (Q:Bool->Hp->Prop),Inv X pins σ H s->t σ H Q->X['a'] (forIn ifs J λc r=>if r=J then do let ok <-p6 c X.env (eval c X.env);pure (ForInStep.yield ok)else pure<|ForInStep.yield r) (TP X pins σ Q) X.xe s
def wz:TT:=λ_ H Q=>Q J H
theorem N8:rS X [] wz:=λ_ _ _ H _ I h=>wpAny_tests_nil {(H),I,h}
theorem N9 (h:PT X c t):rS X [c] t:=λa s b H Q I q=>wpAny_tests_one (h a s b H Q I q)
def nU (a b:St):Prop:=a.length=b.length/\∀(i:Nat) v,a[i]?=Y (Y v)->b[i]?=Y (Y v)
def zq (wi:TI)(g:TG)(tc:TT)(te:TE)(em:St->St):TE:=λσ H Q=>wi σ H λZK H1=>∀l,H1 l=Z8->∃P:Nat->Nat->List V->Hp->Prop,(∃m,P 0 m []<|upd H1 l<|.lst [])/\∀i m acc H2,P i m acc H2->(ZK.stop i H2/\Q (.ref l) H2)\/(ZK.go i H2/\acc.length<aw/\∃N:List V->Hp->Prop,(∀nV H',N nV H'->∃m',m'<m/\P (i+1) m' nV H')/\∀x H3,ZK.lK i H2 x H3->g x (em σ) H3 λlO H4=>nU (em σ) lO/\tc lO H4 λb H5=>if b=J then te lO H5 λy H6=>H6 l=Y (.lst acc)/\N (acc++[y]) (upd H6 l<|.lst<|acc++[y])else N acc H5)
section
variable {X:Cx}{scope:Scope}{N':List U}{nt:Nat}{js:List Nat}{tg iter elt:Expr}{ifs:List Expr}{wi:TI}{g:TG}{tc:TT}{te:TE}{pos:Pos}
def z5k {Q:VK}{RR:Value->Addr->Result->aq->Prop}(hc:X.calm=J)(B:BlkScope X scope S nt js)
  (hg:∀C D s H,PG (blk X scope S C D s H) tg g) (ht:∀C D s H,rS (blk X scope S C D s H) ifs tc) (he:∀C D s H,PE (blk X scope S C D s H) elt te)
  (h2:sQ X a σ tg (λZK H1=>∀l,H1 l=Z8->∃P:Nat->Nat->List V->Hp->Prop,(∃m,P 0 m []<|upd H1 l<|.lst [])/\∀i m f K,P i m f K->(ZK.stop i K/\Q (.ref l) K)\/(ZK.go i K/\f.length<aw/\∃N:List V->Hp->Prop,(∀F t,N F t->∃m',m'<m/\P (i+1) m' F t)/\∀x H3,ZK.lK i K x H3->g x (gZ nt js σ) H3 λlO H4=>nU (gZ nt js σ) lO/\tc lO H4 λb H5=>
  if b=J then te lO H5 λy H6=>H6 l=Y (.lst f)/\N (f++[y]) (upd H6 l<|.lst<|f++[y])else N f H5)) vW j)
  (Oa:∀l C t ZL,(∃m,ZL.heap.Ns C m)->t C=Z8->C≠X.env.locals->C∉X.fs->(∀x c,X.env.cells.lookup x=Y c->c≠C)->X.s₀[?_]<=C->(∀p∈X.pn++a,p.1≠C)->(∀h',cc C ZL.heap h'->Inv X a σ t {ZL with heap:=h'})->Q (.ref l) t->RR (.ref l) C (.ok .next) ZL):
  X['a'] (newList []) (λf I=>X['a'] (newFunctionEnv scope X.env.globals (fV X.env scope.names []) [] X.env.qual Z8 .none<|Y X.env) (λwB BY=>jy (model X.prog X.w) X.A (.compStart (.ListComp elt [{tg,iter,ifs,(0)}] scope pos) 0 vW f {wB with scope:=relabel scope X.env}) (RR f wB.locals) BY) E I) E j:=by
 let{it,D,tn,ZK,K,rfl,I2,T,wC,f2,q}:=h2;refine gr<|wpAny_newFunctionEnv B.nT (by intro y hy;simp at hy) (λh₁ L M=>?_) B.kind;have wD:∀b∈D,∃o,j.heap.get? b=Y o:=λb h=>let⟨o,e,_⟩:=T.obj 0 _ wC b h;{(o),e};have hl:=I2.hok.fresh<|ag _;have W:=I2.lnew (t':=j.toks) .nil<|c9 _;let{P,{m0,p0},turn}:=q _ hl;generalize Ob:j.heap.push {cls:=.type "list",dict:=Z8,data:=.seq ([]:List Value).toArray}=G at L M W ⊢;generalize Hb:j[?_]=l at hl W p0 turn ⊢;have O:∀b o,j.heap.get? b=Y o->G.get? b=Y o:=λb o e=>Ob▸af _ e;have k:=λb o e=>M.extBut b o (cg<|bb e)<|af _ e;have f3:∀b∈D,FpOk X a (upd K l<|.lst []) b:=λb h=>by let{o,e}:=wD b h;exact{by rw[aK<|Hb▸cg (bb e)];exact(f2 b h).1,(f2 b h).2}
 have J0:=zl4 (t1:=j.toks+([]:List<|U×Value).length) B W f3 (λb h=>let⟨o,e⟩:=wD b h;{o,O b o e}) k L;have BZ:∀{t:Hp},(∀b∈D,t b=Z8)->∀b∈D,FpOk (blk X scope S G.objs.size D {j with heap:=G,toks:=j.toks}<|upd K l<|.lst []) a t b:=λhn b h=>{hn b h,(J0.ok.gE b h).1,J0.ok.jW b h,.inl h,(J0.ok.gE b h).2,(f2 b h).2.2.2.2.2};have out:∀{t:Hp} {ZL:aq},Inv (blk X scope S G.objs.size D {j with heap:=G,toks:=j.toks}<|upd K l<|.lst []) a (gZ nt js σ) t ZL->∀h',cc G.objs.size ZL.heap h'->Inv X a σ t {ZL with heap:=h'}:=λ{t ZL} Jn h' sb=>by exact W.call' Jn.os (Un.but Jn.base (gp<|ag _) sb) (Jn.hok.but Jn.free sb) Jn.bare λb h=>{(f3 b h).2.2.2.1,(f3 b h).2.1,(f3 b h).2.2.2.2.1,(f3 b h).2.2.2.2.2}
 have nC:∀x c,X.env.cells.lookup x=Y c->c≠G.objs.size:=λx c e z=>by let{v,q}:=W.cell x c e;exact absurd q.lt (z▸c8 _)
 have loop:∀I,I={j with heap:=h₁,toks:=j.toks+([]:List<|U×Value).length}->
   jy (model X.prog X.w) X.A (.compLoop (.ListComp elt [{tg,iter,ifs,(0)}] scope pos) 0 (.ref it) (.ref l)<|compEnvC scope (fV X.env scope.names []) G.objs.size X.env) (RR (.ref l) G.objs.size) I:=by
  rintro I rfl
  refine zmu (λn s'=>∃i f t,Inv (blk X scope S G.objs.size D {j with heap:=G,toks:=j.toks}<|upd K l<|.lst []) a (gZ nt js σ) t s'/\tn i s'.heap/\(∀b∈D,t b=Z8)/\P i n f t) ?_ m0 {0,[],_,J0,T.keep _ _ _ wC λb _ o e=>k b o<|O b o e,λb h=>(f3 b h).1,p0}
  rintro n s3 ⟨i,f,H3,Jn,Hc,wF,w3⟩
  rcases turn i n f H3 w3 with⟨stop,qn⟩|⟨go,Oc,N,hN,step⟩
  .refine aR (T.done (blk X scope S G.objs.size D {j with heap:=G,toks:=j.toks}<|upd K l<|.lst []) rfl rfl rfl hc i a s3 _ H3 (λ_ _=>False) Jn (BZ wF) Hc stop) λr s4 ⟨hr,I4⟩=>?_;subst hr;let{m,hn,_}:=id I4.loc;exact Oa l G.objs.size H3 s4 {(m),hn} I4.free (mh<|W.lt) (W.vN<|ag _) nC W.sz (λp hp=>cg<|bb (W.pin p hp).1) (out I4) qn
  .refine aR (T.item (blk X scope S G.objs.size D {j with heap:=G,toks:=j.toks}<|upd K l<|.lst []) rfl rfl rfl hc i a s3 _ H3 (λ_ _=>False) Jn (BZ wF) Hc go) λr s4 ⟨u,hr,h4⟩=>?_;subst hr;refine aR h4 λ_ s5 ⟨x,H5,I5,r5,y5,B1,Od⟩=>aR (hg _ _ _ _ _ s5 _ H5 x u _ (I5.pinned (BZ Od)<|T.obj _ _ B1) r5<|step x H5 y5) λ_ s6 ⟨σ6,H6,I6,kp,q6⟩=>aR (ht _ _ _ _ _ s6 σ6 H6 _ I6 q6) λb s7 ⟨H7,I7,q7⟩=>?_
   have R:∀{s7:aq} {H7:Hp} {F:List V},Inv (blk X scope S G.objs.size D {j with heap:=G,toks:=j.toks}<|upd K l<|.lst []) (a++z6m D s5.heap) σ6 H7 s7->N F H7->
     ∃m,m<n/\∃i f t,Inv (blk X scope S G.objs.size D {j with heap:=G,toks:=j.toks}<|upd K l<|.lst []) a (gZ nt js σ) t s7/\tn i s7.heap/\(∀b∈D,t b=Z8)/\P i m f t:=λ{s7 H7 F} I7 w7=>by
    let{n',hm,w7}:=hN _ _ w7;refine{n',hm,i+1,F,H7,(I7.dG).weak kp.1 kp.2,T.keep _ _ _ B1 λb h o e=>(I7.pin (b,o)<|bp _<|bp _<|zi h e).1,λb h=>?_,w7};let{o,e,d}:=T.obj _ _ B1 b h;exact(I7.pin (b,o)<|bp _<|bp _<|zi h e).2.1
   cases b with
   |false=>exact R I7 q7
   |true=>exact aR (he _ _ _ _ _ s7 σ6 H7 _ I7 q7) λy' s8 ⟨y,H8,I8,r8,Oe,w8⟩=>aR (zo _ s8 σ6 H8 (.ref l) [y] (.ref l) [y'] (λ_ H9=>N (f++[y]) H9) I8 rfl (.cons r8 .nil) {(l),f,y,rfl,rfl,Oe,Oc,w8}) λ_ s9 ⟨v9,H9,I9,r9,w9⟩=>R I9 w9
 exact codeAny_compStart_list (loop _ rfl) (T.self _ 0 _ _ _ (T.keep _ _ _ wC λb _ o e=>k b o<|O b o e)<|loop _ rfl)
def zh0 (hc:X.calm=J)(B:BlkScope X scope d k n)(o:PI X j a wi)
  (p:∀C b s H,PG (blk X scope d C b s H) j g) (r:∀C b s H,rS (blk X scope d C b s H) e tc) (t:∀C b s H,PE (blk X scope d C b s H) f te)
  (hs:∀x,fh a X.env x=pure x:=by intro _;rfl):PE X (.ListComp f [{(j),a,e,0}] scope pos) (zq wi g tc te<|gZ k n):=by
 intro c s u H Q I h;refine ly rfl hs (G' λy w hf=>I.ok.has y.1<|B.frees y w hf) B.kind B.names<|aR (o c s u H _ I h) λv z A=>aR A λD K E=>?_;refine z5k hc B p r t E ?_;intro l C F z ns _ _ _ _ _ _ i q;let{m,hn}:=ns;exact{m,hn,λG ZK=>{.ref l,F,i G ZK,rfl,q}}
def Of (i:Nat)(t:TE):TS:=λD σ H=>t σ H λv H1=>D.nx (σ.set i<|Y v) H1
def zah (hc:X.calm=J)(hN:X.N.Nodup)(hy:X.N[i]?=Y y)(R:X[!y]=Y .local)(B:BlkScope X scope u nt js)(hi:PI X E a wi)
  (hg:∀C d s H,PG (blk X scope u C d s H) E g) (ht:∀C d s H,rS (blk X scope u C d s H) f tc) (he:∀C d s H,PE (blk X scope u C d s H) j te)
  (F:jh (.ListComp j [{(E),a,f,0}] scope pos) (Y<|.Name y G) k.line X.env=pure J)
  (hs:∀x,fh a X.env x=pure x:=by intro _;rfl):PS X (.Assign [.Name y G] (.ListComp j [{(E),a,f,0}] scope pos) k) (Of i<|zq wi g tc te<|gZ nt js):=by
 intro c s ZK H D I h;rw[exec_Assign_Name_used _ _ _ _ F];apply aa;apply i8;apply aa;refine aa<|il (ly (use:=Y<|ou (.Name y G) X.env) rfl hs (G' λz hz hf=>I.ok.has z.1<|B.frees z hz hf) B.kind B.names<|aR (hi c s ZK H _ I h) λv K h1=>aR h1 λvW s2 h2=>?_) (λ_ S hq=>au<|au hq) λ_ _ e=>e;refine z5k (Q:=λv H1=>D.nx (ZK.set i<|Y v) H1) (RR:=λL C=>compPost (model X.prog X.w) X.A X.xe (Y<|ou (.Name y G) X.env) (λ_ S=>SP X c D .next S) L C) hc B hg ht he h2 ?_;intro l C T K ns ZL V nF nC nS nP M q;let{m,hn}:=ns;have W:=M K.heap (.refl ..);let{t,es,ep,O,n,P}:=id hn
 have I2:Inv X (c++[(C,t)]) ZK T K:=W.hY λp hp=>(bg.mp hp).elim (λz=>W.pin p<|bp _ z) λz=>by
  have e:p=(C,t):=by simpa using z
  subst e;exact{O,ZL,V,nF,λv z=>by have ZM:=z;rw[n]at ZM;ext ZM}
 refine o6<|z6a I2 hN hy (.inl R) (v:=.ref l) rfl (λtj r=>?_)<|.inr R;refine{m,{t,es,ep,(r.pin (C,t)<|bp _<|bp _<|ai.mpr rfl).1,n,P},λh' sb=>{_,T,?_,q}};exact(r.dG).turned (λb o hb e=>sb.extBut b o hb e) ZL V (.inr nS) nC nP
end
def B2 (z:U):It:={λi _=>i<z.cps.size,λi H x H'=>H'=H/\∃c,z.cps[i]?=Y c/\x=.str {#[c]},λi _=>z.cps.size<=i}
def Og {K:Z5}(l:ty="str_ascii_iterator"\/ty="str_iterator")(a:Addr)(z:U)(t:Tok):Turn P w K R (B2 z) [a] a (λi h=>h.IsStrIter a ty z t i) where
 mem:=by simp
 obj:=λi h st b m=>by
  have e:b=a:=by simpa using m
  subst e;let{o,e,c,d}:=st;exact{o,e,λv z=>by rw[d]at z;ext z}
 keep:=λi h g st k=>let⟨o,e,r⟩:=st;{o,k a ZO o e,r}
 item:=by
  intro X M N O n i j s C H E I hf st D;subst M N O;let{f0,f1,f2,f3,y,B}:=hf a ZO;have p:=D
  have q:∀u g tk,SignAt z i u->g.IsStrIter a ty z t (i+1)->(∀b o,b∉ [a]->s.heap.get? b=Y o->g.get? b=Y o)->
    ∃F,Y u=Y F/\X['a'] (iw R (.ref a) F) (λ_ Q=>∃x G,Inv X j C G Q/\RelV x F/\(B2 z).lK i H x G/\Q.heap.IsStrIter a ty z t (i+1)/\∀b∈[a],G b=Z8) E {s with heap:=g,toks:=tk}:=by
   rintro u g tk ⟨c,S,T,rfl⟩ f kk
   have ZL:Inv X j C H {s with heap:=g,toks:=tk}:=I.turned (λb o m e=>kk b o (by simpa using m) e) f0 f1 f3 y B;let{o,e,V,d}:=id f;exact{_,rfl,z83 e V d (by rcases l with rfl|rfl<;>decide) {.str {#[c]},H,ZL,{(S),rfl},{rfl,(c),T,rfl},f,λb m=>(hf b m).1}}
  rcases l with rfl|rfl
  .exact(Walks.strAscii (I.ok.hd n) a z t).item i s _ _ p st λv g tk ZK f kk=>q v g tk ZK f kk
  .exact(Walks.strWide (I.ok.hd n) a z t).item i s _ _ p st λv g tk ZK f kk=>q v g tk ZK f kk
 done:=by
  intro X M N O n i j s C H E I hf st D;let{f0,f1,f2,f3,y,B}:=hf a ZO;have p:z.cps[i]?=none:=by have:z.cps.size<=i:=D;simpa using this
  rcases l with rfl|rfl
  .exact wpAny_pyNext_ascii_end (I.ok.hd n) st p λg L=>{rfl,I.turned (λb o m e=>L b o m e) f0 f1 f3 y B}
  .exact wpAny_pyNext_wide_end (I.ok.hd n) st p λg L=>{rfl,I.turned (λb o m e=>L b o m e) f0 f1 f3 y B}
 self:=λ_ _ _ _ _ st h=>by
  rcases l with rfl|rfl
  .exact wpAny_pyIter_striter_ascii st h
  .exact wpAny_pyIter_striter_wide st h
def zvz {ZK:It}{g:TG}{tc:TT}{te:TE}{Q:VK}(P:Nat->List V->Hp->Prop)(hn:n<=aw)(h0:P 0 []<|upd A l<|.lst [])
  (q:∀i a H,P i a H->a.length<=i)
  (h:∀a H,P n a H->ZK.stop n H/\Q (.ref l) H) (u:∀i a H,i<n->P i a H->ZK.go i H)
  (r:∀i a H x j,i<n->P i a H->ZK.lK i H x j->g x k j λc v=>nU k c/\tc c v λb s=>if b=J then te c s λy t=>t l=Y (.lst a)/\P (i+1) (a++[y]) (upd t l<|.lst<|a++[y])else P (i+1) a s):
  ∃P:Nat->Nat->List V->Hp->Prop,(∃m,P 0 m []<|upd A l<|.lst [])/\∀i m a f,P i m a f->(ZK.stop i f/\Q (.ref l) f)\/(ZK.go i f/\a.length<aw/\∃N:List V->Hp->Prop,(∀d w,N d w->∃z,z<m/\P (i+1) z d w)/\∀x j,ZK.lK i f x j->g x k j λc v=>nU k c/\tc c v λb s=>if b=J then te c s λy t=>t l=Y (.lst a)/\N (a++[y]) (upd t l<|.lst<|a++[y])else N a s):=by
 refine{λi m a H=>i<=n/\m=n-i/\P i a H,{n,c9 _,rfl,h0},?_}
 rintro i m a f ⟨C,rfl,p⟩
 by_cases o:i<n
 .have D:=q i a f p;exact .inr {u i a f o p,by omega,P<|i+1,λd w B=>{n-(i+1),by omega,o,rfl,B},λx j y=>r i a f x j o p y}
 .have e:i=n:=by omega
  subst e;exact .inl (h a f p)
section
variable {X:Cx}
def Oh:OpR X (cn .LtE) (λx y H Q=>∃i j,x=.str i/\y=.str j/\Q (.bl<|!decide (j[[]]<i[[]])) H):=by
 rintro pins s σ H x y v u Q I a b ⟨i,j,rfl,rfl,q⟩
 let{t,rfl}:=a;let{c,rfl}:=b;exact PySem.P.le_str {.bl _,H,I,rfl,q}
def Oi:OpR X (cn .Gt) (λx y H Q=>∃i j,x=.str i/\y=.str j/\Q (.bl (decide (j[[]]<i[[]]))) H):=by
 rintro pins s σ H x y v u Q I a b ⟨i,j,rfl,rfl,q⟩
 let{t,rfl}:=a;let{c,rfl}:=b;exact PySem.P.gt_str {.bl _,H,I,rfl,q}
def wG:V->Option Int->Option Int->Hp->VK->Prop:=λx lo hi H Q=>∃z,x=.str z/\z.length<=aw/\Q (.str<|Txt.slice z lo hi) H
def zr:pG X wG:=by
 rintro b s h H x v r w m n sl Q I p hs pl f ⟨z,rfl,c,q⟩
 let{t,rfl}:=p;refine{"str",_,PySem.F.slot_str_getitem.lookup,lb _ _ _,?_};let{o,d,hc,hd}:=hs;have a:∀g k,EP X b h Q (.str (Txt.slice z m n) g) {s with toks:=k}:=λg k=>{.str _,H,I.tok _,{_,rfl},q};cases pl with
 |none=>
  cases f with
  |none=>exact gy (l:=Z8) (u:=Z8) (st:=Z8) {(o),d,hc,hd} rfl (ku {bj (Txt.slice_le z _ _) c,a})
  |int j e=>exact gy (l:=Z8) (u:=Y (j,e)) (st:=Z8) {(o),d,hc,hd} rfl (ku {bj (Txt.slice_le z _ _) c,a})
 |int i ti=>
  cases f with
  |none=>exact gy (l:=Y (i,ti)) (u:=Z8) (st:=Z8) {(o),d,hc,hd} rfl (ku {bj (Txt.slice_le z _ _) c,a})
  |int j e=>exact gy (l:=Y (i,ti)) (u:=Y (j,e)) (st:=Z8) {(o),d,hc,hd} rfl (ku {bj (Txt.slice_le z _ _) c,a})
def Oj (m:X.calm=J):CallR X (.builtin "all") (λj H Q=>∃(p:Addr) (bs:List Bool),j=[.ref p]/\SqL X.K H p (bs.map V.bl)/\Q (.bl<|bs.all id) H):=by
 rintro l s D H j E Q I r ⟨p,bs,rfl,n,q⟩
 let{u,rfl,rfl}:=vals1 r;let{f,rv,pl,F}:=I.list n;refine call_all_walk<|jx pl.isList ?_;have ne:p≠s[?_]:=by let{o,ho,_}:=pl.isList;exact cg (bb ho)
 have c:=by have:=rv.length;rw[am]at this;exact this
 refine{s[?_],_,_,_,_,_,λi=>bs.getD i J,rfl,Walks.list (A:=X.A.in1) (I.ok.hd m) s[?_] p ne f.toArray,{{_,ba _ rfl,rfl,rfl},pl.isList.at λo e=>af _ e},?_,?_}
 .intro i v t w G x y;have d:f[i]?=Y v:=by simpa using x
  have hb:i<bs.length:=c▸(az.mp d).1;let{ZK,hu,B}:=rv.get (by rw[bv,bn hb];rfl);rw[d]at hu;ext hu;ext B;refine d8 ?_;have e:bs.getD i J=bs[i]:=by simp[ah,hb]
  have g:w (bs.getD i J) t:=y;rw[e]at g;exact g
 .intro L M k;refine{.bl<|bs.all id,H,I.kept λb o e=>?_,?_,q}
  .refine k b o (λz=>?_) (af _ e);have C:b=s[?_]:=by simpa using z
   exact absurd (bb e) (C▸c8 _)
  .have e:(dz f.toArray.size).all (fun i=>bs.getD i J)=bs.all id:=by
    rw[br,<-c];apply i3.mpr;simp only[bc];constructor
    .intro a b hb;let{i,d,rfl}:=List.mem_iff_getElem.mp hb;have:=a i<|ef.mpr d;simpa[ah,d]using this
    .intro a i d;rw[ef]at d;have h:=d;have:=a bs[i]<|jj h;simpa[ah,h]using this
   rw[e];rfl
end
def Own (K:Z5)(mg:U->Option Value)(x:U)(st:Stmt)(ps:List U):Prop:=∃f fd,Fun K x x st f fd/\mg x=Y (.ref f)/\Z2 K (.ref f)=J/\Binds K fd ps []
def Cal (P:b9)(w:World)(K:Z5)(mg:U->Option Value)(base:Heap)(k:Nat)(x:U)(ps:List U)(sp:Sp):Prop:=∃f fd,FnOk P w K mg base pH k f fd ps sp/\mg x=Y (.ref f)/\Z2 K (.ref f)=J/\Binds K fd ps []
section
variable {P:b9}{w:World}{K:Z5}{mg:U->Option Value}{base:Heap}
theorem zpy {st:Stmt}{kV:Value}(X:K.In h)(G:h.Ns bh mg)
  (a:Z0 K bh x=Y (Y<|.ref f)) (l:K.lookup f=Y {oc,od,.func<|W.fnOf x x (z1d st) (z0m st) (z0c st) .none kV e i an d ct,j}) (c:W.codeIn K d x=J) (k:Z2 K (.ref f)=J)
  (b:∀kV e i an d ct g,g.length=ps.length->qh (W.fnOf x x (z1d st) (z0m st) (z0c st) .none kV e i an d ct) {g,[]}=pure (ps.zip g)):Own K mg x st ps:=
 {f,_,BS l c k,W.mg_of X G a,k,(BS l c k).binds b}
end
def isStar:Expr->Bool
 |.Starred ..=>J
 |_=>Z6
def eK (h:isStar e=Z6):cx (e::a) env=(Z6,eval e env)::cx a env:=by ext e<;>first|rfl|ext h
theorem mV:∀{es:List Expr},(es.all λe=> !isStar e)=J->(ja pos<|cx es env).any (·.1)=Z6
 | [],_=>rfl
 |e::es,h=>by have a:=av.mp<|b8▸h;rw[eK<|by simpa using a.1];show(Z6||(ja pos<|cx es env).any (·.1))=Z6;rw[mV a.2];rfl
section
variable {X:Cx}{x:U}{p pos:Pos}{e:Expr}{es:List Expr}{t:TA}{id T:String}{r:List V->Hp->VK->Prop}
theorem dY (a:PE X e te)(hr:PA X es t)(hs:isStar e=false:=by rfl):PA X (e::es) (mT te t):=v5 a hr (eK hs)
def zt (hc:CallR X (.builtin id) r)(hm:X.mg x=Z8)(c:cy x=Y (.builtin id))(d:PA X (e::es) t)(a:((e::es).all λe=> !isStar e)=true:=by rfl)(f:Gl X x:=by rfl)(hn:x≠"__name__":=by decide)(b:Xf x:=by decide):PE X (.Call (.Name x p) (e::es) [] pos) (pZ r t):=by rw[b8,aj]at a;exact zfu hc f hm c d hn b (eK<|by simpa using a.1) (mV a.2)
def B3 (hc:CallR X (.type T) r)(hm:X.mg x=Z8)(c:cy x=Y (.type T))(d:PA X (e::es) t)(a:((e::es).all λe=> !isStar e)=true:=by rfl)(f:Gl X x:=by rfl)(hn:x≠"__name__":=by decide)(b:Xf x:=by decide):PE X (.Call (.Name x p) (e::es) [] pos) (pZ r t):=by rw[b8,aj]at a;exact zff hc f hm c d hn b (eK<|by simpa using a.1) (mV a.2)
def z9y (C:Cal X.prog X.w X.K X.mg X.base k x ps d)(hr:Room g X.A)(h:PA X (e::es) t)(a:((e::es).all fun e=> !isStar e)=true:=by rfl)(i:k<=g:=by decide)(j:Gl X x:=by rfl)
  (c:Xf x:=by decide):PE X (.Call (.Name x p) (e::es) [] pos) (kS d [] E0 t):=by
 let{f,fd,F,m,kp,b}:=C;rw[b8,aj]at a;exact zdf F (hr.mono i) j m kp b .nil NV h c (eK<|by simpa using a.1) (mV a.2)
end
def mW:Expr->Bool
 |.ListComp ..=>J
 |.SetComp ..=>J
 |.DictComp ..=>J
 |_=>Z6
def rT (h:mW e=Z6)(a:Option Expr)(n:Nat)(env:Env):jh e a n env=pure false:=by ext e<;>first|rfl|ext h
theorem tE (hN:X.N.Nodup)(a:X.N[i]?=Y x)(b:Loc X.env.scope x)(c:PE X e te)(hs:mW e=false:=by rfl)(hf:X.fn x=J\/X[!x]=Y .local:=by first|exact .inl rfl|exact .inr rfl|assumption): PS X (.Assign [.Name x pos'] e pos) (lJ te<|uL i):=za8 hN a b c (rT hs _ _ _) hf
theorem qC (a:PE X e te)(hs:mW e=false:=by rfl):PS X (.Expr e pos) (vT te):=Mz a (rT hs _ _ _)
section
variable {X:Cx}
def B4 (K:Z5):R2:=λx y H Q=>mS (λi j=>.int<|i+j) x y H Q\/(∃i j,x=.str i/\y=.str j/\i.length+j.length<=aw/\Q (.str<|i++j) H)\/wx x y H Q\/GX K x y H Q
def tF:R2:=λx y H Q=>mS (λi j=>.bl (decide (i<j))) x y H Q\/∃i j,x=.str i/\y=.str j/\Q (.bl (decide (i[[]]<j[[]]))) H
def tG:R2:=λx y H Q=>mS (λi j=>.bl (decide (i<=j))) x y H Q\/∃i j,x=.str i/\y=.str j/\Q (.bl<|!decide (j[[]]<i[[]])) H
def tH:R2:=λx y H Q=>mS (λi j=>.bl (decide (j<i))) x y H Q\/∃i j,x=.str i/\y=.str j/\Q (.bl (decide (j[[]]<i[[]]))) H
def qD (K:Z5)(neg:Bool):R2:=λx y H Q=>BP K neg x y H Q\/∃i j,x=.str i/\y=.str j/\Q (.bl (if neg then !(!(ec j i 0 j.length 1).isEmpty)else !(ec j i 0 j.length 1).isEmpty)) H
def B5 (K:Z5):V->Option Int->Option Int->Hp->VK->Prop:=λx lo hi H Q=>wj K x lo hi H Q\/wG x lo hi H Q
def Ol (K:Z5):List V->Hp->VK->Prop:=λxs H Q=>(∃z,xs=[.str z]/\z.length<=aw/\Q (.int z.length) H)\/(∃p ys,xs=[.ref p]/\(SqL K H p ys\/dC K H p ys)/\Q (.int ys.length) H)
theorem Om:OpR X (f8 .Add) (B4 X.K):=ML.or (MY.or<|NS.or Nz)
theorem B6:OpR X (cn .Lt) tF:=MR.or MU
theorem B7:OpR X (cn .LtE) tG:=MS.or Oh
theorem B8:OpR X (cn .Gt) tH:=MT.or Oi
theorem B9:OpR X (cn .In) (qD X.K Z6):=NK.or MV
theorem Oq:OpR X (cn .NotIn) (qD X.K J):=NL.or NM
theorem Ot:mU X (G1 X.K):=ND
theorem Ou:pG X (B5 X.K):=NI.or zr
theorem Ov:CallR X (.builtin "len") (Ol X.K):=NP.or NO
end
def eI (t T:String):Bool:=t==T||(t=="bool"&&T=="int")
def qE:List String:=["NoneType","bool","int","str","list","tuple","dict"]
def tysB:List String:=["str","int","bool","tuple","list"]
def Ow (K:Z5):∀t∈qE,∀T∈tysB,W.kitOne K (.type t) (.type T)=Y (eI t T):=by intro t a T b;simp only[qE,ak,gz,or_false]at a;simp only[tysB,ak,gz,or_false]at b;rcases a with rfl|rfl|rfl|rfl|rfl|rfl|rfl<;>rcases b with rfl|rfl|rfl|rfl|rfl<;>kernel_rfl
section
variable {D:Ends}{σ:St}{H:Hp}{Q:VK}{t u:TS}{te ta tb W2:TE}{r r':R2}{K:Z5}
theorem Ox (h:Q (.int<|i+j) H):B4 K (.int i) (.int j) H Q:=.inl {(i),j,rfl,rfl,h}
theorem Oy (c:i.length+j.length<=aw)(h:Q (.str<|i++j) H):B4 K (.str i) (.str j) H Q:=.inr (.inl {(i),j,rfl,rfl,c,h})
theorem Oz (h:Q (.bl (decide (i<j))) H):tF (.int i) (.int j) H Q:=.inl {(i),j,rfl,rfl,h}
theorem OA (h:Q (.bl (decide (i<=j))) H):tG (.int i) (.int j) H Q:=.inl {(i),j,rfl,rfl,h}
theorem OB (h:Q (.bl (decide (j<i))) H):tH (.int i) (.int j) H Q:=.inl {(i),j,rfl,rfl,h}
theorem OC (h:Q (.bl (decide (i[[]]<j[[]]))) H):tF (.str i) (.str j) H Q:=.inr {(i),j,rfl,rfl,h}
theorem OD (h:Q (.bl<|!decide (j[[]]<i[[]])) H):tG (.str i) (.str j) H Q:=.inr {(i),j,rfl,rfl,h}
theorem OE (h:Q (.bl (decide (j[[]]<i[[]]))) H):tH (.str i) (.str j) H Q:=.inr {(i),j,rfl,rfl,h}
end
section
variable {K:Z5}{H:Hp}{Q:VK}
theorem OG (h:Q (.bl (decide (c∈z[[]]))) H):qD K Z6 (.str {#[c]}) (.str z) H Q:=.inr {_,z,rfl,rfl,by rw[PySem.StrLaws.found_one z c];exact h}
theorem OH (h:Q (.bl<|!decide (c∈z[[]])) H):qD K J (.str {#[c]}) (.str z) H Q:=.inr {_,z,rfl,rfl,by rw[congrArg Bool.not<|PySem.StrLaws.found_one z c];exact h}
end
section
variable {K:Z5}{H:Hp}{Q:VK}
theorem Same.upd (h:H p=Z8):Same H (L2.upd H p o):=λb u e=>by rw[aK<|gY e h];exact e
theorem Hd (h:n<=1000):n<=aw:=bj h (by rw[cf];decide)
end
end L2
namespace Mi
open PySem
abbrev D:=ae
set_option genInjectivity true in
inductive Res (α:Type) where
 |ok (a:α)|exc (e:D)|no
namespace Res
def bind {α β:Type}(x:Res α)(f:α->Res β):Res β:=match x with
 |.ok a=>f a
 |.exc e=>.exc e
 |.no=>.no
instance:Monad Res where
 pure:=.ok
 bind:=Res.bind
theorem aB {b c:Type}(a:b)(f:b->Res c):(Res.ok a>>=f)=f a:=rfl
def gF {α:Type}:Option α->Res α
 |some a=>.ok a
 |none=>.no
def aA {c d:Type}{x:Res c}{f:c->Res d}{b:d}(h:(x>>=f)=.ok b):∃a,x=.ok a/\f a=.ok b:=by
 cases x with
 |ok a=>exact{(a),rfl,h}
 |exc e=>ext h
 |no=>ext h
end Res
mutual
def imm:ae->Bool
 |.tuple xs=>imms xs
 |.list _=>Z6
 |.dict _=>Z6
 |.none=>J
 |.bool _=>J
 |.int _=>J
 |.str _=>J
def imms:List ae->Bool
 | []=>J
 |x::xs=>imm x&&imms xs
end
theorem mX:∀{a:List D},imms a=J↔∀x∈a,imm x=J
 | []=>by simp[imms]
 |x::a=>by rw[imms,aj,mX];simp
abbrev bX:D->D->Bool:=PyData.eqv
mutual
def cO:Nat->ae->Bool
 |0,.tuple _=>Z6
 |0,.list _=>Z6
 |n+1,.tuple xs=>jP n xs
 |n+1,.list xs=>jP n xs
 |_,.dict _=>Z6
 |_,.none=>J
 |_,.bool _=>J
 |_,.int _=>J
 |_,.str _=>J
def jP:Nat->List ae->Bool
 |_,[]=>J
 |n,x::xs=>cO n x&&jP n xs
end
def truth:ae->Bool
 |.none=>Z6
 |.bool b=>b
 |.int i=>!decide (i=0)
 |.str x=>!decide (x.length=0)
 |.tuple xs=>!xs.isEmpty
 |.list xs=>!xs.isEmpty
 |.dict es=>!es.isEmpty
def kT (n:Nat)(i:Int):Option Nat:=if 0<=i then(if i<n then Y i.toNat else Z8)else if -(n:Int)<=i then Y (i+n).toNat else Z8
def cN {α:Type}(xs:List α)(i:Int):Option α:=(kT xs.length i).bind λj=>xs[j]?
def bC (n d:Nat):Option Int->Nat
 |none=>d
 |some v=>if v<0 then(v+(n:Int)).toNat else min v.toNat n
def cut {α:Type}(xs:List α)(lo hi:Option Int):List α:=(xs.drop<|bC xs.length 0 lo).take (bC xs.length xs.length hi-bC xs.length 0 lo)
def eqK:ae->ae->Bool
 |.int a,y=>match y with|.int b=>a==b|_=>Z6
 |.str a,y=>match y with|.str b=>decide (a=b)|_=>Z6
 |_,_=>Z6
def rV:ae->Bool
 |.int _=>J
 |.str _=>J
 |_=>Z6
abbrev eM:=List (D×D)
def iA (es:eM)(k:D):Option D:=(es.find? λe=>eqK e.1 k).map (·.2)
def dput (es:eM)(k v:D):eM:=if es.any (λe=>eqK e.1 k)then es.map (λe=>if eqK e.1 k then(e.1,v)else e)else es++[(k,v)]
section
inductive G where
 |fr|od|al|nu
 deriving Inhabited,DecidableEq
abbrev Rho:=List (Option<|G×D)
abbrev GD:=G×D
inductive Tg where
 |nm (i:Nat)|tp (is:List Nat)
 deriving Inhabited,DecidableEq
inductive C where
 |var (i:Nat)|non|bl (b:Bool)|int (i:Int)|str (x:U)|glob (k:Nat) (x:U)|bin (op:nc) (a b:C)|neg (a:C)|cmp (op:CmpOp) (a b:C)|chain (op mY:CmpOp) (a b c:C)|nW (neg:Bool) (a:C)|and (a b:C)|or (a b:C)|not (a:C)|tup (xs:C)|lst (xs:C)|iB|ix (a b:C)|sl (a lo hi:C)|call (k:Nat) (f:U) (args:C)|bi (f:String) (args:C)|pI (f:String) (a:C)|eI (a:C) (ts:List String)|mt (m:String) (o args:C)|comp (nt:Nat) (js:List Nat) (N':List U) (tg:Tg) (it cond elt:C)|uQ (a:C)|dig (a:C)|lP (a b:C)|gM (args:C)|enum (a:C)|zip (a b:C)|tv (a:C)|hD (b:Bool) (x:U)|nil|cons (a r:C)
 deriving Inhabited
inductive S where
 |nil|seq (a b:S)|bad|asg (t:Tg) (e:C)|mut (m:String) (i:Nat) (args:C)|ret (e:C)|bW (c:C) (a b:S)|cV (t:Tg) (it:C) (b:S)|wh (n:Nat) (c:C) (b:S)|cnt|pop (j i:Nat)|uR (j i:Nat)|pap (i:Nat) (a r:C)
 deriving Inhabited
inductive Out where
 |nx (ρ:Rho)|rt (g:G) (d:D)|bk (ρ:Rho)|ct (ρ:Rho)
abbrev Fn:=List D->Res GD
def LIM:Nat:=1000000
def He:G->G
 |.fr=>.al
 |.od=>.od
 |.al=>.al
 |.nu=>.nu
def tI:Option (Option GD)->Res GD
 |some (Y (g,d))=>.ok (if imm d then .fr else He g,d)
 |_=>.no
def hF:D->Res Bool
 |.str x=>if x.length<=LIM then .ok (!decide (x.length=0))else .no
 |d=>.ok (truth d)
def jB:G->G
 |.fr=>.fr
 |.od=>.al
 |.al=>.al
 |.nu=>.fr
def agG:G->G
 |.fr=>.fr
 |.od=>.al
 |.al=>.al
 |.nu=>.nu
def gJ (d:D)(g:G):G:=if imm d then .fr else g
def gN (d:D)(g:G):G:=match d with
 |.list xs=>if imms xs then .fr else g
 |d=>gJ d g
def cP (xs:List GD):G:=if xs.all (λx=>x.1==.fr)then .fr else if xs.all (λx=>x.1==.fr||x.1==.nu)then .nu else .al
def rW (xs:List GD):G:=if xs.all (λx=>x.1==.fr)then .fr else .al
def okIn (x:GD):Bool:=imm x.2||(x.1==.fr||x.1==.nu)
def qF (es:eM):Bool:=es.all λe=>imm e.2
def z1v:GD->GD
 |(g,d)=>if imm d then(.al,d)else match g,d with
  |.fr,.list xs=>(if imms xs then .fr else .nu,.list xs)
  |.fr,.dict es=>(if qF es then .fr else .nu,.dict es)
  |.fr,d=>(.nu,d)
  |.nu,d=>(.nu,d)
  |.od,d=>(.od,d)
  |.al,d=>(.al,d)
def mZ:GD->GD
 |(g,d)=>match g with|.od=>(.od,d)|_=>(.al,d)
def gO:Option GD->Option GD
 |some (.fr,d)=>Y (.al,d)
 |some (.nu,d)=>Y (.al,d)
 |s=>s
def z0h:Option GD->Option GD
 |some (.al,d)=>if imm d then Y (.al,d)else Z8
 |s=>s
def tJ:Rho->List Nat->List D->G->Option Rho
 |ρ,[],[],_=>Y ρ
 |ρ,i::is,d::ds,g=>tJ (ρ.set i<|Y<|mZ (gJ d g,d)) is ds g
 |_,_,_,_=>Z8
def gG:Tg->GD->Rho->Res Rho
 |.nm i,x,ρ=>.ok (ρ.set i<|Y<|mZ x)
 |.tp is,(g,.tuple ds),ρ=>Res.gF (tJ ρ is ds g)
 |_,_,_=>.no
def Ca:D->Res D
 |.str x=>if x.length<=LIM then .ok (.int x.length)else .no
 |.tuple xs=>.ok (.int xs.length)
 |.list xs=>.ok (.int xs.length)
 |.dict es=>.ok (.int es.length)
 |_=>.no
def cW:nc->D->D->Res D
 |.Add,.int a,.int b=>.ok (.int<|a+b)
 |.Add,.str a,.str b=>if a.length+b.length<=LIM then .ok (.str<|a++b)else .no
 |.Add,.list a,.list b=>if a.length+b.length<=LIM then .ok (.list<|a++b)else .no
 |.Add,.tuple a,.tuple b=>if a.length+b.length<=LIM then .ok (.tuple<|a++b)else .no
 |.Sub,.int a,.int b=>.ok (.int<|a-b)
 |.Mult,.int a,.int b=>if(-(2 ^ 64)<a/\a<2 ^ 64)\/(-(2 ^ 64)<b/\b<2 ^ 64)then .ok (.int<|a*b)else .no
 |.FloorDiv,.int a,.int b=>if 0<b/\b<2 ^ 200 then .ok (.int<|a/b)else .no
 |.Mod,.int a,.int b=>if 0<b then .ok (.int<|a%b)else .no
 |.Pow,.int a,.int b=>if 0<=b/\b<=1000/\a.natAbs<2 ^ 64 then .ok (.int<|a ^ b.toNat)else .no
 |_,_,_=>.no
def inD (x:D):D->Res Bool
 |.list xs=>if cO 40 x&&jP 40 xs then .ok (xs.any λy=>bX y x)else .no
 |.tuple xs=>if cO 40 x&&jP 40 xs then .ok (xs.any λy=>bX y x)else .no
 |.dict es=>if rV x then .ok (iA es x).isSome else .no
 |.str z=>match x with
  |.str w=>(match w[[]] with| [c]=>.ok (decide (c∈z[[]]))|_=>.no)
  |_=>.no
 |_=>.no
def cmpD:CmpOp->D->D->Res Bool
 |.Eq,x,y=>if cO 40 x&&cO 40 y then .ok (bX x y)else .no
 |.NotEq,x,y=>if cO 40 x&&cO 40 y then .ok (!bX x y)else .no
 |.Lt,.int a,.int b=>.ok (decide (a<b))
 |.LtE,.int a,.int b=>.ok (decide (a<=b))
 |.Gt,.int a,.int b=>.ok (decide (b<a))
 |.Lt,.str a,.str b=>.ok (decide (a[[]]<b[[]]))
 |.LtE,.str a,.str b=>.ok (!decide (b[[]]<a[[]]))
 |.Gt,.str a,.str b=>.ok (decide (b[[]]<a[[]]))
 |.In,x,y=>inD x y
 |.NotIn,x,y=>inD x y>>=λb=>.ok (!b)
 |_,_,_=>.no
def iC:D->D->Res D
 |.list xs,.int i=>Res.gF (cN xs i)
 |.tuple xs,.int i=>Res.gF (cN xs i)
 |.str z,.int i=>if z.length<=LIM then Res.gF ((cN z[[]] i).map λc=>.str {#[c]})else .no
 |.dict es,k=>if rV k then Res.gF (iA es k)else .no
 |_,_=>.no
def kW (z:U)(lo hi:Option Int):U:={(cut z[[]] lo hi).toArray}
def tL:D->Option Int->Option Int->Res D
 |.list xs,lo,hi=>.ok (.list<|cut xs lo hi)
 |.tuple xs,lo,hi=>if bC xs.length 0 lo=0/\bC xs.length xs.length hi=xs.length then .no else .ok (.tuple<|cut xs lo hi)
 |.str z,lo,hi=>if z.length<=LIM then .ok (.str<|kW z lo hi)else .no
 |_,_,_=>.no
def tM:D->Res (Option Int)
 |.int i=>.ok (Y i)
 |_=>.no
def z54:D->Res (List D)
 |.list xs=>.ok xs
 |.tuple xs=>.ok xs
 |.str z=>if z.length<=LIM then .ok (z[[]].map λc=>.str {#[c]})else .no
 |_=>.no
def allB:List D->Option (List Bool)
 | []=>Y []
 |.bool b::r=>(allB r).map (b:: ·)
 |_=>Z8
def fW:List D->Option (List U)
 | []=>Y []
 |.str b::r=>(fW r).map (b:: ·)
 |_=>Z8
def z6w:D->Res (Bool×List D)
 |.list xs=>.ok (J,xs)
 |.tuple xs=>.ok (Z6,xs)
 |_=>.no
def aggD (f:String)(l:Bool)(xs:List D):Res D:=
 if f="list"then .ok (.list xs)
 else if f="tuple"then .ok (.tuple xs)
 else if f="all"then(if l then Res.gF ((allB xs).map λbs=>.bool<|bs.all id)else .no)
 else .no
def nX (l:List Nat):Bool:=!l.isEmpty&&l.all λc=>decide (48<=c)&&decide (c<=57)
def iD (l:List Nat):Nat:=l.foldl (λn c=>n*10+(c-48)) 0
def qG (x:U):Res D:=if nX x[[]]&&decide (x.length<=600)then .ok (.int (iD x[[]]:Int))else .no
def qH (y:U):Option Nat:=match y[[]] with
 | [c]=>Y c
 |_=>Z8
def toS (l:List Nat):U:={(l.toArray)}
def aX (c:Nat):List Nat->List (List Nat)
 | []=>[[]]
 |a::r=>if a=c then[]::aX c r else(match aX c r with|h::t=>(a::h)::t| []=>[[a]])
def fG:D->D->Res D
 |.str x,.str y=>match qH y with
  |some c=>if decide (x.length<=LIM)then .ok (.list<|(aX c x[[]]).map λl=>.str<|toS l)else .no
  |none=>.no
 |_,_=>.no
def gP (f:String)(xs:List D):Res D:=
 if f="len"then(match xs with| [x]=>Ca x|_=>.no)
 else if f="max"then(match xs with| [.int a,.int b]=>.ok (.int<|max a b)|_=>.no)
 else if f="int"then(match xs with| [.int a]=>.ok (.int a)| [.bool b]=>.ok (.int (if b then 1 else 0))| [.str x]=>qG x|_=>.no)
 else if f="str"then(match xs with| [.int a]=>if a.natAbs.log2<1920 then .ok (.str<|toString a)else .no|_=>.no)
 else .no
def iE:D->String
 |.none=>"NoneType"|.bool _=>"bool"|.int _=>"int"|.str _=>"str"|.tuple _=>"tuple"|.list _=>"list"|.dict _=>"dict"
def jZ (t T:String):Bool:=t==T||(t=="bool"&&T=="int")
def eN (sep:List Nat):List U->List Nat
 | []=>[]
 |x::r=>x[[]]++(r.map λp=>sep++p[[]]).flatten
def z0u (sep:U)(xs:List U):U:={(eN sep[[]] xs).toArray}
def pJ (sep:U)(xs:List U):Nat:=(xs.map (·.length)).sum+xs.length*sep.length
def mtD (m:String)(o:D)(xs:List D):Res D:=
 if m="get"then(match o,xs with|.dict es,[k,d]=>if rV k then .ok ((iA es k).getD d)else .no|_,_=>.no)
 else if m="join"then(match o,xs with|.str z,[.list ys]=>(match fW ys with|some ss=>if pJ z ss<=LIM then .ok (.str<|z0u z ss)else .no|none=>.no)|_,_=>.no)
 else .no
def zu:D->Res D
 |.str z=>if z[[]].all (λc=>decide (97<=c)&&decide (c<=122))&&decide (z.length<=LIM)then .ok (.str {(z[[]].map (· -32)).toArray})else .no
 |_=>.no
def tN:D->Res D
 |.str z=>.ok (.bool (decide (z.length>0)&&z.cps.all Unicode.isDigit))
 |_=>.no
def lQ:List D->Res (List D)
 | [.int n]=>if n<=LIM/\-LIM<=n then .ok ((dz n.toNat).map λ(i:Nat)=>.int i)else .no
 |_=>.no
def z1e:Nat->List D->List D
 |_,[]=>[]
 |i,x::xs=>.tuple [.int i,x]::z1e (i+1) xs
def zipD:List D->List D->List D
 |x::xs,y::ys=>.tuple [x,y]::zipD xs ys
 |_,_=>[]
def seqR:D->Res (List D)
 |.list xs=>if decide (xs.length<=LIM)then .ok xs else .no
 |.tuple xs=>if decide (xs.length<=LIM)then .ok xs else .no
 |_=>.no
def oc:Option GD->List GD->List GD
 |some y,r=>y::r
 |none,r=>r
def lR (f:D->Res (Option GD)):List D->Res (List GD)
 | []=>.ok []
 |x::xs=>f x>>=λo=>lR f xs>>=λr=>.ok (oc o r)
variable (Κ:List D)(Φ:List Fn)
mutual
def aJ:C->Rho->Res GD
 |.var i,ρ=>tI ρ[i]?
 |.non,_=>.ok (.fr,.none)
 |.bl b,_=>.ok (.fr,.bool b)
 |.int i,_=>.ok (.fr,.int i)
 |.str x,_=>.ok (.fr,.str x)
 |.hD b _,_=>.ok (.fr,.bool b)
 |.glob k _,_=>match Κ[k]? with|some d=>if imm d then .ok (.fr,d)else .no|none=>.no
 |.bin op a b,ρ=>aJ a ρ>>=λx=>aJ b ρ>>=λy=>cW op x.2 y.2>>=λd=>.ok (gN d<|cP [x,y],d)
 |.neg a,ρ=>aJ a ρ>>=λx=>match x.2 with|.int i=>.ok (.fr,.int<|-i)|_=>.no
 |.cmp op a b,ρ=>aJ a ρ>>=λx=>aJ b ρ>>=λy=>cmpD op x.2 y.2>>=λb=>.ok (.fr,.bool b)
 |.chain op mY a b c,ρ=>aJ a ρ>>=λx=>aJ b ρ>>=λy=>cmpD op x.2 y.2>>=λk=>if k then aJ c ρ>>=λz=>cmpD mY y.2 z.2>>=λk'=>.ok (.fr,.bool k')else .ok (.fr,.bool Z6)
 |.nW ng a,ρ=>aJ a ρ>>=λx=>.ok (.fr,.bool (match x.2 with|.none=>!ng|_=>ng))
 |.and a b,ρ=>aJ a ρ>>=λx=>match x.2 with|.bool c=>if c then aJ b ρ else .ok (.fr,.bool Z6)|_=>.no
 |.or a b,ρ=>aJ a ρ>>=λx=>match x.2 with|.bool c=>if c then .ok (.fr,.bool J)else aJ b ρ|_=>.no
 |.not a,ρ=>aJ a ρ>>=λx=>hF x.2>>=λc=>.ok (.fr,.bool<|!c)
 |.tup xs,ρ=>dO xs ρ>>=λys=>.ok (gJ (.tuple (ys.map (·.2)))<|cP ys,.tuple (ys.map (·.2)))
 |.lst xs,ρ=>dO xs ρ>>=λys=>.ok (cP ys,.list (ys.map (·.2)))
 |.iB,_=>.ok (.fr,.dict [])
 |.ix a b,ρ=>aJ a ρ>>=λx=>aJ b ρ>>=λy=>iC x.2 y.2>>=λd=>.ok (gJ d x.1,d)
 |.sl a lo hi,ρ=>aJ a ρ>>=λx=>tO lo ρ>>=λl=>tO hi ρ>>=λh=>tL x.2 l h>>=λd=>.ok (gN d<|cP [x],d)
 |.call k _ args,ρ=>dO args ρ>>=λys=>match Φ[k]? with|some m=>m (ys.map (·.2))>>=λr=>.ok (gJ r.2<|jB r.1,r.2)|none=>.no
 |.bi f args,ρ=>dO args ρ>>=λys=>gP f (ys.map (·.2))>>=λd=>.ok (gJ d .al,d)
 |.pI f a,ρ=>Cb a ρ>>=λw=>aggD f w.2.1 w.2.2>>=λd=>.ok (gJ d (if imms w.2.2 then .fr else agG w.1),d)
 |.eI a ts,ρ=>aJ a ρ>>=λx=>.ok (.fr,.bool<|ts.any λT=>jZ (iE x.2) T)
 |.mt m o args,ρ=>aJ o ρ>>=λx=>dO args ρ>>=λys=>mtD m x.2 (ys.map (·.2))>>=λd=>.ok (gJ d .al,d)
 |.lP a b,ρ=>aJ a ρ>>=λx=>aJ b ρ>>=λy=>fG x.2 y.2>>=λd=>.ok (.fr,d)
 |.uQ a,ρ=>aJ a ρ>>=λx=>zu x.2>>=λd=>.ok (.fr,d)
 |.dig a,ρ=>aJ a ρ>>=λx=>tN x.2>>=λd=>.ok (.fr,d)
 |.comp nt js _ tg it cond elt,ρ=>evW it ρ>>=λw=>lR (λx=>gG tg (gJ x w.1,x) (bq nt Z8++js.map λj=>gO<|ρ.getD j Z8)>>=λρ1=>dP cond ρ1>>=λk=>if k then aJ elt ρ1>>=λy=>.ok (Y y)else .ok Z8) w.2>>=λys=>.ok (rW ys,.list (ys.map (·.2)))
 |_,_=>.no
def dP:C->Rho->Res Bool
 |.and a b,ρ=>dP a ρ>>=λc=>if c then dP b ρ else .ok Z6
 |.or a b,ρ=>dP a ρ>>=λc=>if c then .ok J else dP b ρ
 |.not a,ρ=>dP a ρ>>=λc=>.ok (!c)
 |.nil,_=>.ok J
 |.tv a,ρ=>aJ a ρ>>=λx=>hF x.2
 |_,_=>.no
def dO:C->Rho->Res (List GD)
 |.nil,_=>.ok []
 |.cons a r,ρ=>aJ a ρ>>=λx=>dO r ρ>>=λxs=>.ok (x::xs)
 |_,_=>.no
def tO:C->Rho->Res (Option Int)
 |.nil,_=>.ok Z8
 |.tv a,ρ=>aJ a ρ>>=λx=>tM x.2
 |_,_=>.no
def Cb:C->Rho->Res (G×Bool×List D)
 |.tv a,ρ=>aJ a ρ>>=λx=>z6w x.2>>=λp=>.ok (x.1,p)
 |_,_=>.no
def evW:C->Rho->Res (G×List D)
 |.gM args,ρ=>dO args ρ>>=λys=>lQ (ys.map (·.2))>>=λxs=>.ok (.fr,xs)
 |.tv a,ρ=>aJ a ρ>>=λx=>z54 x.2>>=λxs=>.ok (x.1,xs)
 |.enum a,ρ=>aJ a ρ>>=λx=>seqR x.2>>=λxs=>.ok (.al,z1e 0 xs)
 |.zip a b,ρ=>aJ a ρ>>=λx=>aJ b ρ>>=λy=>seqR x.2>>=λxs=>seqR y.2>>=λys=>.ok (.al,zipD xs ys)
 |_,_=>.no
end
def lT:Res Out->(Rho->Res Out)->Res Out
 |.ok (.nx ρ),k=>k ρ
 |r,_=>r
def cQ (f:D->Rho->Res Out):List D->Rho->Res Out
 | [],ρ=>.ok (.nx ρ)
 |x::xs,ρ=>match f x ρ with
  |.ok (.nx bQ)=>cQ f xs bQ
  |.ok (.ct bQ)=>cQ f xs bQ
  |.ok (.bk bQ)=>.ok (.nx bQ)
  |.ok (.rt g d)=>.ok (.rt g d)
  |.exc e=>.exc e
  |.no=>.no
def rX (c:Rho->Res Bool)(f:Rho->Res Out):Nat->Rho->Res Out
 |0,_=>.no
 |n+1,ρ=>c ρ>>=λk=>if k then(match f ρ with
  |.ok (.nx bQ)=>rX c f n bQ
  |.ok (.ct bQ)=>rX c f n bQ
  |.ok (.bk bQ)=>.ok (.nx bQ)
  |.ok (.rt g d)=>.ok (.rt g d)
  |.exc e=>.exc e
  |.no=>.no)else .ok (.nx ρ)
def putAt (xs:List D)(ys:List GD):Res (List D):=match ys with
 | [x,y]=>(match x.2 with
  |.int i=>if okIn y&&decide (xs.length<LIM)&&decide (0<=i)&&decide (i<=xs.length)then .ok (xs.take i.toNat++y.2::xs.drop i.toNat)else .no
  |_=>.no)
 |_=>.no
def nY (m:String)(xs:List D)(ys:List GD):Res (List D):=
 if m="append"then(match ys with| [y]=>if okIn y&&decide (xs.length<LIM)then .ok (xs++[y.2])else .no|_=>.no)
 else .no
def lU (ρ:Rho)(i:Nat):Bool:=match ρ[i]? with
 |some (Y (.fr,_))=>J
 |_=>Z6
def zv (i:Nat)(ρ:Rho):Res (G×List D×Rho):=match ρ[i]? with
 |some (Y (.fr,d))=>z54 d>>=λxs=>.ok (.al,xs,ρ.set i<|Y (.al,d))
 |_=>.no
def Cc:Option GD->Option GD
 |some (.fr,.list xs)=>Y (.al,.list xs)
 |s=>s
def nZ (x:GD)(ρ:Rho):Res (G×List D×Rho):=match x.2 with
 |.list xs=>if imms xs then .ok (.al,xs,ρ.map Cc)else .no
 |_=>.no
def oA (x:GD):Bool:=match x.2 with
 |.list _=>!(x.1==.al)
 |d=>!(x.1==.al)||imm d
def qI (ys:List GD)(ρ:Rho):Res (G×List D×Rho):=match ys with
 | [x]=>if oA x then seqR x.2>>=λxs=>.ok (.al,z1e 0 xs,ρ)else .no
 |_=>.no
def lV (ys:List GD)(ρ:Rho):Res (G×List D×Rho):=match ys with
 | [x,y]=>if oA x&&oA y then seqR x.2>>=λxs=>seqR y.2>>=λzs=>.ok (.al,zipD xs zs,ρ)else .no
 |_=>.no
def lW (it:C)(ρ:Rho):Bool:=match evW Κ Φ it ρ with
 |.ok w=>w.1==.al
 |_=>Z6
def rY (it:C)(ρ:Rho):Res (G×List D×Rho):=evW Κ Φ it ρ>>=λw=>if w.1==.al then .no else .ok (w.1,w.2,ρ)
def evF (it:C)(ρ:Rho):Res (G×List D×Rho):=match it with
 |.tv (.var i)=>if lU ρ i then zv i ρ else if lW Κ Φ it ρ then aJ Κ Φ (.var i) ρ>>=λx=>nZ x ρ else rY Κ Φ it ρ
 |.tv a=>if lW Κ Φ it ρ then aJ Κ Φ a ρ>>=λx=>nZ x ρ else rY Κ Φ it ρ
 |.enum a=>dO Κ Φ (.cons a .nil) ρ>>=λys=>qI ys ρ
 |.zip a b=>dO Κ Φ (.cons a<|.cons b .nil) ρ>>=λys=>lV ys ρ
 |it=>rY Κ Φ it ρ
def qJ (i:Nat)(m:Fn)(ρ:Rho):Res Out:=match ρ[i]? with
 |some (Y (.fr,.list xs))=>if imms xs then(match m [.list xs]with
  |.ok (_,.list ys)=>if imms ys then .ok (.nx<|ρ.set i<|Y (.fr,.list ys))else .no
  |_=>.no)else .no
 |_=>.no
def excOf:Res GD->Option U
 |.exc (.str c)=>Y c
 |_=>Z8
def nB (xs:List D):Option D:=match xs.getLast? with
 |some d=>if imm d then Y d else Z8
 |none=>Z8
def wI:Option GD->Option GD
 |some (.fr,d)=>Y (.nu,d)
 |s=>s
def aH:S->Rho->Res Out
 |.nil,ρ=>.ok (.nx ρ)
 |.seq a b,ρ=>lT (aH a ρ) (aH b)
 |.bad,_=>.no
 |.asg (.nm i) e,ρ=>aJ Κ Φ e ρ>>=λx=>.ok (.nx<|ρ.set i<|Y<|z1v x)
 |.asg t e,ρ=>aJ Κ Φ e ρ>>=λx=>gG t x ρ>>=λbQ=>.ok (.nx bQ)
 |.mut m i args,ρ=>dO Κ Φ args ρ>>=λys=>match ρ[i]? with
  |some (Y (.fr,.list xs))=>nY m xs ys>>=λCd=>.ok (.nx<|(ρ.set i<|Y (.fr,.list Cd)).map z0h)
  |_=>.no
 |.ret e,ρ=>match e with
  |.var i=>match ρ[i]? with
   |some (Y (g,d))=>.ok (.rt (if imm d then .fr else jB g) d)
   |_=>.no
  |e=>aJ Κ Φ e ρ>>=λx=>.ok (.rt (jB x.1) x.2)
 |.bW c a b,ρ=>dP Κ Φ c ρ>>=λk=>if k then aH a ρ else aH b ρ
 |.cV t it b,ρ=>evF Κ Φ it ρ>>=λw=>cQ (λx ρ1=>gG t (gJ x w.1,x) ρ1>>=λkY=>aH b kY) w.2.1 w.2.2
 |.wh n c b,ρ=>rX (dP Κ Φ c) (aH b) n ρ
 |.cnt,ρ=>.ok (.ct ρ)
 |.uR j i,ρ=>match Φ[j]? with
  |some m=>qJ i m ρ
  |none=>.no
 |.pop j i,ρ=>match ρ[i]? with
  |some (Y (.fr,.list xs))=>(match nB xs with
   |some d=>.ok (.nx<|((ρ.set i<|Y (.fr,.list xs.dropLast)).map z0h).set j<|Y (.al,d))
   |none=>.no)
  |_=>.no
 |.pap i a r,ρ=>aJ Κ Φ a ρ>>=λx=>match ρ[i]? with
  |some (Y (.fr,.list xs))=>(match nB xs with
   |some d=>dO Κ Φ r ((ρ.set i<|Y (.fr,.list xs.dropLast)).map z0h)>>=λzs=>if imm x.2&&imms (zs.map (·.2))&&decide (xs.length<=LIM)then .ok (.nx ((((ρ.set i<|Y (.fr,.list xs.dropLast)).map z0h).set i (Y (.fr,.list (xs.dropLast++[.tuple (x.2::d::zs.map (·.2))])))).map z0h))else .no
   |none=>.no)
  |_=>.no
def OI (Κ:List D)(Φ:List Fn)(_:S)(_:Rho):Option U:=Z8
def aZ (n:Nat)(s:S)(ds:List D):Res GD:=match aH Κ Φ s (ds.map (λd=>Y (.od,d))++bq (n-ds.length) Z8)with
 |.ok (.nx _)=>.ok (.fr,.none)
 |.ok (.rt g d)=>.ok (g,d)
 |.ok _=>.no
 |_=>match OI Κ Φ s (ds.map (λd=>Y (.od,d))++bq (n-ds.length) Z8)with
  |some c=>.exc (.str c)
  |none=>.no
end
open PySem.Spec PyProof.Rows L2
def kD:Key->D
 |.inl i=>.int i
 |.inr x=>.str x
def keyOk:Key->Prop
 |.inl _=>True
 |.inr x=>ZY x=J
def KL (K:Z5)(a:Addr)(xs:List V):Prop:=∃(o:Obj) (dV:Array Value) (n:Nat),K.lookup a=Y o/\o.cls=.type "list"/\o.dict=Z8/\o.data=.seq dV n/\dV.size<=aw/\Vals xs dV.toList
abbrev Ad:=Option Addr
def FL (K:Z5)(H:Hp)(a:Addr)(xs:List V):Prop:=(∃o,H a=Y (.gL o<|.lst xs))\/KL K a xs
def nw (H:Hp):Ad->Prop
 |some a=>H a=Z8
 |none=>False
section
variable (K:Z5)(H:Hp)(B:Ad->Prop)
mutual
def Rep:V->ae->Prop
 |v,.none=>v=.non
 |v,.bool b=>v=.bl b
 |v,.int i=>v=.int i
 |v,.str x=>v=.str x/\ZY x=J
 |v,.tuple ds=>∃a vs,v=.ref a/\dC K H a vs/\Reps vs ds
 |v,.list ds=>∃a vs,v=.ref a/\((H a=Y (.lst vs)/\B (Y a))\/(FL K H a vs/\B Z8))/\Reps vs ds
 |v,.dict es=>∃a kvs,v=.ref a/\H a=Y (.dK kvs)/\B (Y a)/\bV kvs es
def Reps:List V->List ae->Prop
 |vs,[]=>vs=[]
 |vs,d::ds=>∃v r,vs=v::r/\Rep v d/\Reps r ds
def bV:List (Key×V)->List (ae×ae)->Prop
 |kvs,[]=>kvs=[]
 |kvs,(kd,d)::es=>∃k v r,kvs=(k,v)::r/\kd=kD k/\keyOk k/\Rep v d/\bV r es
end
end
def Fix:HO->Prop
 |.tup _=>True
 |.gL _ (.lst _)=>True
 |.gL _ (.tup _)=>True
 |_=>False
section
variable {K:Z5}{H H':Hp}{B B':Ad->Prop}
def FL.keep (b:∀a o,H a=Y o->(B (Y a)\/Fix o)->H' a=Y o)(r:FL K H a c):FL K H' a c:=by
 rcases r with⟨o,r⟩|r
 .exact .inl {o,b a _ r<|.inr True.intro}
 .exact .inr r
def _root_.L2.dC.keep (b:∀a o,H a=Y o->(B (Y a)\/Fix o)->H' a=Y o)(r:dC K H a c):dC K H' a c:=by
 rcases r with(r|⟨o,r⟩)|r
 .exact .inl (.inl<|b a _ r<|.inr True.intro)
 .exact .inl (.inr {o,b a _ r<|.inr True.intro})
 .exact .inr r
mutual
theorem Rep.keep (hH:∀a o,H a=Y o->(B (Y a)\/Fix o)->H' a=Y o)(hB:∀a,B a->B' a):∀{v:V} (d:ae),Rep K H B v d->Rep K H' B' v d
 |v,.none,r=>r
 |v,.bool b,r=>r
 |v,.int i,r=>r
 |v,.str x,r=>r
 |v,.tuple ds,r=>by let{a,vs,e,h,q}:=r;exact{a,vs,e,h.keep hH,Reps.keep hH hB ds q}
 |v,.list ds,r=>by
  let{a,vs,e,h,q}:=r;refine{a,vs,e,?_,Reps.keep hH hB ds q};rcases h with⟨h,b⟩|h
  .exact .inl {hH a _ h<|.inl b,hB _ b}
  .exact .inr {FL.keep hH h.1,hB _ h.2}
 |v,.dict es,r=>by let{a,kvs,e,h,b,q}:=r;exact{a,kvs,e,hH a _ h<|.inl b,hB _ b,bV.keep hH hB es q}
theorem Reps.keep (hH:∀a o,H a=Y o->(B (Y a)\/Fix o)->H' a=Y o)(hB:∀a,B a->B' a):∀{vs:List V} (ds:List ae),Reps K H B vs ds->Reps K H' B' vs ds
 |vs,[],r=>r
 |vs,d::ds,r=>by let{v,t,e,h,q}:=r;exact{v,t,e,Rep.keep hH hB d h,Reps.keep hH hB ds q}
theorem bV.keep (hH:∀a o,H a=Y o->(B (Y a)\/Fix o)->H' a=Y o)(hB:∀a,B a->B' a):∀{kvs:List<|Key×V} (es:List<|ae×ae),bV K H B kvs es->bV K H' B' kvs es
 |kvs,[],r=>r
 |kvs,(kd,d)::es,r=>by let{k,v,t,e,e2,ok,h,q}:=r;exact{k,v,t,e,e2,ok,Rep.keep hH hB d h,bV.keep hH hB es q}
end
theorem Rep.same (s:Same H H')(b:∀a,B a->B' a)(r:Rep K H B v d):Rep K H' B' v d:=Rep.keep (λa o e _=>s a o e) b d r
theorem Reps.same (s:Same H H')(b:∀a,B a->B' a)(r:Reps K H B c ds):Reps K H' B' c ds:=Reps.keep (λa o e _=>s a o e) b ds r
theorem bV.same (s:Same H H')(b:∀a,B a->B' a)(r:bV K H B c ds):bV K H' B' c ds:=bV.keep (λa o e _=>s a o e) b ds r
theorem Rep.weak (b:∀a,B a->B' a)(r:Rep K H B v d):Rep K H B' v d:=r.same (λ_ _ e=>e) b
theorem Reps.weak (b:∀a,B a->B' a)(r:Reps K H B v d):Reps K H B' v d:=r.same (λ_ _ e=>e) b
mutual
theorem Rep.bS:∀{v:V} (d:ae),imm d=J->Rep K H B v d->Rep K H B' v d
 |v,.none,_,r=>r
 |v,.bool b,_,r=>r
 |v,.int i,_,r=>r
 |v,.str x,_,r=>r
 |v,.tuple ds,i,r=>by let{a,vs,e,h,q}:=r;exact{a,vs,e,h,Reps.bS ds (i) q}
 |v,.list ds,i,r=>by cases(show Z6=J from i)
 |v,.dict es,i,r=>by cases(show Z6=J from i)
theorem Reps.bS:∀{vs:List V} (ds:List ae),imms ds=J->Reps K H B vs ds->Reps K H B' vs ds
 |vs,[],_,r=>r
 |vs,d::ds,i,r=>by have i:=av.mp (show(imm d&&imms ds)=J from i);let{v,t,e,h,q}:=r;exact{v,t,e,Rep.bS d i.1 h,Reps.bS ds i.2 q}
end
mutual
theorem Rep.cC (hH:∀a o,H a=Y o->Fix o->H' a=Y o):∀{v:V} (d:ae),imm d=J->Rep K H B v d->Rep K H' B' v d
 |v,.none,_,r=>r
 |v,.bool b,_,r=>r
 |v,.int i,_,r=>r
 |v,.str x,_,r=>r
 |v,.tuple ds,i,r=>by let{a,vs,e,h,q}:=r;exact{a,vs,e,h.keep (B:=λ_=>False)<|λa o e f=>hH a o e<|f.resolve_left id,Reps.cC hH ds (i) q}
 |v,.list ds,i,r=>by cases(show Z6=J from i)
 |v,.dict es,i,r=>by cases(show Z6=J from i)
theorem Reps.cC (hH:∀a o,H a=Y o->Fix o->H' a=Y o):∀{vs:List V} (ds:List ae),imms ds=J->Reps K H B vs ds->Reps K H' B' vs ds
 |vs,[],_,r=>r
 |vs,d::ds,i,r=>by have i:=av.mp (show(imm d&&imms ds)=J from i);let{v,t,e,h,q}:=r;exact{v,t,e,Rep.cC hH d i.1 h,Reps.cC hH ds i.2 q}
end
theorem Reps.length:∀{vs:List V} {ds:List D},Reps K H B vs ds->vs.length=ds.length
 |vs,[],r=>by have e:vs=[]:=r;subst e;rfl
 |vs,d::ds,r=>by let{v,t,rfl,h,q}:=r;rw[ay,ay,q.length]
theorem Reps.get:∀{vs:List V} {ds:List D} {i:Nat} {d:D},Reps K H B vs ds->ds[i]?=Y d->∃v,vs[i]?=Y v/\Rep K H B v d
 |vs,[],i,d,r,e=>by simp at e
 |vs,d0::ds,0,d,r,e=>by
  let{v,t,rfl,h,q}:=r;have:d0=d:=by simpa using e
  subst this;exact{(v),rfl,h}
 |vs,d0::ds,i+1,d,r,e=>by let{v,t,rfl,h,q}:=r;let{u,h1,h2}:=q.get (by simpa using e);exact{u,by simpa using h1,h2}
theorem Reps.lX:∀{a:List V} {b:List D} {i:Nat} {v:V},Reps K H B a b->a[i]?=Y v->∃d,b[i]?=Y d/\Rep K H B v d
 |a,[],i,v,r,e=>by have c:a=[]:=r;subst c;simp at e
 |a,d0::b,0,v,r,e=>by
  let{u,t,rfl,h,q}:=r;have:u=v:=by simpa using e
  subst this;exact{d0,rfl,(h)}
 |a,d0::b,i+1,v,r,e=>by let{u,t,rfl,h,q}:=r;let{d,f,g}:=q.lX (by simpa using e);exact{d,by simpa using f,g}
theorem Reps.cons {v:V}{d:D}{vs:List V}{ds:List D}(h:Rep K H B v d)(r:Reps K H B vs ds):Reps K H B (v::vs) (d::ds):={(v),vs,rfl,h,r}
theorem Reps.append:∀{vs ws:List V} {ds es:List D},Reps K H B vs ds->Reps K H B ws es->Reps K H B (vs++ws) (ds++es)
 |vs,ws,[],es,r,q=>by have e:vs=[]:=r;subst e;exact q
 |vs,ws,d::ds,es,r,q=>by let{v,t,rfl,h,p}:=r;exact{v,t++ws,rfl,h,p.append q}
theorem Reps.take:∀{a:List V} {b:List D} n,Reps K H B a b->Reps K H B (a.take n) (b.take n)
 |a,b,0,r=>by rw[List.take_zero];exact rfl
 |a,[],n+1,r=>by have e:a=[]:=r;subst e;exact rfl
 |a,d::b,n+1,r=>by let{v,t,rfl,h,p}:=r;exact{v,t.take n,rfl,h,p.take n}
theorem Reps.drop:∀{vs:List V} {ds:List D} n,Reps K H B vs ds->Reps K H B (vs.drop n) (ds.drop n)
 |vs,ds,0,r=>r
 |vs,[],n+1,r=>by have e:vs=[]:=r;subst e;exact rfl
 |vs,d::ds,n+1,r=>by let{v,t,rfl,h,p}:=r;exact p.drop n
theorem Reps.set (h:Rep K H B v d):∀{a:List V} {b:List D} n,Reps K H B a b->Reps K H B (a.set n v) (b.set n d)
 |a,[],n,r=>by have e:a=[]:=r;subst e;exact rfl
 |a,d::b,0,r=>by let{u,t,rfl,_,p}:=r;exact{_,_,rfl,h,p}
 |a,d::b,n+1,r=>by let{u,t,rfl,h0,p}:=r;exact{_,_,rfl,h0,p.set h n}
mutual
theorem Rep.there:∀{v:V} (d:ae),Rep K H B v d->Rep K H (λa=>B a/\¬nw H a) v d
 |v,.none,r=>r
 |v,.bool b,r=>r
 |v,.int i,r=>r
 |v,.str x,r=>r
 |v,.tuple ds,r=>by let{a,vs,e,h,q}:=r;exact{a,vs,e,h,Reps.there ds q}
 |v,.list ds,r=>by
  let{a,vs,e,h,q}:=r;refine{a,vs,e,?_,Reps.there ds q};rcases h with⟨h,b⟩|h
  .refine .inl {h,b,λz=>?_};have z':H a=none:=z;rw[h]at z';ext z'
  .exact .inr {h.1,h.2,λz=>z}
 |v,.dict es,r=>by let{a,kvs,e,h,b,q}:=r;exact{a,kvs,e,h,{b,λz=>by have z':H a=none:=z;rw[h]at z';ext z'},bV.there es q}
theorem Reps.there:∀{vs:List V} (ds:List ae),Reps K H B vs ds->Reps K H (λa=>B a/\¬nw H a) vs ds
 |vs,[],r=>r
 |vs,d::ds,r=>by let{v,t,e,h,q}:=r;exact{v,t,e,Rep.there d h,Reps.there ds q}
theorem bV.there:∀{kvs:List<|Key×V} (es:List<|ae×ae),bV K H B kvs es->bV K H (λa=>B a/\¬nw H a) kvs es
 |kvs,[],r=>r
 |kvs,(kd,d)::es,r=>by let{k,v,t,e,e2,ok,h,q}:=r;exact{k,v,t,e,e2,ok,Rep.there d h,bV.there es q}
end
end
structure Fm where
 H0:Hp
 V:Addr->Prop
 O:Addr->Option Nat
 z:Prop
def Bin (F:Fm):Ad->Prop
 |some a=>F.O a=Z8/\F.H0 a=Z8/\F.V a
 |none=>False
def cB (F:Fm):Ad->Prop
 |some a=>F.V a
 |none=>F.z
def gQ (F:Fm):Ad->Prop
 |some a=>F.H0 a≠Z8/\F.V a
 |none=>F.z
def Slot (K:Z5)(F:Fm)(H:Hp)(i:Nat):G->V->D->Prop
 |.fr,v,d=>∃p,v=.ref p/\F.O p=Y i/\((∃vs ds,d=.list ds/\H p=Y (.lst vs)/\Reps K H (Bin F) vs ds)\/(∃kvs es,d=.dict es/\H p=Y (.dK kvs)/\bV K H (Bin F) kvs es))
 |.od,v,d=>Rep K H (gQ F) v d
 |.al,v,d=>Rep K H (cB F) v d
 |.nu,v,d=>Rep K H (Bin F) v d
structure StOk (K:Z5)(F:Fm)(H:Hp)(σ:L2.St)(ρ:Rho):Prop where
 ext:Same F.H0 H
 aU:∀a,H a=Z8->F.V a
 own:∀a i,F.O a=Y i->F.H0 a=Z8/\F.V a/\((∃xs,H a=Y (.lst xs))\/∃kvs,H a=Y (.dK kvs))
 len:σ.length=ρ.length
 sl:∀i g d,ρ[i]?=Y (Y (g,d))->∃v,σ[i]?=Y (Y v)/\Slot K F H i g v d
def BG (F:Fm)(H:Hp):G->Ad->Prop
 |.fr=>nw H
 |.od=>gQ F
 |.al=>cB F
 |.nu=>λa=>nw H a\/Bin F a
section
variable {K:Z5}{F:Fm}{H H':Hp}{σ:L2.St}{ρ:Rho}
def Slot.same (s:Same H H')(h:Slot K F H i g v d):Slot K F H' i g v d:=by
 cases g with
 |fr=>
  let{p,e,o,h}:=h;refine{p,e,o,?_};rcases h with⟨a,c,f,j,r⟩|⟨a,c,f,j,r⟩
  .exact .inl {a,c,f,s _ _ j,r.same s λ_ b=>b}
  .exact .inr {a,c,f,s _ _ j,r.same s λ_ b=>b}
 |od=>exact Rep.same s (λ_ b=>b) h
 |al=>exact Rep.same s (λ_ b=>b) h
 |nu=>exact Rep.same s (λ_ b=>b) h
def _root_.L2.Same.none (s:Same H H')(h:H' a=Z8):H a=none:=by
 cases e:H a with
 |none=>rfl
 |some o=>rw[s a o e]at h;ext h
theorem StOk.same (s:Same H H')(h:StOk K F H σ ρ):StOk K F H' σ ρ where
 ext:=λa o e=>s a o (h.ext a o e)
 aU:=λa e=>h.aU a (s.none e)
 own:=λa i e=>by
  let{c,j,b}:=h.own a i e;refine{c,j,?_};rcases b with⟨f,b⟩|⟨f,b⟩
  .exact .inl {f,s _ _ b}
  .exact .inr {f,s _ _ b}
 len:=h.len
 sl:=λi g d e=>by let{v,c,b}:=h.sl i g d e;exact{v,c,b.same s}
def nw.back (s:Same H H')(h:nw H' a):nw H a:=by
 cases a with
 |none=>exact h
 |some a=>exact s.none h
def nw.aU (b:∀a,H a=Z8->F.V a)(h:nw H a):cB F a:=by
 cases a with
 |none=>exact h.elim
 |some a=>exact b a h
def gQ.aU (h:gQ F a):cB F a:=by
 cases a with
 |none=>exact h
 |some a=>exact h.2
def Bin.aU (h:Bin F a):cB F a:=by
 cases a with
 |none=>exact h.elim
 |some a=>exact h.2.2
def BG.back (s:Same H H')(h:BG F H' g a):BG F H g a:=by
 cases g with
 |fr=>exact nw.back s h
 |od=>exact h
 |al=>exact h
 |nu=>exact h.elim (λh=>.inl<|nw.back s h) .inr
def BG.aU (b:∀a,H a=Z8->F.V a)(h:BG F H g a):cB F a:=by
 cases g with
 |fr=>exact nw.aU b h
 |od=>exact gQ.aU h
 |al=>exact h
 |nu=>exact h.elim (nw.aU b) Bin.aU
def Slot.rep (so:∀a i,F.O a=Y i->F.V a)(h:Slot K F H i g v d):Rep K H (cB F) v d:=by
 cases g with
 |fr=>
  let{p,e,o,h}:=h;rcases h with⟨c,j,rfl,f,r⟩|⟨c,j,rfl,f,r⟩
  .exact{p,c,e,.inl {f,so _ _ o},r.weak λ_ b=>b.aU}
  .exact{p,c,e,f,so _ _ o,bV.same (λ_ _ e=>e) (λ_ b=>b.aU) r}
 |od=>exact Rep.weak (λ_ b=>b.aU) h
 |al=>exact h
 |nu=>exact Rep.weak (λ_ b=>Bin.aU b) h
theorem StOk.j' (h:StOk K F H σ ρ):∀a i,F.O a=Y i->F.V a:=λa i e=>(h.own a i e).2.1
def StOk.rd (h:StOk K F H σ ρ){i:Nat}(e:tI ρ[i]?=.ok x):∃v,σ[i]?=Y (Y v)/\Rep K H (BG F H x.1) v x.2:=by
 cases c:ρ[i]? with
 |none=>rw[c]at e;ext e
 |some o=>
  cases o with
  |none=>rw[c]at e;ext e
  |some gd=>
   let{g,d}:=gd;rw[c]at e;let{v,j,a}:=h.sl i g d c;have k:=(Res.ok.inj e).symm;subst k;refine{v,j,?_};by_cases f:imm d=J
   .show Rep K H (BG F H (if imm d=J then _ else _)) v d;exact Rep.bS d f (a.rep h.j')
   .show Rep K H (BG F H (if imm d=J then _ else _)) v d;rw[qr f];cases g with
    |fr=>exact a.rep h.j'
    |od=>exact a
    |al=>exact a
    |nu=>exact Rep.weak (λ_ b=>.inr b) a
end
structure Gm where
 N:List U
 sc:Scope
 blk:Bool:=Z6
 free:List U
 fns:List (U×Nat)
 cst:List U
 cm:Bool:=J
 xc:Option (U×U):=Z8
 sub:List (U×U×Bool):=[]
 rs:List U:=[]
 gH:List (U×U):=[]
section
variable (Γ:Gm)
def gR (i:Nat)(x:U):Bool:=(Γ.N[i]?==Y x)&&(Γ.sc.names.lookup x==Y .local||Γ.sc.names.lookup x==Y .cell||Γ.sc.names.lookup x==Y .free)&& !(x==("__debug__":U))&& !(x==("__classdict__":U))
def lY (x:U):Bool:=(Γ.sc.names.lookup x==Y .globalImplicit)&& !(x==("__debug__":U))
def dW (x:U):Bool:=lY Γ x&&Γ.free.contains x&& !(x==("__name__":U))
def jC (i:Nat)(x:U):Bool:=(Γ.N[i]?==Y x)&&(Γ.sc.names.lookup x==Y .local||(!Γ.blk&&Γ.sc.names.lookup x==Y .cell))
end
def tgIx:Tg->List Nat
 |.nm i=>[i]
 |.tp is=>is
def Ce (scope sc:Scope):Scope:={scope with names:=scope.names.map λ(n,k)=>if(k==.free&&sc.kind==.function&&sc.names.lookup n==Y .cell)then(n,.cell)else(n,k)}
def plainT:Expr->Bool
 |.UnaryOp .Not _ _=>Z6
 |.BoolOp _ _ _=>Z6
 |.IfExp _ _ _ _=>Z6
 |.Compare _ _ _ _=>Z6
 |_=>J
def Hf:Expr->Bool
 |.Compare _ _ _ _=>J
 |_=>Z6
def z67:Expr->Bool
 |.Slice _ _ _ _=>Z6
 |_=>J
def z0n:Expr->Bool
 |.Call (.Name _ _) [] [] _=>Z6
 |_=>J
def uS:Expr->Bool
 |.Set _ _ _=>Z6
 |_=>J
def isTup:Expr->Bool
 |.Tuple _ _ _=>J
 |_=>Z6
def Cf:Expr->Option U
 |.Name x _=>Y x
 |_=>Z8
def kA:Expr->Option Const
 |.Constant v _ _=>Y v
 |_=>Z8
def tP:Expr->Option (Expr×nc×Expr)
 |.BinOp l o r _=>Y (l,o,r)
 |_=>Z8
def wJ:Expr->Option (UnaryOp×Expr)
 |.UnaryOp o x _=>Y (o,x)
 |_=>Z8
def tQ:Expr->Option (Expr×List CmpOp×List Expr)
 |.Compare l o r _=>Y (l,o,r)
 |_=>Z8
def uT:Expr->Option (BoolOp×List Expr×Pos)
 |.BoolOp o xs p=>Y (o,xs,p)
 |_=>Z8
def wK:Expr->Option (Expr×Expr×Expr)
 |.IfExp t x y _=>Y (t,x,y)
 |_=>Z8
def oB:Expr->Option (List Expr)
 |.Tuple es _ _=>Y es
 |_=>Z8
def tR:Expr->Option (List Expr)
 |.List es _=>Y es
 |_=>Z8
def Cg:Expr->Option (List (Option Expr)×List Expr)
 |.Dict k v _=>Y (k,v)
 |_=>Z8
def oE:Expr->Option (Expr×Expr)
 |.Subscript x i _=>Y (x,i)
 |_=>Z8
def wL:Expr->Option (Option Expr×Option Expr×Option Expr)
 |.Slice l h s _=>Y (l,h,s)
 |_=>Z8
def Ci:Expr->Option (Expr×List Expr×List k4×Pos)
 |.Call f es k p=>Y (f,es,k,p)
 |_=>Z8
def uU:Expr->Option (Expr×U×Pos)
 |.Attribute x n p=>Y (x,n,p)
 |_=>Z8
def Hg:Expr->Option (Expr×List Comprehension×Scope)
 |.ListComp el gs s _=>Y (el,gs,s)
 |_=>Z8
def bT {α:Type}:List α->Option α
 | [x]=>Y x
 |_=>Z8
def oF {α:Type}:List α->Option (α×α)
 | [x,y]=>Y (x,y)
 |_=>Z8
def jQ (e:Expr):Option (U×List Expr):=(Ci e).bind λv=>if v.2.2.1.isEmpty then(Cf v.1).map λx=>(x,v.2.1)else Z8
def lZ (e:Expr):Option (Expr×U×List Expr×Bool):=(Ci e).bind λv=>if v.2.2.1.isEmpty then(uU v.1).map λu=>(u.1,u.2.1,v.2.1,u.2.2.endLine==v.2.2.2.line)else Z8
def uV (f g:Expr->Bool)(o:BoolOp)(p:Pos):List Expr->Bool
 |x::y::r=>f x&&(if r.isEmpty then g y else g<|.BoolOp o (y::r) p)
 |_=>Z6
def wM (n:Bool)(f:Expr->Bool):List Expr->Bool
 | []=>n
 |t::r=>r.isEmpty&&f t
def wN:C->Bool
 |.nil=>J
 |_=>Z6
def hG (f:U->Bool)(e:Expr):Bool:=(Cf e).any f
def Cj (Γ:Gm):List Nat->List Expr->Bool
 | [],es=>es.isEmpty
 |i::is,es=>match es with|e::es=>hG (jC Γ i) e&&Cj Γ is es| []=>Z6
def tS (Γ:Gm):Tg->Expr->Bool
 |.nm i,e=>hG (jC Γ i) e
 |.tp is,e=>Γ.cm&&(oB e).any (Cj Γ is)
def zw:nc->Bool
 |.Add|.Sub|.Mult|.FloorDiv|.Mod|.Pow=>J
 |_=>Z6
def z2n:CmpOp->Bool
 |.Is|.IsNot|.GtE=>Z6
 |_=>J
def Ck (T:String):Bool:=tysB.contains T
def tyB (Γ:Gm)(T:String)(t:Expr):Bool:=hG (λx=>(x==Str.ofString T)&&dW Γ x&&Ck T) t
def wO:List String:=["tuple","all"]
def OJ:Tg->Bool
 |.nm _=>J
 |.tp _=>Z6
def isNm:Expr->Bool
 |.Name _ _=>J
 |_=>Z6
def zx:C->Expr->Bool
 |.enum _,e=>isTup e
 |.zip _ _,e=>isTup e||isNm e
 |_,_=>J
def tT (f:Expr->Bool)(e:Expr):Bool:=(lZ e).any λm=>f m.1&&(m.2.1==("pop":U))&&m.2.2.1.isEmpty&&m.2.2.2
def Cm (f g:Expr->Bool)(h:List Expr->Bool):List Expr->Bool
 |a::b::l=>f a&&g b&&h l
 |_=>Z6
mutual
def chkE (Γ:Gm):C->Expr->Bool
 |.var i,e=>hG (gR Γ i) e
 |.non,e=>decide (kA e=Y .none)
 |.bl b,e=>decide (kA e=Y (.bool b))
 |.int i,e=>decide (kA e=Y (.int i))
 |.str x,e=>decide (kA e=Y (.str x))&&ZY x
 |.glob k x,e=>hG (λy=>(x==y)&&lY Γ x&&(Γ.cst[k]?==Y x)) e
 |.bin op a b,e=>(tP e).any λv=>decide (op=v.2.1)&&zw op&&chkE Γ a v.1&&chkE Γ b v.2.2
 |.neg a,e=>(wJ e).any λv=>decide (v.1=.USub)&&chkE Γ a v.2
 |.cmp op a b,e=>(tQ e).any λv=>decide (v.2.1=[op])&&(bT v.2.2).any λr=>z2n op&& !(d5 op r)&&chkE Γ a v.1&&chkE Γ b r
 |.chain op mY a b c,e=>(tQ e).any λv=>decide (v.2.1=[op,mY])&&(oF v.2.2).any λr=>z2n op&&z2n mY&& !(l9 [op,mY] [r.1,r.2])&&chkE Γ a v.1&&(chkE Γ b r.1&&chkE Γ c r.2)
 |.nW ng a,e=>(tQ e).any λv=>decide (v.2.1=[if ng then .IsNot else .Is])&&(bT v.2.2).any λr=>decide (kA r=Y .none)&&chkE Γ a v.1
 |.and a b,e=>(uT e).any λv=>decide (v.1=.And)&&uV (λx=>chkE Γ a x) (λx=>chkE Γ b x) .And v.2.2 v.2.1
 |.or a b,e=>(uT e).any λv=>decide (v.1=.Or)&&uV (λx=>chkE Γ a x) (λx=>chkE Γ b x) .Or v.2.2 v.2.1
 |.not a,e=>(wJ e).any λv=>decide (v.1=.Not)&&chkE Γ a v.2
 |.tup xs,e=>(oB e).any λes=>decide (es.length<=1000)&&dZ Γ xs es
 |.lst xs,e=>(tR e).any λes=>decide (es.length<=1000)&&dZ Γ xs es
 |.iB,e=>(Cg e).any λv=>v.1.isEmpty&&v.2.isEmpty
 |.ix a b,e=>(oE e).any λv=>z67 v.2&&chkE Γ a v.1&&chkE Γ b v.2
 |.sl a lo hi,e=>(oE e).any λv=>(wL v.2).any λs=>s.2.2.isNone&&chkE Γ a v.1&&qK Γ lo s.1&&qK Γ hi s.2.1
 |.call k f args,e=>(jQ e).any λv=>(Γ.cm&&(v.1==f))&&lY Γ v.1&&(Γ.fns[k]?==Y (f,v.2.length))&&dZ Γ args v.2&& !v.2.isEmpty
 |.bi f args,e=>(jQ e).any λv=>(v.1==Str.ofString f)&&dW Γ v.1&&((["len","max","int","str"].contains f)&&(Γ.cm||f=="int"))&&dZ Γ args v.2&& !v.2.isEmpty
 |.pI f a,e=>(jQ e).any λv=>(v.1==Str.ofString f)&&dW Γ v.1&&(wO.contains f&&Γ.cm)&&(bT v.2).any λy=>!isStar y&&tV Γ a y
 |.eI a ts,e=>(jQ e).any λv=>(v.1==("isinstance":U))&&dW Γ v.1&&(oF v.2).any λy=>!isStar y.1&&chkE Γ a y.1&&(bT ts).any λT=>tyB Γ T y.2
 |.mt m o args,e=>(lZ e).any λv=>((v.2.1==Str.ofString m)&& ["join"].contains m&&z0n v.1&&v.2.2.2&&decide (v.2.2.1.length<20))&&chkE Γ o v.1&&dZ Γ args v.2.2.1&& !v.2.2.1.isEmpty
 |.comp nt js N' tg it cond elt,e=>(Hg e).any λv=>(bT v.2.1).any λg=>let Cn:Gm:={Γ with N:=N',sc:=Ce v.2.2 Γ.sc,blk:=J,xc:=Z8}
  ((Γ.cm&&(g.is_async==0))&&(tgIx tg).all (λi=>decide (i<nt))&&tu Γ.N Γ.sc v.2.2 N' nt js&&uS g.iter&&decide N'.Nodup)&&(tS Cn tg g.target&&zx it g.target)&&kB Γ it g.iter&&wM (wN cond) (λt=>fH Cn cond t) g.ifs&&chkE Cn elt v.1
 |.lP a b,e=>(lZ e).any λv=>((v.2.1==("split":U))&&z0n v.1&&v.2.2.2)&&chkE Γ a v.1&&(bT v.2.2.1).any λy=>!isStar y&&chkE Γ b y
 |.uQ a,e=>(lZ e).any λv=>((v.2.1==("upper":U))&&z0n v.1&&v.2.2.2)&&v.2.2.1.isEmpty&&chkE Γ a v.1
 |.dig a,e=>(lZ e).any λv=>((v.2.1==("isdigit":U))&&z0n v.1&&v.2.2.2)&&v.2.2.1.isEmpty&&chkE Γ a v.1
 |.hD b x,e=>(jQ e).any λv=>(v.1==("isinstance":U))&&dW Γ v.1&&(oF v.2).any λy=>Γ.xc.any λz=>hG (λn=>(n==z.1)&&(Γ.sc.names.lookup n==Y .local)&& !(n==("__debug__":U))&& !(n==("__classdict__":U))) y.1&&hG (λC=>(C==x)&&lY Γ C&&Γ.sub.contains (z.2,x,b)) y.2
 |.gM _,_=>Z6
 |.enum _,_=>Z6
 |.zip _ _,_=>Z6
 |.tv _,_=>Z6
 |.nil,_=>Z6
 |.cons _ _,_=>Z6
def fH (Γ:Gm):C->Expr->Bool
 |.and a b,e=>(uT e).any λv=>decide (v.1=.And)&&uV (λx=>fH Γ a x) (λx=>fH Γ b x) .And v.2.2 v.2.1
 |.or a b,e=>(uT e).any λv=>decide (v.1=.Or)&&uV (λx=>fH Γ a x) (λx=>fH Γ b x) .Or v.2.2 v.2.1
 |.not a,e=>(wJ e).any λv=>decide (v.1=.Not)&&fH Γ a v.2
 |.tv a,e=>(plainT e||Hf e)&&chkE Γ a e
 |_,_=>Z6
def dZ (Γ:Gm):C->List Expr->Bool
 |.nil,es=>es.isEmpty
 |.cons a r,es=>match es with|e::es=>!isStar e&&chkE Γ a e&&dZ Γ r es|_=>Z6
 |_,_=>Z6
def qK (Γ:Gm):C->Option Expr->Bool
 |.nil,e=>e.isNone
 |.tv a,e=>e.any λe=>chkE Γ a e
 |_,_=>Z6
def kB (Γ:Gm):C->Expr->Bool
 |.gM args,e=>(jQ e).any λv=>(v.1==("range":U))&&dW Γ v.1&&dZ Γ args v.2&&(!v.2.isEmpty&&decide (v.2.length<=1))
 |.tv a,e=>uS e&&chkE Γ a e
 |.enum a,e=>(jQ e).any λv=>(v.1==("enumerate":U))&&dW Γ v.1&&(bT v.2).any λy=>!isStar y&&chkE Γ a y
 |.zip a b,e=>(jQ e).any λv=>(v.1==("zip":U))&&dW Γ v.1&&(oF v.2).any λy=>(!isStar y.1&& !isStar y.2)&&chkE Γ a y.1&&chkE Γ b y.2
 |_,_=>Z6
def tV (Γ:Gm):C->Expr->Bool
 |.tv a,e=>chkE Γ a e
 |_,_=>Z6
end
def l':C->Bool
 |_=>Z6
def wQ (Γ:Gm)(it:C)(tg ie:Expr):Bool:=zx it tg&&kB Γ it ie
def rZ:Stmt->Option (List Expr×Expr)
 |.Assign t v _=>Y (t,v)
 |_=>Z8
def wR:Stmt->Option Expr
 |.Expr v _=>Y v
 |_=>Z8
def Co:Stmt->Option (Option Expr)
 |.Return v _=>Y v
 |_=>Z8
def Cp:Stmt->Option (Expr×List Stmt×List Stmt)
 |.If t A B _=>Y (t,A,B)
 |_=>Z8
def zy:Stmt->Option (Expr×Expr×List Stmt×List Stmt)
 |.For t i B o _=>Y (t,i,B,o)
 |_=>Z8
def Cq:Stmt->Option (Expr×List Stmt×List Stmt)
 |.While t B o _=>Y (t,B,o)
 |_=>Z8
def Hh:Stmt->Option Nat
 |.Pass _=>Y 0
 |.Break _=>Y 1
 |.Continue _=>Y 2
 |_=>Z8
def Cr:Stmt->Option (U×List Expr)
 |.Raise (Y c) Z8 _=>jQ c
 |_=>Z8
def Cs:ExceptHandler->Option (U×U×List Stmt)
 |.ExceptHandler (Y<|.Name x _) (Y n) b _=>Y (x,n,b)
 |_=>Z8
mutual
def qL (Γ:Gm):S->Stmt->Bool
 |.bad,_=>J
 |.asg t e,s=>(rZ s).any λu=>(bT u.1).any λx=>tS Γ t x&& !l' e&&(OJ t||(!mW u.2&& !isTup u.2))&&chkE Γ e u.2
 |.mut m i args,s=>(wR s).any λc=>(lZ c).any λv=>(hG (gR Γ i) v.1&&(v.2.1==Str.ofString m)&& ["append"].contains m&&v.2.2.2&&decide (v.2.2.1.length<20))&& !v.2.2.1.isEmpty&&dZ Γ args v.2.2.1
 |.ret e,s=>(Co s).any λo=>o.any λv=>chkE Γ e v
 |.bW c a b,s=>(Cp s).any λv=>fH Γ c v.1&&chkL Γ a v.2.1&&chkL Γ b v.2.2
 |.cV t it b,s=>Γ.cm&&(zy s).any λv=>tS Γ t v.1&&wQ Γ it v.1 v.2.1&&chkL Γ b v.2.2.1&&v.2.2.2.isEmpty
 |.wh _ c b,s=>(Cq s).any λv=>fH Γ c v.1&&chkL Γ b v.2.1&&v.2.2.isEmpty
 |.cnt,s=>decide (Hh s=Y 2)
 |.uR j i,s=>Γ.cm&&(rZ s).any λu=>(bT u.1).any λx=>hG (jC Γ i) x&&(jQ u.2).any λv=>lY Γ v.1&&(Γ.fns[j]?==Y (v.1,1))&&(bT v.2).any λy=>hG (gR Γ i) y
 |.pop j i,s=>(rZ s).any λu=>(bT u.1).any λx=>hG (jC Γ j) x&&tT (hG<|gR Γ i) u.2
 |.pap i a r,s=>(wR s).any λc=>(lZ c).any λv=>(hG (gR Γ i) v.1&&(v.2.1==("append":U))&&v.2.2.2)&&(bT v.2.2.1).any λt=>(oB t).any λes=>Cm (λe=>!isStar e&&chkE Γ a e) (tT<|hG<|gR Γ i) (λl=>decide (l.length<=900)&&dZ Γ r l) es
 |.nil,_=>Z6
 |.seq _ _,_=>Z6
def chkL (Γ:Gm):S->List Stmt->Bool
 |.nil,l=>l.isEmpty
 |.seq a b,l=>match l with|s::r=>qL Γ a s&&chkL Γ b r|_=>Z6
 |_,_=>Z6
end
def tD (K:Z5)(f:Rho->Res GD):TE:=λσ H Q=>∃ρ F x,StOk K F H σ ρ/\f ρ=.ok x/\∀v H',Same H H'->Rep K H' (BG F H x.1) v x.2->Q v H'
def eA (K:Z5)(f:Rho->Res Bool):TT:=λσ H Q=>∃ρ F b,StOk K F H σ ρ/\f ρ=.ok b/\∀H',Same H H'->Q b H'
def tDO (K:Z5)(f:Rho->Res (Option Int)):TO:=λσ H Q=>∃ρ F b,StOk K F H σ ρ/\f ρ=.ok b/\∀H',Same H H'->Q b H'
def eB (K:Z5)(F:Fm)(H H':Hp):List V->List GD->Prop
 |vs,[]=>vs=[]
 |vs,x::xs=>∃v r,vs=v::r/\Rep K H' (BG F H x.1) v x.2/\eB K F H H' r xs
def tDA (K:Z5)(f:Rho->Res (List GD)):TA:=λσ H Q=>∃ρ F xs,StOk K F H σ ρ/\f ρ=.ok xs/\∀vs H',Same H H'->eB K F H H' vs xs->Q vs H'
theorem _root_.L2.PE.imp (h:PE X e t)(i:∀a H Q,c a H Q->t a H Q):PE X e c:=λb s a H Q I q=>h b s a H Q I (i a H Q q)
theorem _root_.L2.PT.imp (h:PT X e t)(i:∀a H Q,c a H Q->t a H Q):PT X e c:=λb s a H Q I q=>h b s a H Q I (i a H Q q)
theorem _root_.L2.PW.imp (h:PW X e t)(i:∀a H Q,c a H Q->t a H Q):PW X e c:=λwh b s a H Q I q=>h wh b s a H Q I (i a H Q q)
theorem _root_.L2.PA.imp (h:PA X e t)(i:∀a H Q,c a H Q->t a H Q):PA X e c:=λpos b s a H Q I q=>h pos b s a H Q I (i a H Q q)
theorem _root_.L2.PO.imp (h:PO X e t)(i:∀a H Q,c a H Q->t a H Q):PO X e c:=λb s a H Q I q=>h b s a H Q I (i a H Q q)
theorem _root_.L2.PS.imp (h:PS X e t)(i:∀D a H,c D a H->t D a H):PS X e c:=λb s a H D I q=>h b s a H D I (i D a H q)
theorem _root_.L2.PSs.imp (h:PSs X e t)(i:∀D a H,c D a H->t D a H):PSs X e c:=λb s a H D I q=>h b s a H D I (i D a H q)
section
variable {K:Z5}{F:Fm}{H H1 H':Hp}
theorem eB.back:∀{a:List V} {c:List GD},Same H H1->eB K F H1 H' a c->eB K F H H' a c
 |a,[],_,r=>r
 |a,x::c,s,r=>by let{v,t,e,h,q}:=r;exact{v,t,e,h.weak λ_ b=>b.back s,q.back s}
theorem eB.oG:∀{b:List V} {c:List GD},(∀x∈c,∀a,BG F H x.1 a->B a)->eB K F H H' b c->Reps K H' B b (c.map (·.2))
 |b,[],_,r=>r
 |b,x::c,d,r=>by let{v,t,e,h,q}:=r;exact{v,t,e,h.weak<|d x ar,q.oG λy f=>d y<|ao _ f}
theorem eB.jD (b:∀a,H a=Z8->F.V a)(r:eB K F H H' c d):Reps K H' (cB F) c (d.map (·.2)):=r.oG λ_ _ _ h=>h.aU b
def wU (f:∀a,H a=Z8->F.V a)(c:x∈d)(h:BG F H x.1 a):BG F H (cP d) a:=by
 unfold cP;by_cases e:(d.all λx=>x.1==.fr)=J
 .rw[qq e];have:=(bc.mp e) x c;have b:x.1=.fr:=by simpa using this
  rw[b]at h;exact h
 .rw[qr e];split
  .rename_i g;have:=(bc.mp g) x c;rcases fq.mp this with b|b
   .rw[eq_of_beq b]at h;exact .inl h
   .rw[eq_of_beq b]at h;exact h
  .exact h.aU f
def Ct (b:∀a,H a=Z8->F.V a)(s:Same H H1)(h:nw H1 a):BG F H (cP c) a:=by
 unfold cP;by_cases e:(c.all λx=>x.1==.fr)=J
 .rw[qq e];exact nw.back s h
 .rw[qr e];split
  .exact .inl (nw.back s h)
  .exact(nw.back s h).aU b
def r0 (r:Rep K H' B v d)(h:∀a,B a->BG F H g a):Rep K H' (BG F H<|gJ d g) v d:=by
 unfold gJ;by_cases e:imm d=J
 .rw[qq e];exact Rep.bS d e r
 .rw[qr e];exact r.weak h
end
def nD (K:Z5)(m:D->D->Res D):R2:=λx y H Q=>∃Bx By dx dy d,Rep K H Bx x dx/\Rep K H By y dy/\m dx dy=.ok d/\∀w H',Same H H'->Rep K H' (λa=>nw H a\/Bx a\/By a) w d->Q w H'
def qM (X:Cx)(f:Value->Value->Sem Value)(m:D->D->Res D):Prop:=OpR X f (nD X.K m)
def qN (K:Z5)(m:D->D->Res D):R2:=λx y H Q=>∃Bx By dx dy d,Rep K H Bx x dx/\Rep K H By y dy/\m dx dy=.ok d/\∀w H',Same H H'->Rep K H' (λa=>nw H a\/Bx a\/By a) w d->(∀ds,d=.list ds->imms ds=J->Rep K H' (nw H) w d)->Q w H'
def Cu (X:Cx)(f:Value->Value->Sem Value)(m:D->D->Res D):Prop:=OpR X f (qN X.K m)
theorem _root_.L2.OpR.imp (h:OpR X f r)(i:∀x y H Q,b x y H Q->r x y H Q):OpR X f b:=λa s c H x y v u Q I d e q=>h a s c H x y v u Q I d e (i x y H Q q)
def z68 (K:Z5)(m:List D->Res D):List V->Hp->VK->Prop:=λxs H Q=>∃B ds d,Reps K H B xs ds/\m ds=.ok d/\∀w H',Same H H'->Rep K H' (λa=>nw H a\/B a) w d->Q w H'
theorem _root_.L2.CallR.imp (h:CallR X f r)(i:∀x H Q,b x H Q->r x H Q):CallR X f b:=λa s c H x v Q I d q=>h a s c H x v Q I d (i x H Q q)
def OK (a:ZY x=J)(b:ZY y=J):ZY (x++y)=true:=by
 unfold ZY at *
 show(x.cps++y.cps).all _=J;rw[Array.all_append,a,b];rfl
def strOk_iff:ZY x=J↔∀c∈x[[]],c<0x110000:=by unfold ZY;rw[<-j7];rw[bc];exact{λh c a=>by simpa using h c a,λh c a=>by simpa using h c a}
theorem Hi (a:ZY x=J)(hc:c∈x[[]]):ZY {#[c]}=true:=
 strOk_iff.mpr λd hd=>by
  have e:d=c:=by simpa using hd
  rw[e];exact strOk_iff.mp a c hc
theorem mC (h:n<=LIM):n<=aw:=bj h (by rw[cf];unfold LIM;decide)
theorem _root_.L2.dC.rel {K:Z5}(s:Same H b)(h:dC K H a c):dC K b a c:=h.keep (B:=λ_=>True) λa o e _=>s a o e
section
variable {X:Cx}
def OL (K:Z5):R2:=λx y H Q=>∃l b xs zs,x=.ref l/\y=.ref b/\SqL K H l xs/\SqL K H b zs/\xs.length+zs.length<=aw/\∀p,H p=Z8->Q (.ref p) (upd H p<|.lst<|xs++zs)
def OM:OpR X (f8 .Add) (OL X.K):=by
 rintro k s M H x y v u Q I w z ⟨l,b,N,O,rfl,rfl,A,B,m,q⟩
 ext w;ext z;let{c,o,C,_}:=I.list A;let{a,p,D,_}:=I.list B;let{{E,dd,r,sl},n,ho,G,_,hd}:=C;let{{t,f,g,h},ZK,d,i,_,j}:=D;subst G hd i j;have e:c.toArray.size+a.toArray.size<=aw:=by rw[br,br,<-o.length,<-p.length];exact m
 refine mi {_,ho,rfl} {_,d,rfl} noFill_list_add seq_list_add PySem.F.slot_list_add PySem.F.entry_list_add (PySem.F.args_list_add_2 _ _) (list_addW l b c.toArray a.toArray n ZK dd f sl h e) {ho,d,?_};have L:c.toArray++a.toArray=(c++a).toArray:=by simp
 rw[L];exact{.ref _,_,I.lnew (o.append p)<|ax▸m,rfl,q _ I.fresh}
def ON (K:Z5):R2:=λx y H Q=>∃a b ys,x=.ref a/\y=.ref b/\dC K H a []/\dC K H b ys/\Q (.ref b) H
def OO:OpR X (f8 .Add) (ON X.K):=by
 rintro i s E H x y v u Q I m o ⟨l,b,G,rfl,rfl,p,r,q⟩
 ext m;ext o;let{t,w,z,_}:=I.tuple p;let{a,ZK,A,_}:=I.tuple r;ext w;let{{B,dd,j,sl},ho,C,n,hd}:=z;let{{k,d,e,f},c,g,D,h}:=A;subst C hd g h;refine mi {_,ho,rfl} {_,c,rfl} mf ol PySem.F.slot_tuple_add PySem.F.entry_tuple_add (PySem.F.args_tuple_add_2 _ _) (tuple_addW0 l b _ a.toArray n D dd d sl f ZO) {ho,c,?_};exact{.ref b,H,I,rfl,q}
variable {K:Z5}{H:Hp}{B:Ad->Prop}{v:V}
def pK (r:Rep K H B v<|.list c):∃a b,v=.ref a/\SqL K H a b/\Reps K H B b c:=by
 let{a,b,e,h,q}:=r;refine{a,b,e,?_,q};rcases h with⟨h,_⟩|⟨h|h,_⟩
 .exact .inl (.inl h)
 .exact .inl (.inr h)
 .exact .inr h
theorem uW (c:H p=Z8)(r:Reps K H B b d)(e:∀a,B a->B' a)(f:B'<|Y p):Rep K (upd H p<|.lst b) B' (.ref p) (.list d):={p,b,rfl,.inl {bH,(f)},r.same (Same.upd c) e}
theorem zA (c:H p=Z8)(r:Reps K H B b d)(e:∀a,B a->f a):Rep K (upd H p<|.tup b) f (.ref p) (.tuple d):={p,b,rfl,.inl<|.inl bH,r.same (Same.upd c) e}
def hJ {b:Type}{a:b}(h:(Res.no:Res b)=.ok a):False:=by ext h
def OP:Cu X (f8 .Add) (cW .Add):=by
 refine OpR.imp ((Om.or OM).or OO) λx y H Q h=>?_;let{u,v,w,A,d,k,l,e,q}:=h;ext w<;>try (exact(hJ e).elim)
 all_goals ext A<;>try (exact(hJ e).elim)
 case int.int i j=>ext e;have r:=k;have s:=l;subst r s;exact .inl (.inl<|Ox<|q _ H (Same.refl H) rfl λm z=>by ext z)
 case str.str i j=>
  have r:=k.1;have s:=l.1;subst r s;have e:(if i.length+j.length<=LIM then Res.ok (ZX<|i++j)else Res.no)=Res.ok d:=e;split at e
  .rename_i hl;ext e;exact .inl (.inl<|Oy (mC hl)<|q _ H (Same.refl H) {rfl,OK k.2 l.2} λm z=>by ext z)
  .cases e
 case list.list xs ys=>
  have e:(if xs.length+ys.length<=LIM then Res.ok (ZW<|xs++ys)else Res.no)=Res.ok d:=e;split at e
  .rename_i hl;ext e;let{a,t,rfl,n,c}:=pK k;let{b,ws,rfl,o,f}:=pK l;refine .inl (.inr {a,b,t,ws,rfl,rfl,n,o,mC (by rw[c.length,f.length];exact hl),λp g=>q _ _ (Same.upd g) ?_ ?_})
   .exact uW g (Reps.append (c.weak λ_ z=>.inr<|.inl z)<|f.weak λ_ z=>.inr<|.inr z) (λ_ z=>z) (.inl g)
   .intro m z B;ext z;exact uW g (Reps.bS _ B<|Reps.append (c.weak (B':=λa=>nw H a\/u a\/v a) λ_ z=>.inr<|.inl z)<|f.weak λ_ z=>.inr<|.inr z) (λ_ z=>z) g
  .cases e
 case tuple.tuple xs ys=>
  have e:(if xs.length+ys.length<=LIM then Res.ok (ZV<|xs++ys)else Res.no)=Res.ok d:=e;split at e
  .rename_i hl;ext e;let{a,t,rfl,n,c}:=k;let{b,ws,rfl,o,f}:=l;cases t with
   |nil=>
    have:xs=[]:=by have:=c.length;exact jt.mp this.symm
    subst this;exact .inr {a,b,ws,rfl,rfl,n,o,q _ H (Same.refl H) {b,ws,rfl,o,f.weak λ_ z=>.inr<|.inr z} λm z=>by ext z}
   |cons C D=>
    refine .inl (.inl<|.inr<|.inr<|.inr {a,b,C::D,ws,rfl,rfl,n,o,by simp,mC (by rw[c.length,f.length];exact hl),λz=>?_,λz p g=>q _ _ (Same.upd g) ?_ λm z=>by ext z})
    .subst z;have:ys=[]:=by have:=f.length;exact jt.mp this.symm
     subst this;rw[b7]at q;exact q _ H (Same.refl H) {a,_,rfl,n,c.weak λ_ z=>.inr<|.inl z} λm z=>by ext z
    .exact zA g (Reps.append (c.weak λ_ z=>.inr<|.inl z)<|f.weak λ_ z=>.inr<|.inr z) (λ_ z=>z)
  .cases e
def wV {gd:Int->Int->D}(h:OpR X f<|rI b g)(a:∀i j H B,Rep X.K H B (g i j)<|gd i j)(hm:∀dx dy d,m dx dy=.ok d->∃i j,dx=.int i/\dy=.int j/\b i j/\d=gd i j):Cu X f m:=by refine OpR.imp h λx y H Q h=>?_;let{n,o,dx,dy,d,k,l,e,q}:=h;let{i,j,rfl,rfl,c,rfl}:=hm dx dy d e;exact{i,j,k,l,c,q _ H (Same.refl H) (a i j _ _) λ_ _ _=>a i j _ _}
theorem OQ (h:OpR X f<|mS g):OpR X f (rI (λ_ _=>True) g):=OpR.imp h λx y H Q ⟨i,j,a,b,_,q⟩=>{(i),j,a,b,q}
theorem OR:OpR X (f8 .FloorDiv) (rI (λ_ j=>0<j/\j<2 ^ 200) λi j=>.int<|i/j):=opI λi j _ _ _ _ _ hc q=>by
 refine floordiv_int ZQ (by rw[Int.fdiv_eq_ediv_of_nonneg i ZQ];exact q)<|.inl<|PyProof.noPylong_of_log2 ?_;have a:j.natAbs<2 ^ 200:=by omega
 have b:=(Nat.log2_lt ZQ).mpr a;omega
def Hj (a:nc)(h:zw a=J):Cu X (f8 a) (cW a):=by
 ext a<;>try (ext h;done)
 case Add=>exact OP
 case Sub=>
  refine wV (OQ MM) (gd:=λi j=>.int<|i-j) (λ_ _ _ _=>rfl) λdx dy d e=>?_;ext dx<;>try (exact(hJ e).elim)
  ext dy<;>try (exact(hJ e).elim)
  ext e;simp_all
 case Mult=>
  refine wV MN (gd:=λi j=>.int<|i*j) (λ_ _ _ _=>rfl) λdx dy d e=>?_;ext dx<;>try (exact(hJ e).elim)
  ext dy<;>try (exact(hJ e).elim)
  rename_i i j;have e:(if(-(2 ^ 64)<i/\i<2 ^ 64)\/(-(2 ^ 64)<j/\j<2 ^ 64)then Res.ok (ZU<|i*j)else Res.no)=Res.ok d:=e;split at e
  .rename_i hc;ext e;exact{_,_,rfl,rfl,hc,rfl}
  .cases e
 case FloorDiv=>
  refine wV OR (gd:=λi j=>.int<|i/j) (λ_ _ _ _=>rfl) λdx dy d e=>?_;ext dx<;>try (exact(hJ e).elim)
  ext dy<;>try (exact(hJ e).elim)
  rename_i i j;have e:(if 0<j/\j<2 ^ 200 then Res.ok (ZU<|i/j)else Res.no)=Res.ok d:=e;split at e
  .rename_i hc;ext e;simp_all
  .cases e
 case Mod=>
  refine wV MO (gd:=λi j=>.int<|i%j) (λ_ _ _ _=>rfl) λdx dy d e=>?_;ext dx<;>try (exact(hJ e).elim)
  ext dy<;>try (exact(hJ e).elim)
  rename_i i j;have e:(if 0<j then Res.ok (ZU<|i%j)else Res.no)=Res.ok d:=e;split at e
  .rename_i hc;ext e;simp_all
  .cases e
 case Pow=>
  refine wV MP (gd:=λi j=>.int<|i ^ j.toNat) (λ_ _ _ _=>rfl) λdx dy d e=>?_;ext dx<;>try (exact(hJ e).elim)
  ext dy<;>try (exact(hJ e).elim)
  rename_i i j;have e:(if 0<=j/\j<=1000/\i.natAbs<2 ^ 64 then Res.ok (ZU<|i ^ j.toNat)else Res.no)=Res.ok d:=e;split at e
  .rename_i hc;ext e;exact{_,_,rfl,rfl,{hc.1,by omega,hc.2.2},rfl}
  .cases e
end
section
variable {X:Cx}{pins:List<|Addr×Obj}{σ:L2.St}{H:Hp}{s:aq}{B:Ad->Prop}
mutual
theorem Rep.reads (I:Inv X pins σ H s):∀{v:V} {u:Value} (d:ae) (n:Nat),cO n d=J->Rep X.K H B v d->RelV v u->(∃as,Reads s.heap u d as)/\d.canLay0=J/\d.depth<=n
 |v,u,.none,n,_,r,q=>by have e:v=.non:=r;subst e;ext q;exact{{[],.none},by simp only[ZT],c9 _}
 |v,u,.bool b,n,_,r,q=>by have e:v=.bl b:=r;subst e;ext q;exact{{[],.bool b},by simp only[ZT],c9 _}
 |v,u,.int b,n,_,r,q=>by have e:v=.int b:=r;subst e;let{t,rfl}:=q;exact{{[],.int b t},by simp only[ZT],c9 _}
 |v,u,.str b,n,_,r,q=>by obtain⟨e,ok⟩:v=.str b/\_:=r;subst e;let{t,rfl}:=q;exact{{[],.str b t},by simp only[ZT];exact ok,c9 _}
 |v,u,.tuple ds,0,h,r,q=>by ext h
 |v,u,.list ds,0,h,r,q=>by ext h
 |v,u,.tuple ds,n+1,h,r,q=>by let{a,vs,e,h1,r1}:=r;subst e;ext q;let{dV,rv,{o,ho,hc,k,hd},_}:=I.tuple h1;let{{as,ra},c,dp}:=Reps.reads I ds n (h) r1 rv;refine{{as,.tuple ho hc hd<|by simpa using ra},by simp only[ZT];exact c,?_};simp only[PyData.depth];omega
 |v,u,.list ds,n+1,h,r,q=>by let{a,vs,e,h1,r1}:=pK r;subst e;ext q;let{dV,rv,{o,k,ho,hc,_,hd},_}:=I.list h1;let{{as,ra},c,dp}:=Reps.reads I ds n (h) r1 rv;refine{{a::as,.list ho hc hd<|by simpa using ra},by simp only[ZT];exact c,?_};simp only[PyData.depth];omega
 |v,u,.dict es,n,h,r,q=>by ext n<;>ext h
theorem Reps.reads (I:Inv X pins σ H s):∀{vs:List V} {us:List Value} (ds:List ae) (n:Nat),jP n ds=J->Reps X.K H B vs ds->Vals vs us->(∃as,ReadsAll s.heap us ds as)/\PyData.canLayAll0 ds=J/\PyData.depthAll ds<=n
 |vs,us,[],n,_,r,q=>by have e:vs=[]:=r;subst e;ext q;exact{{[],.nil},by simp only[PyData.canLayAll0],c9 _}
 |vs,us,d::ds,n,h,r,q=>by
  let{v,t,e,h1,r1}:=r;subst e;rw[jP,aj]at h;cases q with
  |cons q1 q2=>let{{as,ra},c,dp}:=Rep.reads I d n h.1 h1 q1;let{{bs,rb},c2,OS}:=Reps.reads I ds n h.2 r1 q2;refine{{as++bs,.cons ra rb},by simp only[PyData.canLayAll0,c,c2,Bool.and_self],?_};simp only[PyData.depthAll];exact Nat.max_le.mpr {(dp),OS}
end
end
section
variable {X:Cx}
def mB (m:D->D->Res Bool):D->D->Res D:=λx y=>m x y>>=λb=>.ok (.bool b)
def wW (h:mB m x y=.ok d):∃b,m x y=.ok b/\d=.bool b:=by let{b,a,c}:=Res.aA h;exact{b,a,(Res.ok.inj c).symm}
def Cv (hu:X.A.units+64<cLine):qM X (cn .Eq) (mB<|cmpD .Eq):=by
 rintro a s n H x y v u Q I c f ⟨o,p,dx,dy,d,g,h,e,q⟩
 let{b,i,rfl}:=wW e;have e:=i;have e:(if(cO 40 dx&&cO 40 dy)=J then Res.ok (bX dx dy)else Res.no)=Res.ok b:=e;split at e
 .rename_i hs;ext e;rw[aj]at hs;let{{as,j},k,r}:=Rep.reads I dx 40 hs.1 g c;let{{bs,l},m,t}:=Rep.reads I dy 40 hs.2 h f;exact SeqAt.compareEq_reads j l k m ZQ {.bl _,H,I,rfl,q _ H (Same.refl H) rfl}
 .cases e
def Cw (hu:X.A.units+64<cLine):qM X (cn .NotEq) (mB<|cmpD .NotEq):=by
 rintro a s n H x y v u Q I c f ⟨o,p,dx,dy,d,g,h,e,q⟩
 let{b,i,rfl}:=wW e;have e:=i;have e:(if(cO 40 dx&&cO 40 dy)=J then Res.ok (!bX dx dy)else Res.no)=Res.ok b:=e;split at e
 .rename_i hs;ext e;rw[aj]at hs;let{{as,j},k,r}:=Rep.reads I dx 40 hs.1 g c;let{{bs,l},m,t}:=Rep.reads I dy 40 hs.2 h f;exact SeqAt.compareNe_reads j l k m ZQ {.bl _,H,I,rfl,q _ H (Same.refl H) rfl}
 .cases e
def zlv (h:OpR X (cn a) r)(n:∀i j b H Q,cmpD a (.int i) (.int j)=.ok b->Q (.bl b) H->r (.int i) (.int j) H Q)(o:∀i j b H Q,cmpD a (.str i) (.str j)=.ok b->Q (.bl b) H->r (.str i) (.str j) H Q)
  (hm:∀c f b,cmpD a c f=.ok b->(∃i j,c=.int i/\f=.int j)\/∃i j,c=.str i/\f=.str j):qM X (cn a) (mB<|cmpD a):=by
 refine OpR.imp h λx y H Q h=>?_;let{s,t,c,f,d,l,m,e,q}:=h;let{b,p,rfl}:=wW e;have e:=p;rcases hm c f b e with⟨i,j,rfl,rfl⟩|⟨i,j,rfl,rfl⟩
 .have g:x=.int i:=l;have k:=m;subst g k;exact n i j b H Q e (q _ H (Same.refl H) rfl)
 .have g:x=.str i:=l.1;have k:=m.1;subst g k;exact o i j b H Q e (q _ H (Same.refl H) rfl)
theorem Cy:qM X (cn .Lt) (mB<|cmpD .Lt):=zlv B6 (λi j b H Q e q=>by ext e;exact Oz q) (λi j b H Q e q=>by ext e;exact OC q) λdx a b e=>by ext dx<;>first|exact(hJ e).elim|(ext a<;>first|exact .inl ⟨_,_,rfl,rfl⟩|exact .inr ⟨_,_,rfl,rfl⟩|exact(hJ e).elim)
theorem Cz:qM X (cn .LtE) (mB<|cmpD .LtE):=zlv B7 (λi j b H Q e q=>by ext e;exact OA q) (λi j b H Q e q=>by ext e;exact OD q) λdx a b e=>by ext dx<;>first|exact(hJ e).elim|(ext a<;>first|exact .inl ⟨_,_,rfl,rfl⟩|exact .inr ⟨_,_,rfl,rfl⟩|exact(hJ e).elim)
theorem CB:qM X (cn .Gt) (mB<|cmpD .Gt):=zlv B8 (λi j b H Q e q=>by ext e;exact OB q) (λi j b H Q e q=>by ext e;exact OE q) λdx a b e=>by ext dx<;>first|exact(hJ e).elim|(ext a<;>first|exact .inl ⟨_,_,rfl,rfl⟩|exact .inr ⟨_,_,rfl,rfl⟩|exact(hJ e).elim)
theorem bV.val {K:Z5}(k:Key):∀{kvs:List<|Key×V} {es:eM},bV K H B kvs es->match iA es (kD k)with|some d=>∃v,cZ kvs k=Y v/\Rep K H B v d|none=>cZ kvs k=Z8
 |kvs,[],r=>by have e:=r;subst e;exact rfl
 |kvs,(kd,d)::es,r=>by
  let{a,v,t,e,c,ok,h,q}:=r;subst e c;by_cases z:a=k
  .subst z
   have b:iA ((kD a,d)::es) (kD a)=Y d:=by
    have:eqK (kD a) (kD a)=true:=by ext a<;>simp[kD,eqK]
    unfold iA;rw[List.find?_cons_of_pos<|by exact this];rfl
   rw[b];exact{v,zk rfl,h}
  .have f:eqK (kD a) (kD k)=false:=by
    rw[pj];intro w;apply z;ext a<;>ext k<;>simp[kD,eqK]at w<;>rw[w]
   have b:iA ((kD a,d)::es) (kD k)=iA es (kD k):=by unfold iA;rw[List.find?_cons_of_neg<|f▸di]
   rw[b,zl z];exact bV.val k q
def Hk {K:Z5}(h:rV d=J)(r:Rep K H B v d):∃k,d=kD k/\v=kV k/\keyOk k:=by
 ext d<;>try (ext h;done)
 case int i=>exact{.inl i,rfl,r,True.intro}
 case str x=>exact{.inr x,rfl,r.1,r.2}
def zjr (hu:X.A.units+64<cLine)(j:Bool)(I:Inv X pins σ H s)(l:RelV x v)(n:RelV y u)
  (t:Rep X.K H R x dx) (B:Rep X.K H By y E) (e:inD dx E=.ok b) (q:Q (.bl (if j then !b else b)) H):
  X['a'] (cn (if j then .NotIn else .In) v u) (EP X pins σ Q) X.xe s:=by
 ext E<;>try (ext e;done)
 case list xs=>
  change(if(cO 40 dx&&jP 40 xs)=J then Res.ok (xs.any λy=>bX y dx)else .no)=_ at e;split at e
  .rename_i hs;ext e;rw[aj]at hs;let{{G,o},p,p1}:=Rep.reads I dx 40 hs.1 t l;let{{bs,r},C,p2}:=Rep.reads I (.list xs) 41 hs.2 B n;have f:PyData.canLayAll0 xs=true:=by simpa only[ZT]using C
   ext j
   .exact SeqAt.in_list_reads r o f p ZQ {.bl _,H,I,rfl,q}
   .exact SeqAt.notIn_list_reads r o f p ZQ {.bl _,H,I,rfl,q}
  .cases e
 case tuple xs=>
  change(if(cO 40 dx&&jP 40 xs)=J then Res.ok (xs.any λy=>bX y dx)else .no)=_ at e;split at e
  .rename_i hs;ext e;rw[aj]at hs;let{{G,o},p,p1}:=Rep.reads I dx 40 hs.1 t l;let{{bs,r},C,p2}:=Rep.reads I (.tuple xs) 41 hs.2 B n;have f:PyData.canLayAll0 xs=true:=by simpa only[ZT]using C
   ext j
   .exact SeqAt.in_tuple_reads r o f p ZQ {.bl _,H,I,rfl,q}
   .exact SeqAt.notIn_tuple_reads r o f p ZQ {.bl _,H,I,rfl,q}
  .cases e
 case dict es=>
  change(if rV dx=J then Res.ok (iA es dx).isSome else .no)=_ at e;split at e
  .rename_i hk;ext e;let{k,rfl,rfl,_}:=Hk hk t;let{a,h,rfl,ZK,_,L}:=B;ext n;have m:=L.val k;have g:DGet H a (kV k) (cZ h k):=DGet.k ZK
   have F:(cZ h k).isSome=(iA es<|kD k).isSome:=by
    cases e:iA es (kD k)with
    |none=>rw[e]at m;rw[show cZ h k=Z8 from m];rfl
    |some d=>rw[e]at m;let{v,m,_}:=m;rw[m];rfl
   ext j
   .exact d_in ZQ I g l λs' D=>{.bl _,H,D,rfl,by rw[F];exact q}
   .exact zna ZQ I g l λs' D=>{.bl _,H,D,rfl,by rw[F];exact q}
  .cases e
 case str z=>
  ext dx<;>try (ext e;done)
  rename_i w;have M:=t.1;have N:=B.1;subst M N;change(match w[[]] with| [c]=>Res.ok (decide (c∈z[[]]))|_=>.no)=_ at e;split at e
  .rename_i c O;ext e
   have P:w={#[c]}:=by
    obtain⟨i⟩:=w;have:i=#[c]:=by rw[<-km (xs:=i)];rw[show i.toList=[c]from O]
    rw[this]
   subst P;ext j
   .exact B9 pins s σ H _ _ v u Q I l n (OG q)
   .exact Oq pins s σ H _ _ v u Q I l n (OH q)
  .cases e
def CD (hu:X.A.units+64<cLine):qM X (cn .In) (mB<|cmpD .In):=by
 rintro a s j H x y v u Q I c f ⟨k,l,dx,dy,d,g,h,e,q⟩
 let{b,i,rfl}:=wW e;exact zjr hu Z6 I c f g h i (q _ H (Same.refl H) rfl)
def OT (hu:X.A.units+64<cLine):qM X (cn .NotIn) (mB<|cmpD .NotIn):=by
 rintro a s l H x y v u Q I c f ⟨m,n,dx,dy,d,g,h,e,q⟩
 let{b,i,rfl}:=wW e;let{o,j,k}:=Res.aA i;ext k;exact zjr hu J I c f g h j (q _ H (Same.refl H) rfl)
def tW (hu:X.A.units+64<cLine)(a:CmpOp)(h:z2n a=J):qM X (cn a) (mB<|cmpD a):=by
 ext a<;>try (ext h;done)
 .exact Cv hu
 .exact Cw hu
 .exact Cy
 .exact Cz
 .exact CB
 .exact CD hu
 .exact OT hu
end
section
variable {X:Cx}{a b c e:Expr}{es:List Expr}{fa fb fc:Rho->Res GD}{pos:Pos}
theorem zB (h:PE X e<|tC v)(r:∀H B,Rep X.K H B v d):PE X e (tD X.K λ_=>.ok (.fr,d)):=PE.imp h λa H Q ⟨b,F,x,so,e,q⟩=>by ext e;exact q v H (Same.refl H) (r H _)
theorem OU {i:Nat}(hN:X.N[i]?=Y x)(c:Vis X.env.scope x)(hd:Xf x)(a:(x==("__classdict__":U))=Z6):PE X (.Name x pos) (tD X.K λb=>tI b[i]?):=PE.imp (pF hN c hd a) λg H Q ⟨b,F,x,so,e,q⟩=>by let{v,d,f}:=so.rd e;exact{v,d,q v H (Same.refl H) f}
theorem OV (a:Gl X x)(hm:X.mg x=Y (.ref g))(hd:Xf x)(b:imm d=J)(r:∀H B,B Z8->Rep X.K H B (.ref g) d):PE X (.Name x pos) (tD X.K λ_=>.ok (.fr,d)):=PE.imp (Mp (v:=.ref g) a hm rfl hd) λc H Q ⟨f,F,x,so,e,q⟩=>by ext e;exact q _ H (Same.refl H) (Rep.bS d b<|r H (λ_=>True) True.intro)
def Hl {K:Z5}(r:Rep K H' B v d)(h:∀a,B a->BG F H g a)(n:∀b,d=.list b->imms b=J->Rep K H' (nw H) v d):Rep K H' (BG F H<|gN d g) v d:=by
 cases d with
 |list b=>
  show Rep K H' (BG F H (if imms b=J then .fr else g)) v _;split
  .rename_i c;exact n b rfl c
  .exact r.weak h
 |_=>exact r0 r h
theorem OW (k:zw i=J)(l:PE X a<|tD X.K fa)(m:PE X b<|tD X.K fb):PE X (.BinOp a i b pos) (tD X.K λc=>fa c>>=λx=>fb c>>=λy=>cW i x.2 y.2>>=λd=>.ok (gN d<|cP [x,y],d)):=
 PE.imp (Gs (Hj i k) l m) λE H Q ⟨c,F,z,so,e,q⟩=>by
  let{x,n,e}:=Res.aA e;let{y,o,e}:=Res.aA e;let{d,p,e}:=Res.aA e;ext e;refine{c,F,x,so,n,λv G f r=>{c,F,y,so.same f,o,λu I g s=>{_,_,x.2,y.2,d,r.same g λ_ z=>z,s,p,λw t A j B=>q w t ((f.trans g).trans A)<|Hl j (λa h=>?_) λC z D=>(B C z D).weak λ_ z=>nw.back (f.trans g) z}}};rcases h with h|h|h
  .exact Ct so.aU (f.trans g) h
  .exact wU so.aU ZO h
  .exact wU so.aU ZO (h.back f)
theorem OX (c:PE X a<|tD X.K fa):PE X (.UnaryOp .USub a pos) (tD X.K λb=>fa b>>=λx=>match x.2 with|.int i=>.ok (.fr,.int<|-i)|_=>.no):=
 PE.imp (MK MQ c) λl H Q ⟨b,F,z,so,e,q⟩=>by
  let{x,f,e}:=Res.aA e;refine{b,F,x,so,f,λv h j k=>?_};let{g,d}:=x;ext d<;>try (ext e;done)
  rename_i i;ext e;exact{i,k,q _ h j rfl}
def Hm (h:tD X.K (λa=>fa a>>=λx=>fb a>>=λy=>cmpD f x.2 y.2>>=λb=>.ok (.fr,.bool b)) j H Q):mR (nD X.K<|mB<|cmpD f) (tD X.K fa) (tD X.K fb) j H Q:=by let{a,F,z,so,e,q}:=h;let{x,k,e}:=Res.aA e;let{y,l,e}:=Res.aA e;let{d,m,e}:=Res.aA e;ext e;exact{a,F,x,so,k,λv s g n=>{a,F,y,so.same g,l,λu t i o=>{_,_,x.2,y.2,.bool d,n.same i λ_ z=>z,o,by show(cmpD f x.2 y.2>>=λb=>Res.ok<|ZS b)=_;rw[m];rfl,λw p r c=>q w p ((g.trans i).trans r) c}}}
theorem zu1 (hu:X.A.units+64<cLine)(d:z2n op=J)(hm:d5 op b=Z6)(e:PE X a<|tD X.K fa)(f:PE X b<|tD X.K fb):
  PE X (.Compare a [op] [b] pos) (tD X.K λc=>fa c>>=λx=>fb c>>=λy=>cmpD op x.2 y.2>>=λb=>.ok (.fr,.bool b)):=
 PE.imp (MW (tW hu op d) e f hm) λg H Q h=>Hm h
def zC (i:∀a H Q,tD X.K f a H Q->t a H Q)(j:∀b x,f b=.ok x->∃c,x.2=.bool c)(a:L2.St)(H:Hp)(Q:Bool->Hp->Prop)(h:eA X.K (λb=>f b>>=λx=>hF x.2) a H Q):vY t a H Q:=by let{b,F,c,so,e,q}:=h;let{x,d,e}:=Res.aA e;let{k,g}:=j b x d;rw[g]at e;ext e;refine i a H _ {b,F,x,so,d,λv l s r=>?_};rw[g]at r;exact{k,r,q l s}
def OY (e:(fa ρ>>=λx=>fb ρ>>=λy=>cmpD op x.2 y.2>>=λb=>Res.ok ((.fr,.bool b):GD))=.ok x):∃c,x.2=.bool c:=by let{x,e1,e}:=Res.aA e;let{y,e2,e}:=Res.aA e;let{d,e3,e}:=Res.aA e;ext e;exact{(d),rfl}
theorem zxl (hu:X.A.units+64<cLine)(d:z2n op=J)(hm:d5 op b=Z6)(f:PE X a<|tD X.K fa)(g:PE X b<|tD X.K fb):
  PT X (.Compare a [op] [b] pos) (eA X.K λc=>(fa c>>=λx=>fb c>>=λy=>cmpD op x.2 y.2>>=λb=>Res.ok ((.fr,.bool b):GD))>>=λx=>hF x.2):=
 PT.imp (Gv (tW hu op d) f g hm) (zC (λi H Q h=>Hm h) λc x e=>OY e)
def zD (op mY:CmpOp)(fa fb fc:Rho->Res GD):Rho->Res GD:=λρ=>fa ρ>>=λx=>fb ρ>>=λy=>cmpD op x.2 y.2>>=λk=>if k then fc ρ>>=λz=>cmpD mY y.2 z.2>>=λk'=>.ok (.fr,.bool k')else .ok (.fr,.bool Z6)
def Hn (h:tD X.K (zD i mY fa fb fc) σ H Q):BE (nD X.K<|mB<|cmpD i) (nD X.K<|mB<|cmpD mY) (tD X.K fa) (tD X.K fb) (tD X.K fc) σ H Q:=by
 let{ρ,F,z,d,e,q}:=h;let{x,m,e}:=Res.aA e;let{y,n,e}:=Res.aA e;let{k,o,e}:=Res.aA e;refine{ρ,F,x,d,m,λv H1 s1 p=>{ρ,F,y,d.same s1,n,λu G a j=>{_,_,x.2,y.2,.bool k,p.same a λ_ z=>z,j,by show(cmpD i x.2 y.2>>=λb=>Res.ok<|ZS b)=_;rw[o];rfl,λw r c f=>{k,f,?_}}}};cases k with
 |false=>ext e;exact aY (q _ r ((s1.trans a).trans c) rfl)
 |true=>let{g,s,e}:=Res.aA e;let{A,B,e}:=Res.aA e;ext e;refine bD {ρ,F,g,d.same<|(s1.trans a).trans c,s,λt I l rt=>{_,_,y.2,g.2,.bool A,j.same (c.trans l) λ_ z=>z,rt,by show(cmpD mY y.2 g.2>>=λb=>Res.ok<|ZS b)=_;rw[B];rfl,λZK C D E=>q _ C (((s1.trans a).trans c).trans<|l.trans D) E}}
theorem zku (hu:X.A.units+64<cLine)(f:z2n op=J)(e:z2n d=J)(hm:l9 [op,d] [b,c]=Z6)(g:PE X a<|tD X.K fa)(i:PE X b<|tD X.K fb)(j:PE X c<|tD X.K fc):
  PE X (.Compare a [op,d] [b,c] pos) (tD X.K<|zD op d fa fb fc):=
 PE.imp (zh8 (tW hu op f) (tW hu d e) g i j hm) λσ H Q h=>Hn h
def OZ (e:zD op mY fa fb fc ρ=.ok x):∃c,x.2=.bool c:=by
 let{x,a,e}:=Res.aA e;let{y,b,e}:=Res.aA e;let{k,d,e}:=Res.aA e;cases k with
 |false=>ext e;exact{_,rfl}
 |true=>let{f,g,e}:=Res.aA e;let{h,i,e}:=Res.aA e;ext e;exact{_,rfl}
theorem zno (hu:X.A.units+64<cLine)(i:z2n f=J)(g:z2n d=J)(hm:l9 [f,d] [b,c]=Z6)(j:PE X a<|tD X.K fa)(k:PE X b<|tD X.K fb)(l:PE X c<|tD X.K fc):
  PT X (.Compare a [f,d] [b,c] pos) (eA X.K λρ=>zD f d fa fb fc ρ>>=λx=>hF x.2):=
 PT.imp (zgl (tW hu f i) (tW hu d g) j k l hm) (zC (λσ H Q h=>Hn h) λρ x e=>OZ e)
def Ho {K:Z5}(r:Rep K H B v d):decide (v=.non)=(match d with|.none=>J|_=>Z6):=by
 cases d with
 |none=>have e:v=.non:=r;subst e;rfl
 |bool b=>have e:v=.bl b:=r;subst e;rfl
 |int b=>have e:v=.int b:=r;subst e;rfl
 |str b=>have e:v=.str b:=r.1;subst e;rfl
 |tuple c=>let{a,f,e,_}:=r;subst e;rfl
 |list c=>let{a,f,e,_}:=r;subst e;rfl
 |dict c=>let{a,f,e,_}:=r;subst e;rfl
def qO (ng:Bool)(fa:Rho->Res GD):Rho->Res GD:=λρ=>fa ρ>>=λx=>.ok (.fr,.bool (match x.2 with|.none=>!ng|_=>ng))
def zE (h:tD X.K (qO f fa) k H Q):(if f then FU (tD X.K fa)else vP<|tD X.K fa) k H Q:=by
 let{i,F,z,so,e,q}:=h;let{x,j,e}:=Res.aA e;ext e;cases f with
 |false=>
  refine{i,F,x,so,j,λv a b c=>?_}
  dsimp only
  rw[Ho c];refine q _ a b ?_;let{g,d}:=x;ext d<;>rfl
 |true=>
  refine{i,F,x,so,j,λv a b c=>?_}
  dsimp only
  rw[Ho c];refine q _ a b ?_;let{g,d}:=x;ext d<;>rfl
def Hq (e:qO ng fa ρ=.ok x):∃c,x.2=.bool c:=by let{x,e1,e}:=Res.aA e;ext e;exact{_,rfl}
def O0 {j p2}(ho:o=if ng then .IsNot else .Is)(ha:PE X a<|tD X.K fa):PE X (.Compare a [o] [.Constant .none j p2] pos) (tD X.K<|qO ng fa):=by
 subst ho;cases ng with
 |false=>exact PE.imp (FY<|FV ha) λσ H Q h=>zE h
 |true=>exact PE.imp (FY<|FW ha) λσ H Q h=>zE h
def zF {j d}(f:o=if ng then .IsNot else .Is)(c:PE X a<|tD X.K fa):PT X (.Compare a [o] [.Constant .none j d] pos) (eA X.K λb=>qO ng fa b>>=λx=>hF x.2):=by
 subst f;cases ng with
 |false=>exact PT.imp (FZ<|FV c) (zC (λg H Q h=>zE h) λb x e=>Hq e)
 |true=>exact PT.imp (FZ<|FW c) (zC (λg H Q h=>zE h) λb x e=>Hq e)
def CF (fa fb:Rho->Res GD):Rho->Res GD:=λρ=>fa ρ>>=λx=>match x.2 with|.bool c=>if c then fb ρ else .ok (.fr,.bool Z6)|_=>.no
def O1 (fa fb:Rho->Res GD):Rho->Res GD:=λρ=>fa ρ>>=λx=>match x.2 with|.bool c=>if c then .ok (.fr,.bool J)else fb ρ|_=>.no
theorem Hr (c:Same H g)(so:StOk X.K F H h d)(e:f d=.ok x)(q:∀v a,Same H a->Rep X.K a (BG F H x.1) v x.2->Q v a):tD X.K f h g Q:={d,F,x,so.same c,e,λv a s r=>q v a (c.trans s)<|r.weak λ_ b=>b.back c}
theorem Hs {rest:List Expr}(h:PE X a<|tD X.K fa)(i:PE X (.BoolOp .And (b::rest) pos)<|tD X.K fb):PE X (.BoolOp .And (a::b::rest) pos) (tD X.K<|CF fa fb):=
 PE.imp (Mu h i) λn H Q ⟨j,F,z,so,e,q⟩=>by
  let{x,k,e}:=Res.aA e;refine{j,F,x,so,k,λv l f m=>?_};let{g,d}:=x;ext d<;>try (ext e;done)
  rename_i c;refine{c,m,?_};cases c with
  |true=>exact bD (Hr f so e q)
  |false=>ext e;exact aY (q _ l f rfl)
theorem wY {rest:List Expr}(h:PE X a<|tD X.K fa)(i:PE X (.BoolOp .Or (b::rest) pos)<|tD X.K fb):PE X (.BoolOp .Or (a::b::rest) pos) (tD X.K<|O1 fa fb):=
 PE.imp (Mv h i) λn H Q ⟨j,F,z,so,e,q⟩=>by
  let{x,k,e}:=Res.aA e;refine{j,F,x,so,k,λv l f m=>?_};let{g,d}:=x;ext d<;>try (ext e;done)
  rename_i c;refine{c,m,?_};cases c with
  |false=>exact aY (Hr f so e q)
  |true=>ext e;exact bD (q _ l f rfl)
def Ht {K:Z5}(r:Rep K H B v d)(e:hF d=.ok k):pY K v H k:=by
 cases d with
 |none=>ext e;have c:v=.non:=r;subst c;exact rfl
 |bool b=>ext e;have c:v=.bl b:=r;subst c;exact rfl
 |int b=>ext e;have c:v=.int b:=r;subst c;show(!decide (b=0))=(b != 0);rw[bne,j5]
 |str b=>
  have c:=r.1;subst c;simp only[hF]at e;split at e
  .rename_i j;ext e;refine{mC j,?_};rw[bne,j5]
   congr 1
   rw[decide_eq_decide];omega
  .cases e
 |tuple g=>ext e;let{a,f,c,h,q}:=r;subst c;refine .inr<|.inl {f,h,?_};show(!g.isEmpty)=!f.isEmpty;have:=q.length;ext f<;>ext g<;>simp at this ⊢
 |list g=>ext e;let{a,f,c,h,q}:=pK r;subst c;refine .inl {f,h,?_};show(!g.isEmpty)=!f.isEmpty;have:=q.length;ext f<;>ext g<;>simp at this ⊢
 |dict es=>
  ext e;let{a,kvs,c,h,_,q}:=r;subst c;refine .inr<|.inr {kvs,h,?_};cases es with
  |nil=>have i:kvs=[]:=q;subst i;rfl
  |cons l m=>let{k,v,t,i,_}:=q;subst i;rfl
def O2 (m:PE X a<|tD X.K fa):PE X (.UnaryOp .Not a pos) (tD X.K λh=>fa h>>=λx=>hF x.2>>=λc=>.ok (.fr,.bool<|!c)):=by
 rintro d s l H Q I ⟨h,F,z,so,e,q⟩
 let{x,n,e}:=Res.aA e;let{k,o,e}:=Res.aA e;ext e;refine UnaryOp_<|aR (m d s l H (λv f=>Same H f/\Rep X.K f (BG F H x.1) v x.2) I {h,F,x,so,n,λv f i j=>{(i),j}}) λv i p=>?_;let{y,f,r,t,u,j}:=p;exact not_of (aR (Gz d i l f y v (λb g=>b=k/\g=f) r t {k,Ht j o,rfl,rfl}) λb w ⟨g,A,B,C⟩=>by subst B C;exact{.bl _,g,A,rfl,q _ g u rfl})
theorem O3 (c:PE X e<|tD X.K fa)(d:∀a,p6 e X.env a=(do let v <-a;standAt e.pos;holding [v] (truthy v))):PT X e (eA X.K λb=>fa b>>=λx=>hF x.2):=PT.imp (z9a c d) λj H Q ⟨b,F,k,so,e,q⟩=>by let{x,f,e}:=Res.aA e;exact{b,F,x,so,f,λv g h i=>{k,Ht i e,q g h}}
section
variable {ta tb:Rho->Res Bool}{rest:List Expr}
theorem Hu (b:Same H H1)(so:StOk X.K F H σ ρ)(e:f ρ=.ok x)(q:∀a,Same H a->Q x a):eA X.K f σ H1 Q:={ρ,F,x,so.same b,e,λa s=>q a<|b.trans s}
theorem w_and (f:PT X a<|eA X.K g)(h:PW X (.BoolOp .And (b::rest) pos)<|eA X.K i):PW X (.BoolOp .And (a::b::rest) pos) (eA X.K λd=>g d>>=λc=>if c then i d else .ok Z6):=
 PW.imp (Ms f h) λm H Q ⟨d,F,k,so,e,q⟩=>by
  let{x,j,e}:=Res.aA e;refine{d,F,x,so,j,λn l=>?_};cases x with
  |true=>exact bD (Hu l so e q)
  |false=>ext e;simp_all
theorem w_or (f:PT X a<|eA X.K g)(h:PW X (.BoolOp .Or (b::rest) pos)<|eA X.K i):PW X (.BoolOp .Or (a::b::rest) pos) (eA X.K λd=>g d>>=λc=>if c then .ok J else i d):=
 PW.imp (Bn f h) λm H Q ⟨d,F,k,so,e,q⟩=>by
  let{x,j,e}:=Res.aA e;refine{d,F,x,so,j,λn l=>?_};cases x with
  |false=>exact aY (Hu l so e q)
  |true=>ext e;simp_all
theorem qP (ha:PT X a<|eA X.K ta):PT X (.UnaryOp .Not a pos) (eA X.K λρ=>ta ρ>>=λc=>.ok<|!c):=PT.imp (F8 ha) λσ H Q ⟨ρ,F,k,so,e,q⟩=>by let{x,e1,e}:=Res.aA e;ext e;exact{ρ,F,x,so,e1,λH1 s1=>q H1 s1}
end
theorem Hv:PA X [] (tDA X.K λ_=>.ok []):=PA.imp kR λa H Q ⟨b,F,z,so,e,q⟩=>by ext e;exact q [] H (Same.refl H) rfl
theorem CG (hs:isStar e=Z6)(f:PE X e<|tD X.K fa)(hr:PA X es<|tDA X.K fs):PA X (e::es) (tDA X.K λa=>fa a>>=λx=>fs a>>=λb=>.ok (x::b)):=PA.imp (dY f hr hs) λl H Q ⟨a,F,z,so,e,q⟩=>by let{x,g,e}:=Res.aA e;let{b,h,e}:=Res.aA e;ext e;refine{a,F,x,so,g,λv m c i=>{a,F,b,so.same c,h,λj k d rs=>q _ k (c.trans d) ?_}};exact{v,j,rfl,i.same d λ_ z=>z,rs.back c}
theorem O4 {i}(h:PA X es<|tDA X.K fs)(j:∀b d,fs b=.ok d->d.length<=aw):PE X (.Tuple es i pos) (tD X.K λb=>fs b>>=λc=>.ok (gJ (.tuple (c.map (·.2)))<|cP c,.tuple (c.map (·.2)))):=PE.imp (BK h) λm H Q ⟨b,F,z,so,e,q⟩=>by let{c,f,e}:=Res.aA e;ext e;refine{b,F,c,so,f,λn o k rs=>?_};have r:=rs.oG λx l a h=>wU so.aU l h;refine{by rw[r.length,am];exact j b c f,λp g=>q _ _ (k.trans<|Same.upd g)<|r0 (zA g r λ_ z=>z) λ_ z=>z}
theorem O5 (h:PA X es<|tDA X.K fs)(j:∀b f,fs b=.ok f->f.length<=aw):PE X (.List es pos) (tD X.K λb=>fs b>>=λc=>.ok (cP c,.list (c.map (·.2)))):=PE.imp (GH h) λl H Q ⟨b,F,z,so,e,q⟩=>by let{c,g,e}:=Res.aA e;ext e;refine{b,F,c,so,g,λm n i rs=>?_};have r:=rs.oG λx k a h=>wU so.aU k h;refine{by rw[r.length,am];exact j b c g,λp d=>q _ _ (i.trans<|Same.upd d)<|uW d r (λ_ z=>z)<|Ct so.aU i d}
theorem O6:PE X (.Dict [] [] pos) (tD X.K λ_=>.ok (.fr,.dict [])):=PE.imp GR λb H Q ⟨c,F,z,so,e,q⟩=>by ext e;intro p a;exact q _ _ (Same.upd a) {p,[],rfl,bH,a,rfl}
end
theorem O7 {b:Type}(a:List b)(i:Int):L2.cN a i=Mi.cN a i:=rfl
def O8 (n d:Nat)(o:Option Int):HT.bC n d o=Mi.bC n d o:=by ext o<;>rfl
def Reps.cut {K:Z5}(lo hi:Option Int)(r:Reps K H B vs ds):Reps K H B (Mi.cut vs lo hi) (Mi.cut ds lo hi):=by unfold Mi.cut;rw[r.length];exact(r.drop _).take _
def Reps.cN {K:Z5}(r:Reps K H B c b)(e:Mi.cN b i=Y d):∃v,L2.cN c i=Y v/\Rep K H B v d:=by
 unfold Mi.cN at e;cases a:Mi.kT b.length i with
 |none=>rw[a]at e;ext e
 |some j=>rw[a]at e;let{v,f,g}:=r.get e;refine{v,?_,g};rw[O7];unfold Mi.cN;rw[r.length,a];exact f
section
variable {X:Cx}{a b c e:Expr}{es:List Expr}{fa fb fc:Rho->Res GD}{pos:Pos}
def O9 (hu:X.A.units+64<cLine):mU X (λx y H Q=>∃a v,x=.ref a/\DGet H a y (Y v)/\Q v H):=by intro b c e s k H x y v u Q I f i h hs;let{a,z,rfl,g,q}:=h;ext f;exact tail_any (Ng I g) PySem.F.slot_dict_getitem.lookup (zep ZQ I g i λl m j d=>{(z),H,j,d,q}) hs
def tX (K:Z5):R2:=λx y H Q=>∃B B' dx dy d,Rep K H B x dx/\Rep K H B' y dy/\iC dx dy=.ok d/\∀w,Rep K H B w d->Q w H
def Hw (hu:X.A.units+64<cLine):mU X (tX X.K):=by
 intro f g l s G H x y v u Q I ZK L h hs;refine(Ot.or<|O9 hu) f g l s G H x y v u Q I ZK L ?_ hs;let{B,R,dx,dy,d,m,r,e,q}:=h;ext dx<;>try (ext e;done)
 case list xs=>
  ext dy<;>try (ext e;done)
  rename_i i;subst r;let{a,t,rfl,n,C}:=pK m;change Res.gF (Mi.cN xs i)=_ at e;cases b:Mi.cN xs i with
  |none=>rw[b]at e;ext e
  |some D=>rw[b]at e;ext e;let{w,o,p}:=C.cN b;exact .inl (.inl {a,t,i,w,rfl,rfl,n,o,q w p})
 case tuple xs=>
  ext dy<;>try (ext e;done)
  rename_i i;subst r;let{a,t,rfl,n,C}:=m;change Res.gF (Mi.cN xs i)=_ at e;cases b:Mi.cN xs i with
  |none=>rw[b]at e;ext e
  |some D=>rw[b]at e;ext e;let{w,o,p}:=C.cN b;exact .inl (.inr<|.inl {a,t,i,w,rfl,rfl,n,o,q w p})
 case str z=>
  ext dy<;>try (ext e;done)
  rename_i i;have M:=m.1;subst M r;change(if z.length<=LIM then Res.gF ((Mi.cN z[[]] i).map λc=>ZX {#[c]})else .no)=_ at e;split at e
  .rename_i N;cases b:Mi.cN z[[]] i with
   |none=>rw[b]at e;ext e
   |some c=>
    rw[b]at e;ext e
    have hc:c∈z[[]]:=by
     unfold Mi.cN at b;cases E:Mi.kT z[[]].length i with
     |none=>rw[E]at b;ext b
     |some j=>rw[E]at b;exact dg b
    exact .inl (.inr<|.inr {z,i,c,rfl,rfl,mC N,b,q _ {rfl,Hi m.2 hc}})
  .cases e
 case dict es=>
  change(if rV _=J then Res.gF (iA es _)else Res.no)=_ at e;split at e
  .rename_i O;let{k,rfl,rfl,_}:=Hk O r;let{a,kvs,rfl,n,_,P}:=m;have F:=P.val k;cases b:iA es (kD k)with
   |none=>rw[b]at e;ext e
   |some D=>rw[b]at e F;ext e;let{w,o,p}:=F;exact .inr {a,w,rfl,by rw[<-o];exact DGet.k n,q w p}
  .cases e
theorem Hx (h:z67 i=J):GZ i:=λo v=>by ext i<;>first|rfl|ext h
theorem d_ix (hu:X.A.units+64<cLine)(hs:z67 i=J)(h:PE X a<|tD X.K fa)(j:PE X i<|tD X.K k):
  PE X (.Subscript a i pos) (tD X.K λb=>fa b>>=λx=>k b>>=λy=>iC x.2 y.2>>=λd=>.ok (gJ d x.1,d)):=
 PE.imp (G0 (Hw hu) h j<|Hx hs) λs H Q ⟨b,F,z,so,e,q⟩=>by let{x,l,e}:=Res.aA e;let{y,m,e}:=Res.aA e;let{d,n,e}:=Res.aA e;ext e;exact{b,F,x,so,l,λv t f o=>{b,F,y,so.same f,m,λu p g r=>{_,_,x.2,y.2,d,o.same g λ_ z=>z,r,n,λw c=>q w p (f.trans g)<|r0 c λ_ z=>z}}}
theorem O' (h:ZY z=J)(a b:Option Int):ZY (kW z a b)=true:=
 strOk_iff.mpr λc hc=>strOk_iff.mp h c (by
  have:c∈Mi.cut z[[]] a b:=by simpa[kW]using hc
  exact ez<|e8 this)
def Hy (a b:Option Int)(n:Nat):fy a b 1 n=sliceRange ((Mi.bC n 0 a:Nat):Int) ((Mi.bC n n b:Nat):Int) 1:=by
 delta fy
 simp
 congr 1
 .cases a with
  |none=>rfl
  |some v=>
   simp only[Mi.bC];by_cases h:v<0
   .simp only[qq h];omega
   .simp only[qr h];omega
 .cases b with
  |none=>rfl
  |some v=>
   simp only[Mi.bC];by_cases h:v<0
   .simp only[qq h];omega
   .simp only[qr h];omega
def Pa (n d:Nat)(hd:d<=n)(o:Option Int):Mi.bC n d o<=n:=by rw[<-O8];exact HT.tm n d hd o
def Pb (z:U)(a b:Option Int):Txt.slice z a b=kW z a b:=by
 have hn:z[[]].length=z.length:=by simp[Str.length]
 have e:(fy a b 1 z.length).filterMap (z.cps[·]?)=Mi.cut z[[]] a b:=by rw[Hy,m8,pick_run];unfold Mi.cut;rw[hn]
 have f:(fy a b 1 z.length).length=Mi.bC z.length z.length b-Mi.bC z.length 0 a:=by rw[Hy,m8,am,dk]
 unfold Txt.slice;split
 .rename_i hc;simp at hc;have g:=Pa z.length z.length (ag _) b
  have c:Mi.cut z[[]] a b=z[[]]:=by
   unfold Mi.cut;rw[hn];by_cases h0:Mi.bC z.length 0 a=0
   .rw[h0,List.drop_zero,j1<|by grind]
   .have d:z.length=0:=by omega
    have:z[[]]=[]:=jt.mp<|hn▸d;rw[this];simp
  unfold kW;rw[c]
 .unfold kW;rw[<-e]
def CH (K:Z5):V->Option Int->Option Int->Hp->VK->Prop:=λx lo hi H Q=>∃B dx d,Rep K H B x dx/\tL dx lo hi=.ok d/\∀w H',Same H H'->Rep K H' (λa=>nw H a\/B a) w d->(∀ds,d=.list ds->imms ds=J->Rep K H' (nw H) w d)->Q w H'
def Pc:pG X (CH X.K):=by
 intro g s n H x v o t b c sl Q I u hs pl pu h;refine(Ou.or Ny) g s n H x v o t b c sl Q I u hs pl pu ?_;let{B,w,d,r,e,q}:=h;ext w<;>try (ext e;done)
 case list xs=>ext e;let{a,j,rfl,k,i}:=pK r;refine .inl<|.inl {a,j,rfl,k,λp f=>?_};exact q _ _ (Same.upd f) (uW f (i.cut b c) (λ_ z=>.inr z)<|.inl f) λm z l=>by ext z;exact uW f (Reps.bS _ l<|i.cut b c) (λ_ z=>z) f
 case tuple xs=>
  change(if bC xs.length 0 b=0/\bC xs.length xs.length c=xs.length then Res.no else Res.ok<|ZV<|cut xs b c)=_ at e;split at e
  .cases e
  .rename_i y;ext e;let{a,j,rfl,k,i}:=r;refine .inr {a,j,rfl,k,by rw[i.length];exact y,λp f=>?_};exact q _ _ (Same.upd f) (zA f (i.cut b c) λ_ z=>.inr z) λm z=>by ext z
 case str z=>
  change(if z.length<=LIM then Res.ok (ZX<|kW z b c)else .no)=_ at e;split at e
  .rename_i hl;ext e;have A:=r.1;subst A;refine .inl<|.inr {z,rfl,mC hl,?_};rw[Pb];exact q _ H (Same.refl H) {rfl,O' r.2 b c} λm z=>by ext z
  .cases e
theorem kC:PO X Z8 (tDO X.K λ_=>.ok Z8):=PO.imp Nt λa H Q ⟨b,F,z,so,e,q⟩=>by ext e;exact q H (Same.refl H)
theorem Pd (c:PE X a<|tD X.K fa):PO X (Y a) (tDO X.K λb=>fa b>>=λx=>tM x.2):=
 PO.imp (Nu c) λk H Q ⟨b,F,z,so,e,q⟩=>by
  let{x,f,e}:=Res.aA e;refine{b,F,x,so,f,λv h i j=>?_};let{g,d}:=x;ext d<;>try (ext e;done)
  ext e;exact{_,j,q h i}
theorem d_sl {k:Option Expr}(m:PE X a<|tD X.K fa)(n:PO X k<|tDO X.K fl)(hh:PO X i<|tDO X.K o):
  PE X (.Subscript a (.Slice k i Z8 p2) pos) (tD X.K λb=>fa b>>=λx=>fl b>>=λl=>o b>>=λh=>tL x.2 l h>>=λd=>.ok (gN d<|cP [x],d)):=
 PE.imp (Nw Pc m n hh) λD H Q ⟨b,F,z,so,e,q⟩=>by
  let{x,p,e}:=Res.aA e;let{l,r,e}:=Res.aA e;let{h,s,e}:=Res.aA e;let{d,t,e}:=Res.aA e;ext e;refine{b,F,x,so,p,λv E c u=>{b,F,l,so.same c,r,λG f=>{b,F,h,so.same<|c.trans f,s,λI g=>{_,x.2,d,u.same (f.trans g) λ_ z=>z,t,λw y A j B=>q w y ((c.trans<|f.trans g).trans A)<|Hl j (λa h=>?_) λC z i=>(B C z i).weak λ_ z=>nw.back (c.trans<|f.trans g) z}}}};rcases h with h|h
  .exact Ct so.aU (c.trans<|f.trans g) h
  .exact wU so.aU ZO h
theorem Reps.pick {K:Z5}(r:Reps K H B vs ds):∀is:List Nat,Reps K H B (is.filterMap (vs[·]?)) (is.filterMap (ds[·]?))
 | []=>rfl
 |i::is=>by
  rw[cv,cv];cases h:ds[i]? with
  |some d=>let{v,h1,h2}:=r.get h;rw[h1];exact Reps.cons h2 (Reps.pick r is)
  |none=>
   have:vs[i]?=none:=by rw[ln]at h ⊢;rw[r.length];exact h
   rw[this];exact Reps.pick r is
theorem Vals.pick (r:Vals vs us):∀is:List Nat,Vals (is.filterMap (vs[·]?)) (is.filterMap (us[·]?))
 | []=>.nil
 |i::is=>by
  rw[cv,cv];cases h:vs[i]? with
  |some d=>let{v,a,b}:=r.get h;rw[a];exact .cons b (Vals.pick r is)
  |none=>
   have:us[i]?=none:=by rw[ln]at h ⊢;rw[<-r.length];exact h
   rw[this];exact Vals.pick r is
theorem d_cB {id:String}(hc:CallR X (.builtin id)<|z68 X.K m)(hm:X.mg x=Z8)(k:cy x=Y (.builtin id))(l:PA X (e::es)<|tDA X.K fs)(b:((e::es).all fun e=>!isStar e)=J)(n:Gl X x)(hn:x≠"__name__")(c:Xf x):
  PE X (.Call (.Name x p) (e::es) [] pos) (tD X.K λf=>fs f>>=λg=>m (g.map (·.2))>>=λd=>.ok (gJ d .al,d)):=
 PE.imp (zt hc hm k l b n hn c) λu H Q ⟨f,F,z,so,e,q⟩=>by let{g,o,e}:=Res.aA e;let{d,r,e}:=Res.aA e;ext e;exact{f,F,g,so,o,λv y j rs=>{_,_,d,rs.jD so.aU,r,λw s t i=>q w s (j.trans t)<|r0 i λa h=>h.elim (λz=>(nw.back j z).aU so.aU) λz=>z}}
theorem bV.length {K:Z5}:∀{a:List<|Key×V} {es:eM},bV K H B a es->a.length=es.length
 |a,[],r=>by have e:a=[]:=r;subst e;rfl
 |a,(kd,d)::es,r=>by let{k,v,t,rfl,_,_,_,q}:=r;rw[ay,ay,q.length]
def tY {K:Z5}(r:Reps K H B xs [d]):∃v,xs=[v]/\Rep K H B v d:=by let{v,t,e,h,q}:=r;subst e q;exact{(v),rfl,h}
def Pe {K:Z5}(r:Reps K H B xs [d,d']):∃v v',xs=[v,v']/\Rep K H B v d/\Rep K H B v' d':=by let{v,t,e,h,q}:=r;let{v',e2,h'}:=tY q;subst e e2;exact{(v),v',rfl,h,h'}
def Hz:CallR X (.builtin "len") (z68 X.K<|gP "len"):=by
 refine CallR.imp (Ov.or NZ) λl H Q h=>?_;let{B,g,d,r,e,q}:=h;simp only[gP,if_true]at e;split at e
 .rename_i x;let{v,rfl,i}:=tY r;clear r;have r:=i;ext x<;>try (ext e;done)
  case str z=>
   change(if z.length<=LIM then Res.ok (ZU z.length)else .no)=_ at e;split at e
   .rename_i j;ext e;have k:=r.1;subst k;exact .inl (.inl {z,rfl,mC j,q _ H (Same.refl H) rfl})
   .cases e
  case tuple g=>ext e;let{a,b,rfl,c,f}:=r;exact .inl (.inr {a,b,rfl,.inr c,q _ H (Same.refl H)<|f.length▸rfl})
  case list g=>ext e;let{a,b,rfl,c,f}:=pK r;exact .inl (.inr {a,b,rfl,.inl c,q _ H (Same.refl H)<|f.length▸rfl})
  case dict g=>ext e;let{a,b,rfl,c,_,f}:=r;exact .inr {a,b,rfl,c,q _ H (Same.refl H)<|f.length▸rfl}
 .cases e
def Pf (hc:X.calm=J):CallR X (.builtin "max") (z68 X.K<|gP "max"):=by
 refine CallR.imp (MZ hc) λc H Q h=>?_;let{B,f,d,r,e,q}:=h;simp only[gP,show("max":String)≠"len" by decide,if_true,if_false]at e;split at e
 .rename_i i j;ext e;let{v,g,rfl,a,b}:=Pe r;subst a b;refine{i,j,rfl,q _ H (Same.refl H) ?_}
  congr 1
  split<;>omega
 .cases e
def zgj (I:Inv X j q H s)(c:RelV x u)(r:Rep X.K H B x d)(l:T∈tysB)
  (h:∀m,Q (.bool<|jZ (iE d) T) {s with toks:=m}):wpAny (model X.prog X.w) A (call (.builtin "isinstance") [u,.type T]) Q E s:=by
 have n:iE d∈qE:=by ext d<;>simp[iE,qE]
 have e:=Ow X.K _ n T l;cases d with
 |none=>have f:x=.non:=r;subst f;exact z2e I c .non e h
 |bool b=>have f:x=.bl b:=r;subst f;exact z2e I c (.bl b) e h
 |int b=>have f:x=.int b:=r;subst f;exact z2e I c (.int b) e h
 |str b=>have f:x=.str b:=r.1;subst f;exact z2e I c (.str b) e h
 |tuple p=>let{a,k,rfl,g,_}:=r;ext c;let{_,_,{o,i,hc,_},_}:=I.tuple g;exact Z1 W.kitx_tuple I.dM {(o),i,hc} e (λz=>nomatch z) h
 |list p=>let{a,k,rfl,g,_}:=pK r;ext c;let{_,_,{o,_,i,hc,_},_}:=I.list g;exact Z1 W.kitx_list I.dM {(o),i,hc} e (λz=>nomatch z) h
 |dict es=>let{a,k,rfl,g,_}:=r;exact z2e I c (.dK g) e h
def CJ (K:Z5):List V->Hp->VK->Prop:=λxs H Q=>∃B x d T,xs=[x,.ty T]/\Rep K H B x d/\T∈tysB/\Q (.bl<|jZ (iE d) T) H
def Pg:CallR X (.builtin "isinstance") (CJ X.K):=by
 rintro a s h H i j Q I r ⟨B,x,d,T,rfl,b,c,q⟩
 let{u,e,rfl,f,g}:=vals2 r;obtain rfl:e=Value.type T:=g;exact zgj I f b c λk=>{.bl _,H,I.tok _,rfl,q}
theorem zxj (hm:X.mg "isinstance"=Z8)(hg:Gl X "isinstance")(hm2:X.mg x2=Z8)(hv2:cy x2=Y (.type T))(hg2:Gl X x2)(hn2:x2≠"__name__")(hd2:Xf x2)(hT:T∈tysB)(hs:isStar y=Z6)(ha:PE X y<|tD X.K fa):
  PE X (.Call (.Name "isinstance" p) [y,.Name x2 p2] [] pos) (tD X.K λρ=>fa ρ>>=λx=>.ok (.fr,.bool<|[T].any λT=>jZ (iE x.2) T)):=
 PE.imp (zt Pg hm Z' (dY ha (dY (Mq (v:=.ty T) hg2 hm2 hv2 rfl hn2 hd2) kR) hs) (by simp[hs];rfl) hg dc dc) λσ H Q ⟨ρ,F,z,so,e,q⟩=>by let{x,e1,e}:=Res.aA e;ext e;refine{ρ,F,x,so,e1,λv H1 s1 rv=>?_};refine{_,v,x.2,T,rfl,rv,hT,q _ H1 s1 ?_};show V.bl _=V.bl _;simp
end
section
variable {X:Cx}{pos:Pos}
end
def Kp (B:Ad->Prop)(H1 H2:Hp):Prop:=∀a o,H1 a=Y o->(B (Y a)\/Fix o)->H2 a=Y o
theorem Kp.of (s:Same b c):Kp B b c:=λa o e _=>s a o e
structure Walk (K:Z5)(ZK:It)(B:Ad->Prop)(H1:Hp)(xs:List D):Prop where
 len:xs.length<=aw
 go:∀H2,Kp B H1 H2->∀i,i<xs.length->ZK.go i H2
 stop:∀H2,Kp B H1 H2->ZK.stop xs.length H2
 lK:∀H2,Kp B H1 H2->∀i x H3,i<xs.length->ZK.lK i H2 x H3->Same H2 H3/\∃d,xs[i]?=Y d/\Rep K H3 B x d
def tDW (K:Z5)(f:Rho->Res (G×List D)):TI:=λσ H R=>∃ρ F w,StOk K F H σ ρ/\f ρ=.ok w/\∀ZK B H',Same H H'->(∀a,B a->BG F H w.1 a/\¬nw H' a)->Walk K ZK B H' w.2->R ZK H'
theorem _root_.L2.PI.imp (h:PI X c e t)(i:∀a H Q,d a H Q->t a H Q):PI X c e d:=λb s a H Q I q=>h b s a H Q I (i a H Q q)
section
variable {K:Z5}{H:Hp}{B:Ad->Prop}
def Ph (h:(H a=Y (.lst c)/\B (Y a))\/(FL K H a c/\B Z8))(r:Reps K H B c g)(l:g.length<=aw):Walk K (Bz K a) B H g:=by
 have f:∀e,Kp B H e->SqL K e a c:=λe k=>by
  rcases h with⟨h,b⟩|⟨⟨o,h⟩|h,_⟩
  .exact .inl (.inl<|k a _ h<|.inl b)
  .exact .inl (.inr {o,k a _ h<|.inr True.intro})
  .exact .inr h
 refine{l,λe k i j=>?_,λe k=>{c,f e k,by rw[r.length];exact ag _},λe k i x q j y=>?_}
 .have m:i<c.length:=r.length▸j;exact{c,c[i],f e k,by simp[m]}
 .let{rfl,y}:=y;let{d,n,p}:=r.lX<|y c<|f _ k;exact{Same.refl _,d,n,Rep.keep k (λ_ z=>z) d p}
def Pj (h:dC K H a c)(r:Reps K H B c f)(j:f.length<=aw):Walk K (Gp K a) B H f:=by
 have e:∀b,Kp B H b->dC K b a c:=λb k=>h.keep k;refine{j,λb k i g=>?_,λb k=>{c,e b k,by rw[r.length];exact ag _},λb k i x o g y=>?_}
 .have l:i<c.length:=r.length▸g;exact{c,c[i],e b k,by simp[l]}
 .let{rfl,y}:=y;let{d,m,n}:=r.lX<|y c<|e _ k;exact{Same.refl _,d,m,Rep.keep k (λ_ z=>z) d n}
def Pk (ok:ZY z=J)(e:z.length<=aw):Walk K (B2 z) B H (z[[]].map λc=>.str {#[c]}):=by
 have b:(z[[]].map λc=>(ZX {#[c]}:D)).length=z.cps.size:=by simp
 refine{by rw[b];exact e,λd k i hi=>?_,λd k=>?_,λd k i x g hi y=>?_}
 .rw[b]at hi;exact hi
 .show z.cps.size<=_;rw[b];simp_all
 .let{rfl,c,f,rfl}:=y;have a:z[[]][i]?=Y c:=by simpa using f
  refine{Same.refl _,.str {#[c]},by rw[bv,a];rfl,rfl,Hi ok<|dg a}
def Pl {b:Int}(e:n<=aw):Walk K (zh b n) B H ((dz n).map λ(i:Nat)=>.int<|b+i):=by
 have c:((dz n).map λ(i:Nat)=>(ZU (b+i):D)).length=n:=by simp
 refine{by rw[c];exact e,λd k i a=>?_,λd k=>?_,λd k i x f a y=>?_}
 .rw[c]at a;exact a
 .show n<=_;rw[c];simp_all
 .let{rfl,rfl}:=y;rw[c]at a;exact{Same.refl _,.int<|b+i,by rw[bv,List.getElem?_range a];rfl,rfl}
end
section
variable {X:Cx}{tg a b c e:Expr}{es:List Expr}{fa fb fc:Rho->Res GD}{pos:Pos}
def z6c {pins:List<|Addr×Obj}{σ:L2.St}{H1:Hp}{s1:aq}{v:Value}{y:V}{B:Ad->Prop}{d:D}{xs:List D}{R:It->Hp->Prop}(I1:Inv X pins σ H1 s1)(r1:RelV y v)(rv:Rep X.K H1 B y d)(e:z54 d=.ok xs)
  (q:∀ZK,Walk X.K ZK B H1 xs->R ZK H1):X['a'] (p8 v) (sQ X pins σ tg R) X.xe s1:=by
 ext d<;>try (ext e;done)
 case list ds=>
  ext e;let{a,vs,rfl,h,rs}:=rv
  have hq:SqL X.K H1 a vs:=by
   rcases h with⟨h,_⟩|⟨h|h,_⟩
   .exact .inl (.inl h)
   .exact .inl (.inr h)
   .exact .inr h
  ext r1;let{dV,tZ,p,hz}:=I1.list hq;refine jx p.isList ?_;refine{s1[?_],[s1[?_]],_,_,H1,rfl,I1.kept (t':=s1.toks) λb o e=>af _ e,Gq a _,{_,ba _ rfl,rfl,rfl},λb hb=>?_,q _<|Ph h rs (by rw[<-rs.length];exact hz)};have e:b=s1[?_]:=by simpa using hb
  subst e;exact I1.i' (ag _) (I1.hok.fresh<|ag _)
 case tuple ds=>
  ext e;let{a,vs,rfl,hq,rs}:=rv;ext r1;let{dV,tZ,p,hz}:=I1.tuple hq;refine o0 (show s1.heap.IsTuple a dV.toArray from p) ?_;refine{s1[?_],[s1[?_]],_,_,H1,rfl,I1.kept (t':=s1.toks) λb o e=>af _ e,MC a _,{_,ba _ rfl,rfl,rfl},λb hb=>?_,q _<|Pj hq rs (by rw[<-rs.length];exact hz)};have e:b=s1[?_]:=by simpa using hb
  subst e;exact I1.i' (ag _) (I1.hok.fresh<|ag _)
 case str z=>
  change(if z.length<=LIM then Res.ok (z[[]].map λc=>ZX {#[c]})else .no)=_ at e;split at e
  case isFalse=>ext e
  rename_i hs;ext e;have e1:y=.str z:=rv.1;subst e1;let{t,rfl}:=r1;have qz:=q _ (Pk rv.2<|mC hs)
  have fin:∀(ty:String) (HA:ty="str_ascii_iterator"\/ty="str_iterator"),sQ X pins σ tg R (.ref s1[?_]) {s1 with heap:=s1.heap.push {cls:=.type ty,data:=.fields #[.str z t,.int 0 0]}}:=λty HA=>by
   refine{s1[?_],[s1[?_]],_,_,H1,rfl,I1.kept (t':=s1.toks) λb o e=>af _ e,Og HA _ z t,{_,ba _ rfl,rfl,rfl},λb hb=>?_,qz};have e:b=s1[?_]:=by simpa using hb
   subst e;exact I1.i' (ag _) (I1.hok.fresh<|ag _)
  cases ha:z.cps.all (· <128)
  .exact wpAny_pyIter_wide ha (fin _<|.inr rfl)
  .exact wpAny_pyIter_ascii ha (fin _<|.inl rfl)
def fI (ha:PE X a<|tD X.K fa):PI X tg a (tDW X.K λρ=>fa ρ>>=λx=>z54 x.2>>=λxs=>.ok (x.1,xs)):=by
 rintro pins s σ H R I ⟨ρ,F,w,so,e,q⟩
 let{x,e1,e}:=Res.aA e;let{xs,e2,e}:=Res.aA e;ext e;refine aR (ha pins s σ H (λv H1=>Same H H1/\Rep X.K H1 (BG F H x.1) v x.2) I {ρ,F,x,so,e1,λv H1 s1 rv=>{(s1),rv}}) λv s1 zz=>?_;let{y,H1,I1,r1,Pm,rv}:=zz;exact z6c I1 r1 (Rep.there _ rv) e2 λZK wk=>q ZK _ H1 Pm (λ_ z=>z) wk
def Pn {n:Int}(a:n<=LIM)(b:-LIM<=n):-(2 ^ 62)<=n/\n<2 ^ 62:=by unfold LIM at *;omega
def eB.one {K:Z5}(r:eB K F H H' vs [x]):∃v,vs=[v]/\Rep K H' (BG F H x.1) v x.2:=by let{v,t,e,h,q}:=r;subst e q;exact{(v),rfl,h}
def eB.two {K:Z5}(r:eB K F H H' vs [x,y]):∃v w,vs=[v,w]/\Rep K H' (BG F H x.1) v x.2/\Rep K H' (BG F H y.1) w y.2:=by let{v,t,e,h,q}:=r;let{w,a,b}:=q.one;subst e a;exact{(v),w,rfl,h,b}
theorem Po (hm:X.mg "range"=Z8)(l:Gl X "range")(hs:isStar a=Z6)(m:PA X [a]<|tDA X.K fs)(o:∀c b,fs c=.ok b->b.length=1):PI X y (.Call (.Name "range" p) [a] [] pos) (tDW X.K λc=>fs c>>=λb=>lQ (b.map (·.2))>>=λj=>.ok (.fr,j)):=
 PI.imp (MH l hm m<|eK hs) λA H R ⟨c,F,w,so,e,q⟩=>by
  let{b,k,e}:=Res.aA e;let{j,f,e}:=Res.aA e;ext e;refine{c,F,b,so,k,λB r s rs=>?_}
  match b,(o c b k)with
  | [(g,d)],t=>
   let{v,rfl,u}:=rs.one;ext d<;>try (ext f;done)
   rename_i n;subst u;change(if n<=LIM/\-LIM<=n then Res.ok ((dz n.toNat).map λ(i:Nat)=>ZU i)else .no)=_ at f;split at f
   case isFalse=>ext f
   rename_i hn;ext f;have h:=Pn hn.1 hn.2;refine{n,rfl,h.1,h.2,q _ (λ_=>False) r s (λ_ z=>z.elim) ?_};have x:((dz n.toNat).map λ(i:Nat)=>(ZU i:D))=(dz n.toNat).map λi=>.int (0+i):=by apply ny;intro i _;rw[Int.zero_add]
   rw[x];exact Pl (mC (by unfold LIM at *;omega))
def Fm.drop (F:Fm)(i:Nat):Fm:={F with O:=λa=>if F.O a=Y i then Z8 else F.O a}
def Fm.bY {F:Fm}{a:Addr}(h:F.O a=Z8):(F.drop i).O a=none:=by show(if F.O a=Y i then Z8 else F.O a)=Z8;rw[h];rfl
def Bin.drop {a:Ad}(h:Bin F a):Bin (F.drop i) a:=by
 cases a with
 |none=>exact h
 |some a=>exact{Fm.bY h.1,h.2}
def Slot.drop {K:Z5}(a:j≠i)(h:Slot K F H j g v d):Slot K (F.drop i) H j g v d:=by
 cases g with
 |fr=>
  let{p,e,o,h}:=h;refine{p,e,?_,?_}
  .show(if F.O p=Y i then Z8 else F.O p)=Y j;rw[o,qr<|λz=>a<|qt z]
  .rcases h with⟨c,f,k,l,r⟩|⟨c,f,k,l,r⟩
   .exact .inl {c,f,k,l,r.weak λ_ b=>b.drop}
   .exact .inr {c,f,k,l,bV.same (λ_ _ e=>e) (λ_ b=>b.drop) r}
 |od=>exact h
 |al=>exact h
 |nu=>exact Rep.weak (λ_ b=>b.drop) h
def BI (F:Fm):G->Ad->Prop
 |.od=>gQ F
 |.fr=>cB F
 |.al=>cB F
 |.nu=>cB F
def BI.of {a:Ad}(b:∀a,H a=Z8->F.V a)(h:BG F H g a):BI F g a:=by
 cases g with
 |fr=>exact nw.aU b h
 |od=>exact h
 |al=>exact h
 |nu=>exact h.elim (nw.aU b) Bin.aU
theorem StOk.mE {K:Z5}(so:StOk K F H f h)(r:Rep K H (BI F x.1) v x.2):StOk K (F.drop i) H (f.set i<|Y v) (h.set i<|Y<|mZ x) where
 ext:=so.ext
 aU:=so.aU
 own:=λa j e=>by
  have k:F.O a=Y j:=by
   have:(if F.O a=Y i then Z8 else F.O a)=Y j:=e;split at this
   .cases this
   .exact this
  exact so.own a j k
 len:=by rw[cw,cw];exact so.len
 sl:=λj g d e=>by
  by_cases c:i=j
  .subst c;rw[dm]at e;simp only[if_true]at e;split at e
   .rename_i l;have b:mZ x=(g,d):=by simpa using e
    refine{v,?_,?_}
    .rw[dm];simp[so.len,l]
    .let{m,dx}:=x;cases m with
     |fr=>cases b;exact r
     |od=>cases b;exact r
     |al=>cases b;exact r
     |nu=>cases b;exact r
   .cases e
  .rw[bw c]at e ⊢;let{u,n,o}:=so.sl j g d e;exact{u,n,o.drop λz=>c z.symm}
structure Keeps (F F':Fm)(is:List Nat)(σ bM:L2.St):Prop where
 h0:F'.H0=F.H0
 v:F'.V=F.V
 z:F'.z=F.z
 o:∀a,F.O a=Z8->F'.O a=Z8
 len:bM.length=σ.length
 rest:∀j,j∉is->bM[j]?=σ[j]?
theorem Keeps.refl:Keeps F F is σ σ:={rfl,rfl,rfl,λ_ h=>h,rfl,λ_ _=>rfl}
theorem Keeps.set {v:Option V}(h:i∈is):Keeps F (F.drop i) is σ (σ.set i v):={rfl,rfl,rfl,λ_ h=>Fm.bY h,cw,λj a=>bw λz=>a (by rw[<-z];exact h)}
theorem Keeps.trans (a:Keeps F F' is σ bM)(b:Keeps F' Pp is bM CK):Keeps F Pp is σ CK:={b.h0.trans a.h0,b.v.trans a.v,b.z.trans a.z,λx h=>b.o x<|a.o x h,b.len.trans a.len,λj hj=>(b.rest j hj).trans<|a.rest j hj}
def tDG (K:Z5)(t:Tg):TG:=λv σ H Q=>∃ρ F x bQ,StOk K F H σ ρ/\Rep K H (BI F x.1) v x.2/\gG t x ρ=.ok bQ/\∀bM F',StOk K F' H bM bQ->Keeps F F' (tgIx t) σ bM->Q bM H
theorem _root_.L2.PG.imp (h:PG X e t)(i:∀v σ H Q,t' v σ H Q->t v σ H Q):PG X e t':=λpins s σ H v u Q I r q=>h pins s σ H v u Q I r (i v σ H Q q)
theorem _root_.L2.PGs.imp {e:List Expr}(h:PGs X e t)(i:∀v σ H Q,t' v σ H Q->t v σ H Q):PGs X e t':=λpins s σ H v u Q I r q=>h pins s σ H v u Q I r (i v σ H Q q)
theorem Pq (hN:X.N.Nodup)(a:X.N[i]?=Y x)(b:Loc X.env.scope x)(hf:X.fn x=J\/X[!x]=Y .local):PG X (.Name x pos) (tDG X.K<|.nm i):=PG.imp (Gi hN a b hf) λv d H Q ⟨f,F,x,c,so,r,e,q⟩=>by ext e;exact q _ _ (so.mE r) (Keeps.set<|by simp[tgIx])
def oH (K:Z5)(all is:List Nat):uK:=λvs σ H Q=>∃ρ F g ds bQ,(∀i∈is,i∈all)/\StOk K F H σ ρ/\Reps K H (BI F g) vs ds/\tJ ρ is ds g=Y bQ/\∀bM F',StOk K F' H bM bQ->Keeps F F' all σ bM->Q bM H
theorem Pr:PGs X [] (oH X.K all []):=
 PGs.imp MB λf b H Q ⟨h,F,g,a,c,_,so,r,e,q⟩=>by
  cases a with
  |nil=>ext e;exact{r,q b F so Keeps.refl}
  |cons d a=>ext e
theorem Pt (hN:X.N.Nodup)(c:X.N[i]?=Y x)(u:Loc X.env.scope x)(hf:X.fn x=J\/X[!x]=Y .local)(h:PGs X es<|oH X.K all is):PGs X (.Name x p::es) (oH X.K all (i::is)):=
 PGs.imp (zgk (Gi hN c u hf) h<|by rfl) λB C H Q ⟨w,F,g,l,m,f,so,r,e,q⟩=>by
  cases l with
  |nil=>ext e
  |cons d l=>
   let{v,t,rfl,s,y}:=r;refine{v,t,rfl,w.set i<|Y<|mZ (gJ d g,d),F.drop i,g,l,m,λj z=>f j<|ao _ z,?_,?_,e,λn A o k=>q n A o<|(Keeps.set<|f i ar).trans k}
   .refine so.mE ?_;unfold gJ;by_cases c:imm d=J
    .rw[qq c];exact Rep.bS d c s
    .rw[qr c];exact s
   .exact y.weak λa b=>by ext g<;>exact b
theorem Pu (x:X.calm=J)(h:PGs X es<|oH X.K is is)(hn:(fo es X.env).length=n)(p:(fo es X.env).findIdx? (·.1)=Z8)(y:is.length=n):PG X (.Tuple es k pos) (tDG X.K<|.tp is):=
 λl s z H v u Q I A ⟨f,F,⟨g,d⟩,j,so,r,e,q⟩=>by
  have m:∀is b f c,tJ f is b g=Y c->is.length=b.length:=by
   intro is
   induction is with
   |nil=>intro b f c h;cases b with
    |nil=>rfl
    |cons _ _=>ext h
   |cons i is B=>intro b f c h;cases b with
    |nil=>ext h
    |cons d b=>rw[ay,ay,B b _ _ h]
  have t:∀b,Res.gF (tJ f is b g)=.ok j->tJ f is b g=Y j:=λb e=>by
   cases o:tJ f is b g with
   |none=>rw[o]at e;ext e
   |some c=>rw[o]at e;rw[Res.ok.inj e]
  ext d<;>try (ext e;done)
  case tuple b=>have o:=t b e;let{a,C,rfl,D,w}:=r;exact zro x h hn p l s z H _ u Q I A {a,C,rfl,D,by rw[w.length,<-m _ _ _ _ o];exact y,f,F,g,b,j,λ_ h=>h,so,w,o,q}
theorem StOk.blk {K:Z5}(so:StOk K F H s k)(m:Nat)(js:List Nat)(l:Addr)(u:List V)(c:H l=Z8):
  StOk K {F with V:=λa=>F.V a/\a≠l,O:=λ_=>Z8} (upd H l<|.lst u) (gZ m js s) (bq m Z8++js.map λj=>gO<|k.getD j Z8) where
 ext:=λa o e=>by have:=so.ext a o e;rw[aK<|gY this c];exact this
 aU:=λa e=>by
  by_cases h:a=l
  .subst h;rw[bH]at e;ext e
  .rw[aK h]at e;exact{so.aU a e,h}
 own:=λa i e=>by ext e
 len:=by unfold gZ;simp
 sl:=λi g d e=>by
  have n:∀a,cB F a/\¬nw H a->cB {F with V:=λa=>F.V a/\a≠l,O:=λ_=>Z8} a:=λa h=>by
   cases a with
   |none=>exact h.1
   |some a=>exact{h.1,λz=>h.2<|z▸c}
  have p:∀a,gQ F a/\¬nw H a->gQ {F with V:=λa=>F.V a/\a≠l,O:=λ_=>Z8} a:=λa h=>by
   cases a with
   |none=>exact h.1
   |some a=>exact{h.1.1,h.1.2,λz=>h.2<|z▸c}
  rw[ko]at e;split at e
  .rw[cu]at e;split at e<;>ext e
  .rename_i w;rw[cz]at w e;rw[bv]at e;cases q:js[i-m]? with
   |none=>rw[q]at e;ext e
   |some j=>
    rw[q]at e;have b:gO (k.getD j Z8)=Y (g,d):=qt e;cases r:k[j]? with
    |none=>rw[ah,r]at b;ext b
    |some o=>
     rw[ah,r]at b;cases o with
     |none=>ext b
     |some gd=>
      let{t,d0}:=gd;let{v,x,f}:=so.sl j t d0 r;refine{v,?_,?_}
      .unfold gZ;rw[jf (by grind),cz,bv,q];show Y (s.getD j Z8)=_;rw[ah,x];rfl
      .cases t with
       |fr=>ext b;exact Rep.same (Same.upd c) n (Rep.there _<|f.rep so.j')
       |od=>ext b;exact Rep.same (Same.upd c) p (Rep.there _ f)
       |al=>ext b;exact Rep.same (Same.upd c) n (Rep.there _ f)
       |nu=>ext b;exact Rep.same (Same.upd c) n (Rep.there _<|f.rep so.j')
theorem CL:∀l m r,lR f (l++m)=.ok r->∃a b,lR f l=.ok a/\lR f m=.ok b/\r=a++b
 | [],m,r,h=>{[],r,rfl,h,rfl}
 |x::l,m,r,h=>by
  let{o,c,h}:=Res.aA h;let{d,e,h}:=Res.aA h;let{a,b,g,i,rfl}:=CL l m d e;ext h;refine{oc o a,b,?_,i,?_}
  .show(f x>>=λo=>lR f l>>=λr=>Res.ok<|oc o r)=_;rw[c,Res.aB,g,Res.aB]
  .cases o<;>rfl
theorem eB.snoc {K:Z5}:∀{vs:List V} {xs:List GD} {v:V} {x:GD},eB K F H H' vs xs->Rep K H' (BG F H x.1) v x.2->eB K F H H' (vs++[v]) (xs++[x])
 |vs,[],v,x,r,h=>by have e:vs=[]:=r;subst e;exact{v,[],rfl,h,rfl}
 |vs,y::ys,v,x,r,h=>by let{u,t,rfl,h1,q}:=r;exact{u,t++[v],rfl,h1,q.snoc h}
theorem eB.keep {K:Z5}(d:∀a o g,f a=Y o->(BG F H g (Y a)\/Fix o)->h a=Y o):∀{c:List V} {xs:List GD},eB K F H f c xs->eB K F H h c xs
 |c,[],r=>r
 |c,y::ys,r=>by let{u,t,e,i,q}:=r;exact{u,t,e,Rep.keep (λa o e b=>d a o y.1 e b) (λ_ z=>z) _ i,q.keep d}
theorem eB.len {K:Z5}:∀{a:List V} {xs:List GD},eB K F H H' a xs->a.length=xs.length
 |a,[],r=>by have e:a=[]:=r;subst e;rfl
 |a,y::b,r=>by let{u,t,rfl,c,q}:=r;rw[ay,ay,q.len]
theorem HB:∀l r,lR f l=.ok r->r.length<=l.length
 | [],r,h=>by ext h;simp_all
 |x::l,r,h=>by
  let{o,c,h}:=Res.aA h;let{a,b,h}:=Res.aA h;have:=HB l a b;ext h;cases o with
  |none=>exact bj this ZO
  |some y=>simp only[oc,ay];omega
def zhk (nt:Nat)(js:List Nat)(t:Tg)(fw:Rho->Res (G×List D))(fc:Rho->Res Bool)(fe:Rho->Res GD):Rho->Res GD:=λρ=>fw ρ>>=λw=>lR (λx=>gG t (gJ x w.1,x) (bq nt Z8++js.map λj=>gO<|ρ.getD j Z8)>>=λρ1=>fc ρ1>>=λk=>if k then fe ρ1>>=λy=>.ok (Y y)else .ok Z8) w.2>>=λys=>.ok (rW ys,.list (ys.map (·.2)))
def Pw (g:TG)(tc:TT)(te:TE)(em:L2.St->L2.St)(σ:L2.St)(Q:VK):It->Hp->Prop:=λZK H1=>∀l,H1 l=Z8->∃P:Nat->Nat->List V->Hp->Prop,(∃m,P 0 m []<|upd H1 l<|.lst [])/\∀i m acc H2,P i m acc H2->(ZK.stop i H2/\Q (.ref l) H2)\/(ZK.go i H2/\acc.length<aw/\∃N:List V->Hp->Prop,(∀nV H',N nV H'->∃m',m'<m/\P (i+1) m' nV H')/\∀x H3,ZK.lK i H2 x H3->g x (em σ) H3 λlO H4=>nU (em σ) lO/\tc lO H4 λb H5=>if b=J then te lO H5 λy H6=>H6 l=Y (.lst acc)/\N (acc++[y]) (upd H6 l<|.lst<|acc++[y])else N acc H5)
abbrev CI (K:Z5)(F:Fm)(f:D->Res (Option GD))(ds:List D)(H1:Hp)(l:Nat)(i:Nat)(acc:List V)(H2:Hp):Prop:=H2 l=Y (.lst acc)/\(∀a o,H1 a=Y o->H2 a=Y o)/\∃ys,lR f (ds.take i)=.ok ys/\eB K F (upd H1 l<|.lst []) H2 acc ys
def zap {fc:Rho->Res Bool}(ht0:∀i∈tgIx t,i<nt)(so:StOk X.K F H σ ρ)(e:zhk nt js t fw fc fe ρ=.ok z)(q:∀v D,Same H D->Rep X.K D (BG F H z.1) v z.2->Q v D):
  ∃w,fw ρ=.ok w/\∀ZK B D,Same H D->(∀a,B a->BG F H w.1 a/\¬nw D a)->Walk X.K ZK B D w.2->Pw (tDG X.K t) (eA X.K fc) (tD X.K fe) (gZ nt js) σ Q ZK D:=by
 let{w,W,e}:=Res.aA e;let{ZM,e2,e}:=Res.aA e;ext e;refine{w,W,λZK B s s1 hB wk l I=>?_};generalize hr:(bq nt Z8++js.map λj=>gO<|ρ.getD j Z8)=HC at e2;generalize hf:(λx=>gG t (gJ x w.1,x) HC>>=λn=>fc n>>=λk=>if k then fe n>>=λy=>Res.ok (Y y)else .ok Z8)=f at e2;have zG:=so.same s1;have CM:∀i,∃S,lR f (w.2.take i)=.ok S:=λi=>by rw[<-List.take_append_drop i w.2]at e2;let{r1,r2,T,_,_}:=CL _ _ _ e2;exact{r1,(T)}
 let L:Fm:={F with V:=λa=>F.V a/\a≠l,O:=λ_=>Z8}
 refine zvz (CI X.K L f w.2 s l) wk.len ?_ ?_ ?_ ?_ ?_
 .exact{bH,λa o e=>by rw[aK<|gY e I];exact e,[],rfl,rfl}
 .rintro i p ZL ⟨_,_,S,M,rs⟩
  rw[rs.len];have:=HB _ _ M;rw[du]at this;omega
 .rintro p ZL ⟨T,E,S,M,rs⟩
  rw[List.take_length]at M;rw[e2]at M;ext M;refine{wk.stop ZL<|λa o e _=>E a o e,q _ _ (λa o e=>E a o<|s1 a o e) ?_};have HD:=s1.none I;refine{l,p,rfl,.inl {T,?_},rs.oG λx hx a hb=>?_}
  .show BG F H (rW ZM) (Y l);unfold rW;split
   .exact HD
   .exact so.aU l HD
  .unfold rW;by_cases ea:(ZM.all λx=>x.1==.fr)=J
   .rw[qq ea];have HE:x.1=.fr:=by simpa using bc.mp ea x hx
    rw[HE]at hb;cases a with
    |none=>exact hb
    |some a=>
     have HF:upd s l (.lst []) a=none:=hb
     have:s a=none:=by
      by_cases c:a=l
      .subst c;exact I
      .rw[aK c]at HF;exact HF
     exact s1.none this
   .rw[qr ea];have:cB L a:=BG.aU (λa e=>((zG.blk nt js l [] I).aU a e)) hb;cases a with
    |none=>exact this
    |some a=>exact this.1
 .rintro i p ZL N ⟨_,E,_⟩
  exact wk.go ZL (λa o e _=>E a o e) i N
 .rintro i p ZL x H3 N ⟨T,E,S,M,rs⟩ y
  let{s3,d,hd,rx}:=wk.lK ZL (λa o e _=>E a o e) i x H3 N y;let{W3,A}:=CM<|i+1;have P:w.2.take (i+1)=w.2.take i++[d]:=by rw[List.take_add_one,hd];rfl
  rw[P]at A;let{r1,r2,g1,g2,g3}:=CL _ _ _ A;rw[M]at g1;ext g1;let{o,C,g2}:=Res.aA g2;let{r3,g5,g2}:=Res.aA g2;ext g5;rw[<-hf]at C;let{n,k1,C}:=Res.aA C;let{k,k2,C}:=Res.aA C
  have sb:StOk X.K L H3 (gZ nt js σ) HC:=by
   rw[<-hr];refine(zG.blk nt js l p I).same λa o e=>s3 a o ?_;by_cases c:a=l
   .subst c;rw[bH]at e;rw[T];exact e
   .rw[aK c]at e;exact E a o e
  have CN:Rep X.K H3 (BI L<|gJ d w.1) x d:=by
   unfold gJ;by_cases N:imm d=J
   .rw[qq N];exact Rep.bS d N rx
   .rw[qr N];refine rx.weak λa b=>?_;let{r,b2}:=hB a b;have G:=BI.of so.aU r;cases a with
    |none=>cases hw:w.1<;>rw[hw]at G<;>exact G
    |some a=>
     have c:a≠l:=λz=>b2 (by rw[z];exact I);cases hw:w.1<;>rw[hw]at G
     .exact{(G),c}
     .exact{G.1,G.2,(c)}
     .exact{(G),c}
     .exact{(G),c}
  refine{_,L,(gJ d w.1,d),n,sb,CN,k1,λlO R zH h=>{{h.len.symm,λj v hj=>?_},n,R,k,zH,k2,λH5 s5=>?_}}
  .by_cases HG:j∈tgIx t
   .have :=ht0 j HG;unfold gZ at hj;rw[eo<|cz▸this,cu,qq this]at hj;ext hj
   .rw[h.rest j HG];exact hj
  .have h5:∀a o,s a=Y o->H5 a=Y o:=λa o e=>s5 a o<|s3 a o<|E a o e;have u:=s5 _ _<|s3 _ _ T;have HH:=rs.keep λa o g e _=>s5 a o<|s3 a o e;cases k with
   |false=>ext C;ext g2;refine aY {u,h5,S,?_,HH};rw[P,A,g3];simp[oc]
   |true=>
    let{yv,k3,C}:=Res.aA C;ext C;ext g2;refine bD {n,R,yv,zH.same s5,k3,λv H6 s6 rv=>{s6 _ _ u,bH,λa o e=>?_,S++[yv],?_,?_}}
    .rw[aK<|gY e I];exact s6 a o (h5 a o e)
    .rw[P,A,g3];rfl
    .have Px:=s6 _ _ u
     have hk:∀a o g,H6 a=Y o->(BG L (upd s l<|.lst []) g (Y a)\/Fix o)->upd H6 l (.lst<|p++[v]) a=Y o:=λa o g e b=>by
      have c:a≠l:=by
       intro z;subst z;rcases b with b|b
       .cases g with
        |fr=>have m:upd s a (.lst []) a=none:=b;rw[bH]at m;ext m
        |od=>exact b.2.2 rfl
        |al=>exact b.2 rfl
        |nu=>
         rcases b with b|b
         .have m:upd s a (.lst []) a=none:=b;rw[bH]at m;ext m
         .exact b.2.2.2 rfl
       .rw[Px]at e;ext e;exact b
      rw[aK c];exact e
     have tZ:Rep X.K H6 (BG L (upd s l<|.lst []) yv.1) v yv.2:=by
      refine rv.weak λa b=>?_;cases hg:yv.1 with
      |fr=>
       rw[hg]at b;cases a with
       |none=>exact b
       |some a=>
        have m:H5 a=none:=b;show upd s l (.lst []) a=Z8;rw[aK (λz=>by rw[z,u]at m;ext m)];cases W:s a with
        |none=>rfl
        |some o=>rw[h5 a o W]at m;ext m
      |nu=>
       rw[hg]at b;cases a with
       |none=>exact b
       |some a=>
        rcases b with b|b
        .have m:H5 a=none:=b;refine .inl ?_;show upd s l (.lst []) a=Z8;rw[aK (λz=>by rw[z,u]at m;ext m)];cases W:s a with
         |none=>rfl
         |some o=>rw[h5 a o W]at m;ext m
        .refine .inr {rfl,?_,?_}
         .have:=b.2.1;rw[h.h0]at this;exact this
         .have:=b.2.2;rw[h.v]at this;exact this
      |od=>
       rw[hg]at b;cases a with
       |none=>have r:R.z:=b;rw[h.z]at r;exact r
       |some a=>have r:R.H0 a≠Z8/\R.V a:=b;rw[h.h0,h.v]at r;exact r
      |al=>
       rw[hg]at b;cases a with
       |none=>have r:R.z:=b;rw[h.z]at r;exact r
       |some a=>have r:R.V a:=b;rw[h.v]at r;exact r
     exact((HH.keep λa o g e _=>s6 a o e).snoc tZ).keep hk
def Py {fc:Rho->Res Bool}(ht0:∀i∈tgIx t,i<nt):∀σ H Q,tD X.K (zhk nt js t fw fc fe) σ H Q->zq (tDW X.K fw) (tDG X.K t) (eA X.K fc) (tD X.K fe) (gZ nt js) σ H Q:=by
 rintro σ H Q ⟨ρ,F,z,so,e,q⟩
 let{w,e1,h}:=zap ht0 so e q;exact{(ρ),F,w,so,e1,h}
def ze8 {fc:Rho->Res Bool}(hc:X.calm=J)(Bk:BlkScope X scope N' nt js)(ht0:∀i∈tgIx t,i<nt)(hi:PI X tg iter<|tDW X.K fw)
  (hg:∀C fp s H,PG (blk X scope N' C fp s H) tg<|tDG X.K t) (ht:∀C fp s H,rS (blk X scope N' C fp s H) ifs<|eA X.K fc) (he:∀C fp s H,PE (blk X scope N' C fp s H) elt<|tD X.K fe) (hs:∀x,fh iter X.env x=pure x):
  PE X (.ListComp elt [{tg,iter,ifs,(0)}] scope pos) (tD X.K<|zhk nt js t fw fc fe)/\∀σ H Q,tD X.K (zhk nt js t fw fc fe) σ H Q->zq (tDW X.K fw) (tDG X.K t) (eA X.K fc) (tD X.K fe) (gZ nt js) σ H Q:=by
 have main:=Py (X:=X) (js:=js) (fw:=fw) (fc:=fc) (fe:=fe) ht0;exact{PE.imp (zh0 hc Bk hi hg ht he hs) main,main}
end
def BC (H:Hp)(A:Ad->Prop):G->Ad->Prop
 |.fr=>nw H
 |.od=>λa=>nw H a\/A a
 |.al=>λa=>nw H a\/A a
 |.nu=>nw H
def spD (K:Z5)(n:Nat)(m:Fn):Sp:=λvs H Q _=>∃A ds x,vs.length=n/\Reps K H A vs ds/\m ds=.ok x/\∀v H',Same H H'->Rep K H' (BC H A x.1) v x.2->Q v H'
section
variable {X:Cx}{tg a b c e o:Expr}{es:List Expr}{fa fb fc:Rho->Res GD}{pos:Pos}
theorem zpw (o:Cal X.prog X.w X.K X.mg X.base k x ps<|spD X.K n m)(hr:Room s X.A)(t:k<=s)(u:PA X (e::es)<|tDA X.K fs)(g:((e::es).all fun e=> !isStar e)=J)(c:Gl X x)(i:Xf x)
  (y:∀d b,fs d=.ok b->b.length=n):PE X (.Call (.Name x p) (e::es) [] pos) (tD X.K λd=>fs d>>=λb=>m (b.map (·.2))>>=λr=>.ok (gJ r.2<|jB r.1,r.2)):=
 PE.imp (z9y o hr u g t c i) λI H Q ⟨d,F,z,so,e,q⟩=>by
  let{b,j,e}:=Res.aA e;let{r,B,e}:=Res.aA e;ext e;refine{d,F,b,so,j,λC l f rs=>?_};show spD X.K n m (C++[]) l Q E0;rw[b7];refine{_,_,r,by rw[rs.len];exact y d b j,rs.jD so.aU,B,λv D E G=>q v D (f.trans E)<|r0 G λa h=>?_};have al:(nw l a\/cB F a)->cB F a:=λh=>h.elim (λh=>(nw.back f h).aU so.aU) λh=>h;cases c:r.1 with
  |fr=>rw[c]at h;exact nw.back f h
  |od=>rw[c]at h;exact al h
  |al=>rw[c]at h;exact al h
  |nu=>rw[c]at h;exact nw.back f h
def rMt (K:Z5)(m:String):V->List V->Hp->VK->Prop:=λx xs H Q=>∃B B' dx ds d,Rep K H B x dx/\Reps K H B' xs ds/\mtD m dx ds=.ok d/\∀w H',Same H H'->Rep K H' (λa=>nw H a\/B a\/B' a) w d->Q w H'
def kU (h:z0n o=J):i7 o n env w=w:=by
 unfold i7;split
 .rename_i id p a;ext h
 .rfl
theorem HI:∀{es:List Expr},(es.all λe=> !isStar e)=J->(ja pos<|cx es env).all (λx=> !x.1)=J
 | [],_=>rfl
 |e::es,h=>by have h:=av.mp<|b8▸h;rw[eK<|by simpa using h.1];show(J&&(ja pos<|cx es env).all (λx=>!x.1))=J;rw[HI h.2];rfl
def z3m (h:(es.all fun e=> !isStar e)=J)(a:es.length<20):((ja cpos<|cx es env).all (fun x=> !x.1)&&(m6 cpos<|ki [] env).all (fun x=>x.1.isSome)
  &&decide (es.length+([]:List k4).length+(if([]:List k4).isEmpty then 0 else 1)<30))=true:=by
 rw[HI h];show(J&&J&&decide (es.length+0+0<30))=J;rw[qx ZQ];rfl
def d_mt {id:String}(pa:qi T)(slot:PySem.Slot T n id)(l:qp (.builtin id)=pure (.type "method_descriptor"))(hm:MtR X id<|rMt X.K m)(A:∀H B x dx C d,Rep X.K H B x dx->mtD m dx C=.ok d->tyV X.K T x H)
  (D:PE X o<|tD X.K fa) (E:PA X (e::es)<|tDA X.K fs) (p:z0n o=J) (f:((e::es).all λe=>!isStar e)=J) (G:(e::es).length<20) (c:(g.endLine==i.line)=J):
  PE X (.Call (.Attribute o n g) (e::es) [] i) (tD X.K λj=>fa j>>=λx=>fs j>>=λr=>mtD m x.2 (r.map (·.2))>>=λd=>.ok (gJ d .al,d)):=by
 have b:=f;rw[b8,aj]at b;refine PE.imp (zav pa slot l hm D E (kU p) (z3m f G) c (eK<|by simpa using b.1)<|mV b.2) λP H Q I=>?_;let{j,F,z,so,e,q}:=I;let{x,ZK,e}:=Res.aA e;let{r,L,e}:=Res.aA e;let{d,u,e}:=Res.aA e;ext e;refine{j,F,x,so,ZK,λv M k y=>{A M _ v x.2 _ d y u,j,F,r,so.same k,L,λR S s rs=>?_}};refine{_,_,x.2,_,d,y.same s λ_ z=>z,rs.jD (so.same k).aU,u,λw N O t=>q w N ((k.trans s).trans O)<|r0 t λa h=>?_};rcases h with h|h|h
 .exact(nw.back (k.trans s) h).aU so.aU
 .exact h.aU so.aU
 .exact h
theorem HJ {K:Z5}:∀{a:List D} {b:List U} {f:List V} {g:List Value},fW a=Y b->Reps K H B f a->Vals f g->StrsAre g b/\∀s∈b,ZY s=J
 | [],b,f,g,e,r,q=>by ext e;have c:=r;subst c;ext q;exact{.nil,λ_ h=>nomatch h}
 |d::a,b,f,g,e,r,q=>by
  ext d<;>try (ext e;done)
  rename_i z;change(fW a).map (z:: ·)=_ at e;cases c:fW a with
  |none=>rw[c]at e;ext e
  |some j=>
   rw[c]at e;ext e;let{v,t,rfl,i,k}:=r;have ev:=i.1;subst ev;cases q with
   |cons l m=>
    let{n,rfl}:=l;let{o,p}:=HJ c k m;refine{.cons z n o,λs hs=>?_};rcases(ak.mp hs)with rfl|hs
    .exact i.2
    .exact p s hs
def Pz (z:U)(b:List U):Txt.join z b=z0u z b:=by
 have go:∀(r:List U) a,(r.foldl (λa p=>a++z.cps++p.cps) a).toList=a.toList++(r.map λp=>z[[]]++p[[]]).flatten:=by
  intro r
  induction r with
  |nil=>intro a;simp
  |cons p r c=>intro a;rw[List.foldl_cons,c];simp
 cases b with
 |nil=>rfl
 |cons x r=>
  have:=go r x.cps;show({r.foldl (λa p=>a++z.cps++p.cps) x.cps}:U)={(x[[]]++(r.map λp=>z[[]]++p[[]]).flatten).toArray}
  congr 1
  rw[<-this]
theorem PB (hz:ZY z=J)(h:∀s∈ss,ZY s=J):ZY (z0u z ss)=true:=
 strOk_iff.mpr λc hc=>by
  have oI:c∈eN z[[]] ss:=by simpa[z0u]using hc
  cases ss with
  |nil=>simp[eN]at oI
  |cons x r=>
   simp only[eN,bg,List.mem_flatten,ci]at oI;rcases oI with oI|⟨l,⟨p,hp,rfl⟩,oI⟩
   .exact strOk_iff.mp (h x ar) c oI
   .rcases bg.mp oI with oI|oI
    .exact strOk_iff.mp hz c oI
    .exact strOk_iff.mp (h p<|ao _ hp) c oI
def PD:MtR X "str.join" (rMt X.K "join"):=by
 rintro c s o H x p v r Q I g rs ⟨B,w,dx,y,d,f,h,e,q⟩
 simp only[mtD,show("join":String)≠"get" by decide,if_true,if_false]at e;split at e
 .rename_i z A;split at e
  case h_2=>ext e
  rename_i C b;split at e
  case isFalse=>ext e
  rename_i i;ext e;let{D,rfl,j}:=tY h;let{a,E,rfl,l,rl}:=pK j;let{u,rfl,rfl}:=vals1 rs;have ex:=f.1;subst ex;let{t,rfl}:=g;let{m,n,pl,_}:=I.list l;let{sa,ok}:=HJ b rl n;refine join_list pl.isList (by simpa using sa) (bj i (by unfold LIM;decide)) λF k=>?_;rw[Pz];exact{.str _,H,I.tok _,{_,rfl},q _ H (Same.refl H) {rfl,PB f.2 ok}}
 .cases e
def PF (r:Rep X.K H B x dx)(e:mtD "join" dx ds=.ok d):tyV X.K "str" x H:=by
 simp only[mtD,show("join":String)≠"get" by decide,if_true,if_false]at e;split at e
 .have ex:x=.str _:=r.1;subst ex;exact rfl
 .cases e
end
section
variable {X:Cx}{o:Expr}{fa:Rho->Res GD}
def PH:V->List V->Hp->VK->Prop:=λx xs H Q=>∃z,x=.str z/\xs=[]/\(z[[]].all λc=>decide (97<=c)&&decide (c<=122))=J/\z.length<=LIM/\Q (.str {(z[[]].map (· -32)).toArray}) H
def PJ:∀c:Fin 26,Unicode.upperOf (97+c.val)=[97+c.val-32]:=by decide+kernel
def PM (h0:97<=c)(a:c<=122):Unicode.upperOf c=[c-32]:=by
 have h:=PJ {c-97,by omega};have e:97+(c-97)=c:=by omega
 rw[e]at h;exact h
theorem HK:∀{l:List Nat},(l.all λc=>decide (97<=c)&&decide (c<=122))=J->(l.map λc=>Unicode.upperOf c).flatten=l.map (· -32)
 | [],_=>rfl
 |c::l,h=>by rw[b8,av,av,decide_eq_true_iff,decide_eq_true_iff]at h;rw[bu,pp,HK h.2,PM h.1.1 h.1.2];rfl
theorem HL {b d:Type}(g:b->d):∀l:List b,l.mapIdx (λ_ c=>g c)=l.map g
 | []=>rfl
 |a::l=>by rw[List.mapIdx_cons,HL g l,bu]
def HM (h:(z[[]].all λc=>decide (97<=c)&&decide (c<=122))=J):placed z (λ_ c=>Unicode.upperOf c)=(z[[]].map (· -32)).toArray:=by apply Array.ext';rw[<-HK h];unfold placed;rw[Array.toList_flatten,Array.toList_mapIdx,HL];simp[Function.comp_def]
def CP:MtR X "str.upper" PH:=by
 rintro b s e H x f v h Q I d rs ⟨z,rfl,rfl,c,i,q⟩
 let{t,rfl}:=d;ext rs;have a:(z[[]].map (· -32)).toArray.size=z.length:=by rw[br,am];rfl
 have j:LIM=1000000:=rfl;have hs:=cf;have g:=gives_str_upper z t (by rw[HM c,a];exact qy (show ¬z.length>aw by omega));rw[HM c]at g;refine call_gives F.slot_str_upper (lb _ _ _) F.entry_str_upper (F.args_str_upper_1 _) g {?_,?_}
 .show(z[[]].map (· -32)).toArray.size<=aw;rw[a];omega
 .exact{.str _,H,I.tok _,{_,rfl},q}
def zu6 (p:PE X o<|tD X.K fa)(k:z0n o=J)(a:(h.endLine==i.line)=J):
  PE X (.Call (.Attribute o "upper" h) [] [] i) (tD X.K λl=>fa l>>=λx=>zu x.2>>=λd=>.ok (.fr,d)):=by
 refine PE.imp (z6x PySem.F.plainAttrs_str PySem.F.slot_str_upper PySem.F.type_str_upper CP p (kU k) a) λC H Q r=>?_;let{l,F,z,so,e,q}:=r;let{x,s,e}:=Res.aA e;let{d,f,e}:=Res.aA e;ext e;refine{l,F,x,so,s,λv t u y=>?_};let{g,A}:=x;cases A with
 |str w=>
  have f:(if _ then _ else _)=_:=f;split at f
  .rename_i j;ext f;rw[av,decide_eq_true_iff]at j;have ev:=y.1;subst ev;refine{rfl,w,rfl,rfl,j.1,j.2,q _ t u {rfl,strOk_iff.mpr λc m=>?_}};let{b,B,rfl}:=ci.mp m;have n:=bc.mp j.1 b B;rw[av,decide_eq_true_iff,decide_eq_true_iff]at n;omega
  .cases f
 |_=>ext f
def PN:V->List V->Hp->VK->Prop:=λx xs H Q=>∃z,x=.str z/\xs=[]/\Q (.bl (decide (z.length>0)&&z.cps.all Unicode.isDigit)) H
def CQ:MtR X "str.isdigit" PN:=by
 rintro pins s σ H x b v us Q I a rs ⟨z,rfl,rfl,q⟩
 let{t,rfl}:=a;ext rs;exact call_gives F.slot_str_isdigit (lb _ _ _) F.entry_str_isdigit (F.args_str_isdigit_1 _) (gives_str_isdigit z t) {.bl _,H,I.tok _,rfl,q}
def zx4 (f:PE X o<|tD X.K fa)(b:z0n o=J)(a:(apos.endLine==cpos.line)=J):
  PE X (.Call (.Attribute o "isdigit" apos) [] [] cpos) (tD X.K λρ=>fa ρ>>=λx=>tN x.2>>=λd=>.ok (.fr,d)):=by
 refine PE.imp (z6x PySem.F.plainAttrs_str PySem.F.slot_str_isdigit PySem.F.type_str_isdigit CQ f (kU b) a) λσ H Q h=>?_;let{ρ,F,z,i,e,q}:=h;let{x,j,e}:=Res.aA e;let{d,c,e}:=Res.aA e;ext e;refine{ρ,F,x,i,j,λv H1 s1 k=>?_};let{g,dx}:=x;cases dx with
 |str w=>ext c;have ev:=k.1;subst ev;exact{rfl,w,rfl,rfl,q _ H1 s1 rfl}
 |_=>ext c
end
def PQ (h:qH y=Y c):y={#[c]}:=by
 obtain⟨⟨l⟩⟩:=y
 match l,h with
 | [d],h=>ext h;rfl
theorem HN (c:Nat):∀p r,c∉p->aX c (p++c::r)=p::aX c r
 | [],r,_=>by show aX c (c::r)=_;rw[aX,qq rfl]
 |a::p,r,h=>by rw[ak,not_or]at h;show aX c (a::(p++c::r))=_;rw[aX,qr<|λe=>h.1 e.symm,HN c p r h.2]
theorem HP (c:Nat):∀p,c∉p->aX c p=[p]
 | [],_=>rfl
 |a::p,h=>by rw[ak,not_or]at h;rw[aX,qr<|λe=>h.1 e.symm,HP c p h.2]
theorem HQ (c:Nat):∀ps,ps≠ []->(∀p∈ps,c∉p[[]])->aX c (Str.join {#[c]} ps)[[]]=ps.map λp=>p[[]]
 | [],h,_=>absurd rfl h
 | [p],_,h=>HP c _ (h p<|.head _)
 |p::q::r,_,h=>by
  have e:(Str.join {#[c]} (p::q::r))[[]]=p[[]]++c::(Str.join {#[c]} (q::r))[[]]:=by show((p.cps++#[c])++(Str.join {#[c]} (q::r)).cps).toList=_;simp
  rw[e,HN c _ _<|h p<|.head _,HQ c (q::r) (λz=>nomatch z) λz a=>h z<|.tail _ a];rfl
def HR (x:U)(c:Nat):(Txt.split x {#[c]}).map (λp=>p[[]])=aX c x[[]]:=by have h:=HQ c (Txt.split x {#[c]}) (λz=>by have:=split_pos x {#[c]};rw[z]at this;exact absurd this dc)<|StrLaws.split_free x c;rw[StrLaws.join_split]at h;exact h.symm
def PR (x:U):toS x[[]]=x:=by obtain⟨a⟩:=x;show({(a.toList.toArray)}:U)=_;rw[km]
def PU (x:U)(c:Nat):(aX c x[[]]).map (λl=>ZX<|toS l)=(Txt.split x {#[c]}).map .str:=by rw[<-HR,dw];exact ny λp _=>by show ZX (toS p[[]])=_;rw[PR]
theorem PV {l:List Nat}(h:∀c∈m,c∈l)(ok:ZY {(l.toArray)}=J):ZY (toS m)=true:=
 strOk_iff.mpr fun c hc=>strOk_iff.mp ok c (by have a:c∈m:=by simpa[toS]using hc
                                               simpa using h c a)
def PX (ok:ZY x=J):ZY {(x[[]].toArray)}=true:=by rw[km];exact ok
theorem zI (c:Nat):∀l p,p∈aX c l->∀d∈p,d∈l
 | [],p,h,d,hd=>by rw[ai.mp h]at hd;exact hd
 |a::l,p,h,d,hd=>by
  rw[aX]at h;split at h
  .rcases ak.mp h with rfl|h
   .cases hd
   .exact .tail _ (zI c l p h d hd)
  .cases e:aX c l with
   |nil=>rw[e]at h;rw[ai.mp h]at hd;rw[ai.mp hd];exact .head _
   |cons q t=>
    rw[e]at h;rcases ak.mp h with rfl|h
    .rcases ak.mp hd with rfl|hd
     .exact .head _
     .exact .tail _ (zI c l q (e▸ .head _) d hd)
    .exact .tail _ (zI c l p (e▸ .tail _ h) d hd)
section
variable {X:Cx}{o e:Expr}{fa fb:Rho->Res GD}
def PY (K:Z5):V->List V->Hp->VK->Prop:=λx xs H Q=>∃z c,x=.str z/\xs=[.str {#[c]}]/\ZY z=J/\z.length<=LIM/\∀w H',Same H H'->Rep K H' (nw H) w (.list<|(aX c z[[]]).map λl=>.str<|toS l)->Q w H'
theorem HS:∀l,Vals ((l.map (·.1)).map V.str) (strValues l)
 | []=>.nil
 |p::l=>.cons {_,rfl} (HS l)
theorem HU {K:Z5}:∀(l:List U),(∀p∈l,ZY p=J)->Reps K H B (l.map V.str) (l.map ZX)
 | [],_=>rfl
 |p::l,h=>{_,_,rfl,{rfl,h p<|.head _},HU l λq a=>h q<|.tail _ a}
def PZ:MtR X "str.split" (PY X.K):=by
 rintro d s m H x y v A Q I n rs ⟨z,c,rfl,rfl,ok,B,q⟩
 let{t,rfl}:=n;let{u,rfl,h,rfl}:=vals1 rs;have C:LIM=1000000:=rfl;have hs:=cf;have hok:∀p∈Txt.split z {#[c]},ZY p=true:=λp e=>by have:=PV (zI c _ _ (by rw[<-HR];exact ci.mpr {(p),e,rfl}))<|PX ok;exact this
 have hN:=split_le z {#[c]};have e:=I.hok.fresh (ag _)
 have a:∀l tk,l.map (·.1)=Txt.split z {#[c]}->EP X d m Q (.ref s[?_]) {s with toks:=tk,heap:=s.heap.push {cls:=.type "list",data:=.seq (strValues l).toArray}}:=λl tk r=>by
  have j:=HS l;rw[r]at j;refine{.ref _,_,I.laid (o:=.lst<|(Txt.split z {#[c]}).map V.str) (λb ob q=>af _ q) (ag _) {?_,_,0,j,ba _ rfl},rfl,q _ _ (Same.upd e) ?_}
  .rw[am];omega
  .rw[PU];exact uW e (HU _ hok) (λ_ z=>z) e
 have k:(({#[c]}:U).length==0)=false:=rfl;have i:=lb s z t;by_cases f:(decide (z.length<({#[c]}:U).length)||decide (nz z<nz {#[c]}))=J
 .exact jp F.slot_str_split i F.entry_str_split (F.args_str_split_2 _ _) (meets_str_split_cannot_occur z _ t h f) (a [(z,t)] s.toks (by show[z]=_;unfold Txt.split;rw[qq f]))
 have g:=eq_false_of_ne_true f;by_cases hf:(ec z {#[c]} 0 z.length<|z.length+1).isEmpty=J
 .exact jp F.slot_str_split i F.entry_str_split (F.args_str_split_2 _ _) (meets_str_split_not_found z _ t h g k hf) (a [(z,t)] s.toks (by show[z]=_;unfold Txt.split;rw[qr f,qq hf]))
 have w:Txt.split z {#[c]}=Builtin.Str.partsBetween z (ec z {#[c]} 0 z.length<|z.length+1) ({#[c]}:U).length:=by unfold Txt.split;rw[qr f,qr hf]
 refine jp F.slot_str_split i F.entry_str_split (F.args_str_split_2 _ _) (meets_str_split_sep z _ t h g k (eq_false_of_ne_true hf) ZQ<|by grind) ?_;have:=a (numbered s.toks<|Txt.split z {#[c]}) (s.toks+(Txt.split z {#[c]}).length)<|numbered_texts _ _;rw[<-strsFrom_eq,w]at this;exact this
def P0 (h:fG a b=.ok d):∃x c,a=.str x/\b=.str {#[c]}/\x.length<=LIM/\d=.list ((aX c x[[]]).map λl=>.str<|toS l):=by
 ext a<;>ext b<;>try (ext h;done)
 rename_i x y;change(match qH y with|some c=>if decide (x.length<=LIM)=J then Res.ok (ZW<|(aX c x[[]]).map λl=>.str<|toS l)else .no|none=>.no)=_ at h;cases e:qH y with
 |none=>rw[e]at h;ext h
 |some c=>
  rw[e]at h
  dsimp only at h
  split at h
  .rename_i f;ext h;exact{x,c,rfl,by rw[PQ e],qw f,rfl}
  .cases h
def zx7 (r:PE X o<|tD X.K fa)(s:PE X e<|tD X.K fb)(j:z0n o=J)(b:isStar e=Z6)(f:(g.endLine==h.line)=J):
  PE X (.Call (.Attribute o "split" g) [e] [] h) (tD X.K λi=>fa i>>=λx=>fb i>>=λy=>fG x.2 y.2>>=λd=>.ok (.fr,d)):=by
 refine PE.imp (zav PySem.F.plainAttrs_str PySem.F.slot_str_split PySem.F.type_str_split PZ r (v5 s kR<|eK b) (kU j) (z3m (by simp[b]) (by show 1<20;omega)) f (eK b) rfl) λN H Q t=>?_;let{i,F,z,so,e,q}:=t;let{x,u,e}:=Res.aA e;let{y,A,e}:=Res.aA e;let{d,B,e}:=Res.aA e;ext e;let{C,O}:=x;let{D,P}:=y;let{m,c,rfl,rfl,E,rfl}:=P0 B;refine{i,F,(C,.str m),so,u,λv R k n=>?_};have ev:=n.1;subst ev;refine{rfl,i,F,(D,.str {#[c]}),so.same k,A,λw S p l=>?_};have G:=l.1;subst G;exact{m,c,rfl,rfl,n.2,E,λw I ZK L=>q w I ((k.trans p).trans ZK)<|L.weak λa M=>nw.back (k.trans p) M}
def P4:CallR X (.type "int") (λa H Q=>∃x,a=[.str x]/\nX x[[]]=J/\x.length<=600/\Q (.int (iD x[[]]:Int)) H):=by
 rintro b s e H a f Q I r ⟨x,rfl,hf,g,q⟩
 let{u,rfl,t,rfl}:=vals1 r;unfold nX at hf;rw[av]at hf;have hd:=λc d=>by have:=bc.mp hf.2 c d;rw[av,decide_eq_true_iff,decide_eq_true_iff]at this;exact this
 exact W.KIN.call_text (intText_digits hd (λz=>by rw[z]at hf;cases hf.1) ZQ) ZQ {.int _,H,I.tok _,{_,rfl},q}
end
def cK (F:Fm)(H:Hp)(F':Fm)(H':Hp):Prop:=∀a o,H a=Y o->F.O a=Z8->H' a=Y o/\F'.O a=Z8
theorem cK.refl:cK F H F H:=λ_ _ e o=>{(e),o}
theorem cK.trans (a:cK F H f g)(b:cK f g c d):cK F H c d:=λx o e n=>by let{h,n1}:=a x o e n;exact b x o h n1
theorem cK.same (s:Same H b):cK F H F b:=λa o e n=>{s a o e,n}
def Run (F F':Fm):Prop:=Same F.H0 F'.H0/\F'.V=F.V/\F'.z=F.z
theorem Run.refl:Run F F:={λ_ _ e=>e,rfl,rfl}
theorem Run.trans (a:Run F d)(b:Run d c):Run F c:={λx o e=>b.1 x o<|a.1 x o e,b.2.1.trans a.2.1,b.2.2.trans a.2.2}
theorem Run.of (h:a.H0=F.H0)(v:a.V=F.V)(z:a.z=F.z):Run F a:={λ_ _ e=>by rw[h];exact e,v,z}
def BR (F:Fm):G->Ad->Prop
 |.fr=>λa=>match a with|some a=>F.H0 a=Z8|none=>False
 |.od=>cB F
 |.al=>cB F
 |.nu=>λa=>match a with|some a=>F.H0 a=Z8|none=>False
def uX (K:Z5)(F:Fm)(H:Hp)(D:Ends):Out->Prop
 |.nx bQ=>∀bM H' F',StOk K F' H' bM bQ->Run F F'->cK F H F' H'->D.nx bM H'
 |.bk bQ=>∀bM H' F',StOk K F' H' bM bQ->Run F F'->cK F H F' H'->D.bk bM H'
 |.ct bQ=>∀bM H' F',StOk K F' H' bM bQ->Run F F'->cK F H F' H'->D.ct bM H'
 |.rt g d=>∀v H',(∀a o,F.H0 a=Y o->H' a=Y o)->Rep K H' (BR F g) v d->D.rt v H'
def tDS (K:Z5)(f:Rho->Res Out):TS:=λD σ H=>∃ρ F out,StOk K F H σ ρ/\f ρ=.ok out/\uX K F H D out
def none_of (s:Same H b)(h:b a=Z8):H a=none:=by
 cases e:H a with
 |none=>rfl
 |some o=>rw[s a o e]at h;ext h
def BR.run (r:Run F c)(h:BR c g a):BR F g a:=by let{d,e,f}:=r;ext g<;>ext a<;>first|exact h|(exact none_of d h)|(have b:c.V _:=h;rw[e]at b;exact b)|(have b:c.z:=h;rw[f]at b;exact b)
def uX.back {K:Z5}{D:Ends}(r:Run F q)(f:cK F H q H')(h:uX K F H D l):uX K q H' D l:=by
 cases l with
 |nx m=>exact λc i j n p f2=>h c i j n (r.trans p) (f.trans f2)
 |bk m=>exact λc i j n p f2=>h c i j n (r.trans p) (f.trans f2)
 |ct m=>exact λc i j n p f2=>h c i j n (r.trans p) (f.trans f2)
 |rt g d=>exact λv i k s=>h v i (λa o e=>k a o<|r.1 a o e) (s.weak λ_ b=>b.run r)
section
variable {X:Cx}{tg a b c e:Expr}{es:List Expr}{fa fb fc:Rho->Res GD}{pos:Pos}{st:Stmt}{rest A Bs:List Stmt}{fs gs:Rho->Res Out}
theorem P5:PSs X [] (tDS X.K λa=>.ok<|.nx a):=PSs.imp Ge λD b H ⟨a,F,c,so,e,q⟩=>by ext e;exact q b H F so Run.refl cK.refl
theorem P6 (j:PS X st<|tDS X.K fs)(k:PSs X rest<|tDS X.K gs):PSs X (st::rest) (tDS X.K λρ=>lT (fs ρ) gs):=
 PSs.imp (Gf j k) λD σ H ⟨ρ,F,c,h,e,q⟩=>by
  have e:lT (fs ρ) gs=.ok c:=e;cases b:fs ρ with
  |no=>rw[b]at e;ext e
  |exc x=>rw[b]at e;ext e
  |ok l=>
   rw[b]at e;cases l with
   |nx a=>exact{ρ,F,.nx a,h,b,λm H' n i r f=>{a,n,c,i,e,q.back r f}}
   |bk a=>ext e;exact{ρ,F,.bk a,h,b,q}
   |ct a=>ext e;exact{ρ,F,.ct a,h,b,q}
   |rt g d=>ext e;exact{ρ,F,.rt g d,h,b,q}
theorem P7:PS X (.Continue pos) (tDS X.K λρ=>.ok<|.ct ρ):=PS.imp My λD σ H ⟨ρ,F,a,b,e,q⟩=>by ext e;exact q σ H F b Run.refl cK.refl
theorem CS (hc:PT X c<|eA X.K ft)(f:PSs X A<|tDS X.K fs)(g:PSs X h<|tDS X.K gs):PS X (.If c A h pos) (tDS X.K λa=>ft a>>=λk=>if k then fs a else gs a):=
 PS.imp (Gh hc f g) λD j H ⟨a,F,b,so,e,q⟩=>by
  let{k,i,e}:=Res.aA e;refine{a,F,k,so,i,λl d=>?_};cases k with
  |true=>exact bD {a,F,b,so.same d,e,q.back Run.refl<|cK.same d}
  |false=>exact aY {a,F,b,so.same d,e,q.back Run.refl<|cK.same d}
def P8 {K:Z5}(so:∀a o,F.H0 a=Y o->H a=Y o)(hv:∀a,H a=Z8->F.V a)(r:Rep K H' (BG F H g) v d):Rep K H' (BR F<|jB g) v d:=by
 refine r.weak λa b=>?_;cases g with
 |fr=>
  cases a with
  |none=>exact b
  |some a=>exact Same.none so b
 |od=>exact gQ.aU b
 |al=>exact b
 |nu=>
  cases a with
  |none=>exact b.elim id id
  |some a=>exact b.elim (λb=>Same.none so b) λb=>b.2.1
theorem P9 (c:PE X e<|tD X.K fa):PS X (.Return (Y e) pos) (tDS X.K λb=>fa b>>=λx=>.ok<|.rt (jB x.1) x.2):=PS.imp (Br c) λD j H ⟨b,F,d,so,e,q⟩=>by let{x,f,e}:=Res.aA e;ext e;exact{b,F,x,so,f,λv g h i=>q v g (λa o e=>h a o<|so.ext a o e)<|P8 so.ext so.aU i}
def Slot.ret {K:Z5}(so:∀a i,F.O a=Y i->F.H0 a=Z8/\F.V a)(h:Slot K F H i g v d):Rep K H (BR F (if imm d then .fr else jB g)) v d:=by
 by_cases c:imm d=J
 .rw[qq c];exact Rep.bS d c (h.rep λa i e=>(so a i e).2)
 .rw[qr c];cases g with
  |fr=>
   let{p,e,o,h}:=h
   have k:∀a,Bin F a->BR F .fr a:=λa b=>by
    cases a with
    |none=>exact b
    |some a=>exact b.2.1
   rcases h with⟨f,l,rfl,j,r⟩|⟨f,l,rfl,j,r⟩
   .exact{p,f,e,.inl {j,(so _ _ o).1},r.weak k}
   .exact{p,f,e,j,(so _ _ o).1,bV.same (λ_ _ e=>e) k r}
  |od=>exact Rep.weak (λ_ b=>b.aU) h
  |al=>exact h
  |nu=>
   refine Rep.weak (λa b=>?_) h;cases a with
   |none=>exact b
   |some a=>exact b.2.1
theorem z7s {i:Nat}(hN:X.N[i]?=Y x)(hv:Vis X.env.scope x)(hd:Xf x)(hcd:(x==("__classdict__":U))=Z6):
  PS X (.Return (Y<|.Name x p) pos) (tDS X.K λρ=>match ρ[i]? with|some (Y (g,d))=>.ok (.rt (if imm d then .fr else jB g) d)|_=>.no):=
 PS.imp (Br<|pF hN hv hd hcd) λD σ H ⟨ρ,F,out,so,e,q⟩=>by
  have e:(match ρ[i]? with|some (Y (g,d))=>Res.ok (Out.rt (if imm d then .fr else jB g) d)|_=>.no)=.ok out:=e;cases e1:ρ[i]? with
  |none=>rw[e1]at e;ext e
  |some o=>
   rw[e1]at e;cases o with
   |none=>ext e
   |some gd=>let{g,d}:=gd;ext e;let{v,h1,h2}:=so.sl i g d e1;exact{v,h1,q v H so.ext<|h2.ret λa i e=>⟨(so.own a i e).1,(so.own a i e).2.1⟩}
theorem bV.bS {K:Z5}:∀{kvs:List<|Key×V} es,qF es=J->bV K H B kvs es->bV K H B' kvs es
 |kvs,[],_,r=>r
 |kvs,(kd,d)::es,i,r=>by unfold qF at i;rw[b8,aj]at i;let{k,v,t,e,a,ok,h,q}:=r;exact{k,v,t,e,a,ok,Rep.bS d i.1 h,bV.bS es i.2 q}
def StOk.hM {K:Z5}(so:StOk K F H d ρ){a:Ad}(h:nw H a):Bin F a:=by
 cases a with
 |none=>exact h
 |some a=>
  refine{?_,Same.none so.ext h,so.aU a h};cases b:F.O a with
  |none=>rfl
  |some j=>let{_,_,z}:=so.own a j b;rcases z with⟨c,z⟩|⟨c,z⟩<;>rw[h]at z<;>ext z
def StOk.CT {K:Z5}(so:StOk K F H σ ρ)(r:Rep K H (Bin F) v d):StOk K (F.drop i) H (σ.set i<|Y v) (ρ.set i<|Y (.nu,d)):=by
 have z:=so.mE (i:=i) (x:=(.al,d))<|Rep.weak (λ_ b=>Bin.aU b) r;refine{z.ext,z.aU,z.own,by rw[cw,cw];exact so.len,λj g d' e=>?_};by_cases hj:i=j
 .subst hj;rw[dm]at e;simp only[if_true]at e;split at e
  .rename_i hl;ext e;exact{v,by rw[dm];simp[so.len,hl],Rep.weak (λ_ b=>b.drop) r}
  .cases e
 .refine z.sl j g d' ?_;rw[bw hj]at e ⊢;exact e
def Fm.take (F:Fm)(i:Nat)(p:Addr):Fm:={F with O:=λa=>if a=p then Y i else if F.O a=Y i then Z8 else F.O a}
theorem cK.drop (s:Same H H'):cK F H (F.drop i) H':=λa o e n=>{s a o e,Fm.bY n}
def StOk.setA {K:Z5}(so:StOk K F H Q R)(t:Same H s)(r:Rep K s (BG F H x.1) v x.2):
  ∃f,StOk K f s (Q.set i<|Y v) (R.set i<|Y<|z1v x)/\Run F f/\cK F H f s:=by
 have w:=so.same t;let{g,d}:=x
 have l:z1v (g,d)=mZ (if imm d then .al else He g,d)->∃f,StOk K f s (Q.set i<|Y v) (R.set i<|Y<|z1v (g,d))/\Run F f/\cK F H f s:=λe=>by
  rw[e];refine{F.drop i,w.mE ?_,Run.of rfl rfl rfl,cK.drop t};by_cases k:imm d=J
  .rw[qq k];exact Rep.bS d k r
  .rw[qr k];cases g with
   |fr=>exact r.weak λ_ b=>nw.aU so.aU b
   |od=>exact r
   |al=>exact r
   |nu=>exact r.weak λ_ b=>b.elim (nw.aU so.aU) Bin.aU
 have A:z1v (g,d)=(.nu,d)->(∀a,BG F H g a->Bin F a)->∃f,StOk K f s (Q.set i<|Y v) (R.set i<|Y<|z1v (g,d))/\Run F f/\cK F H f s:=λe E=>by rw[e];exact{F.drop i,w.CT<|Rep.weak E r,Run.of rfl rfl rfl,cK.drop t}
 have own:∀p,F.O p=Z8->H p=Z8->F.H0 p=Z8->F.V p->v=.ref p->z1v (g,d)=(.fr,d)->(∀f,(∀a,Bin F a\/nw H a->a≠Y p->Bin f a)->f.O p=Y i->Slot K f s i .fr v d)->(((∃I,s p=Y (.lst I))\/∃kvs,s p=Y (.dK kvs)))->
   ∃f,StOk K f s (Q.set i<|Y v) (R.set i<|Y<|z1v (g,d))/\Run F f/\cK F H f s:=λp ZL c X ZM ev es Z ZK=>by
  have B:∀a,a≠p->(F.take i p).O a=(F.drop i).O a:=λa ha=>by show(if a=p then Y i else _)=_;rw[qr ha];rfl
  have P':∀a,H a=Z8->F.O a=none:=λa e=>by
   cases C:F.O a with
   |none=>rfl
   |some j=>let{_,_,h}:=so.own a j C;rcases h with⟨I,h⟩|⟨I,h⟩<;>rw[e]at h<;>ext h
  have y:∀a,Bin F a\/nw H a->a≠Y p->Bin (F.take i p) a:=λa b wZ=>by
   cases a with
   |none=>exact b.elim id id
   |some a=>have q:a≠p:=λz=>wZ (by rw[z]);have E:=b.elim id λb=>{P' a b,(λa e=>Same.none so.ext e) a b,so.aU a b};exact{by rw[B a q];exact Fm.bY E.1,E.2}
  have L:(F.take i p).O p=Y i:=by show(if p=p then Y i else _)=_;rw[qq rfl]
  refine{F.take i p,{w.ext,w.aU,λa j e=>?_,by rw[cw,cw];exact so.len,λj g' d' e=>?_},Run.of rfl rfl rfl,λa o e n=>{t a o e,?_}}
  .by_cases q:a=p
   .subst q;exact{(X),ZM,ZK}
   .rw[B a q]at e
    have e':F.O a=Y j:=by
     have:(if F.O a=Y i then Z8 else F.O a)=Y j:=e;split at this
     .cases this
     .exact this
    exact w.own a j e'
  .by_cases hj:i=j
   .subst hj;rw[dm]at e;simp only[if_true]at e;split at e
    .rename_i hl;have C:z1v (g,d)=(g',d'):=by simpa using e
     rw[es]at C;cases C;exact{v,by rw[dm];simp[so.len,hl],Z _ y L}
    .cases e
   .rw[bw hj]at e ⊢;let{u,h1,S}:=so.sl j g' d' e;refine{u,h1,?_};cases g' with
    |fr=>
     let{T,C,o1,h3}:=S;refine{T,C,?_,?_}
     .rw[B T (λz=>by rw[z,ZL]at o1;ext o1)];show(if F.O T=Y i then Z8 else F.O T)=Y j;rw[o1,qr<|λz=>hj (qt z).symm]
     .have M:∀a,Bin F a/\¬nw H a->Bin (F.take i p) a:=λa b=>y a (.inl b.1) λz=>b.2<|z▸c;rcases h3 with⟨G,D,e3,e2,r3⟩|⟨G,D,e3,e2,r3⟩
      .exact .inl {G,D,e3,t _ _ e2,Reps.same t M<|Reps.there _ r3}
      .exact .inr {G,D,e3,t _ _ e2,bV.same t M<|bV.there _ r3}
    |od=>exact Rep.same t (λ_ b=>b) S
    |al=>exact Rep.same t (λ_ b=>b) S
    |nu=>exact Rep.same t (λa b=>y a (.inl b.1) λz=>b.2<|z▸c) (Rep.there _ S)
  .have q:a≠p:=λz=>by rw[z,c]at e;ext e
   rw[B a q];exact Fm.bY n
 have N:∀p,H p=Z8->F.O p=none:=λp c=>by
  cases C:F.O p with
  |none=>rfl
  |some j=>let{_,_,P}:=so.own p j C;rcases P with⟨I,P⟩|⟨I,P⟩<;>rw[c]at P<;>ext P
 by_cases k:imm d=J
 .exact l (by show(if imm d then _ else _)=_;rw[qq k];rw[qq k];rfl)
 .cases g with
  |od=>exact l (by delta z1v;simp only[qr k];rfl)
  |al=>exact l (by delta z1v;simp only[qr k];ext d<;>rfl)
  |nu=>exact A (by delta z1v;simp only[qr k]) λa b=>b.elim so.hM id
  |fr=>
   cases d with
   |none=>exact absurd rfl k
   |bool b=>exact absurd rfl k
   |int b=>exact absurd rfl k
   |str b=>exact absurd rfl k
   |tuple D=>exact A (by delta z1v;simp only[qr k]) λa b=>so.hM b
   |list D=>
    by_cases m:imms D=J
    .let{p,G,ev,h,rs}:=r;rcases h with⟨h,b⟩|⟨_,b⟩
     .have c:H p=none:=b;exact own p (N p c) c (Same.none so.ext c) (so.aU p c) ev (by delta z1v;simp only[qr k,qq m]) (λf E ho=>{p,ev,ho,.inl {G,D,rfl,h,Reps.bS D m rs}}) (.inl {(G),h})
     .exact b.elim
    .exact A (by delta z1v;simp only[qr k,qr m]) λa b=>so.hM b
   |dict es=>
    by_cases m:qF es=J
    .let{p,kvs,ev,h,b,rs}:=r;have c:=b;exact own p (N p c) c (Same.none so.ext c) (so.aU p c) ev (by delta z1v;simp only[qr k,qq m]) (λf E ho=>{p,ev,ho,.inr {kvs,es,rfl,h,bV.bS es m rs}}) (.inr {kvs,(h)})
    .exact A (by delta z1v;simp only[qr k,qr m]) λa b=>so.hM b
def HV {K:Z5}{te:TE}(h:∀a H Q,tD K fa a H Q->te a H Q)(D:Ends)(a:L2.St)(H:Hp)(q:tDS K (λb=>fa b>>=λx=>.ok<|.nx<|b.set i<|Y<|z1v x) D a H):te a H λv c=>D.nx (a.set i<|Y v) c:=by let{b,F,g,so,e,q}:=q;let{x,j,e}:=Res.aA e;ext e;refine h a H _ {b,F,x,so,j,λv c k l=>?_};let{m,d,r,f}:=so.setA k l;exact q _ c m d r f
theorem zom (hN:X.N.Nodup)(b:X.N[i]?=Y x)(c:Loc X.env.scope x)(hf:X.fn x=J\/X[!x]=Y .local)(hs:jh e (Y<|.Name x px) pos.line X.env=pure Z6)(d:PE X e<|tD X.K fa):
  PS X (.Assign [.Name x px] e pos) (tDS X.K λa=>fa a>>=λx=>.ok<|.nx<|a.set i<|Y<|z1v x):=
 PS.imp (za8 hN b c d hs hf) λD f H q=>HV (λ_ _ _ h=>h) D f H q
theorem zos (j:PG X te<|tDG X.K<|.tp is)(k:PE X e<|tD X.K fa)(hs:oh [te] e pos.line X.env=pure Z6)(l:oj [te] e X.env=pure Z8)(m:(fo [te] X.env).map (·.2)=[ou te X.env]):
  PS X (.Assign [te] e pos) (tDS X.K λf=>fa f>>=λx=>gG (.tp is) x f>>=λd=>.ok<|.nx d):=
 PS.imp (zp4 k j hs l m) λD y H ⟨f,F,p,so,e,q⟩=>by let{x,r,e}:=Res.aA e;let{d,s,e}:=Res.aA e;ext e;refine{f,F,x,so,r,λv t i u=>{f,F,x,d,so.same i,u.weak λ_ b=>BI.of so.aU b,s,λg w h c=>?_}};exact q g t w h (Run.of c.h0 c.v c.z) λa o e n=>{i a o e,c.o a n}
def HW {K:Z5}(so:StOk K F H σ ρ)(h:okIn y=J)(r:Rep K H1 (BG F H y.1) u y.2):Rep K H1 (Bin F) u y.2:=by
 let{g,d}:=y;rcases fq.mp h with hi|hg
 .exact Rep.bS d hi r
 rcases fq.mp hg with h|h
 .cases eq_of_beq h;exact Rep.weak (λa b=>so.hM b) r
 .cases eq_of_beq h;exact Rep.weak (λa b=>b.elim so.hM id) r
def StOk.mutate {K:Z5}(so:StOk K F H σ ρ)(hO:F.O p=Y i)(hσ:σ[i]?=Y (Y<|.ref p))(ho':(∃xs,o'=.lst xs)\/∃kvs,o'=.dK kvs)
  (hs:Slot K F (upd H p o') i .fr (.ref p) d'):StOk K F (upd H p o') σ ((ρ.set i<|Y (.fr,d')).map z0h)/\cK F H F (upd H p o'):=by
 let{h0,hV,CU}:=so.own p i hO;have wZ:∀a,F.O a=Z8->a≠p:=λa e z=>by rw[z,hO]at e;ext e
 have qQ:∀a o,H a=Y o->Fix o->a≠p:=λa o e f z=>by subst z;rcases CU with⟨xs,h⟩|⟨xs,h⟩<;>rw[e]at h<;>ext h<;>exact f
 refine{{λa o e=>?_,λa e=>?_,λa j e=>?_,by rw[am,cw];exact so.len,λj g d e=>?_},(λa o e n=>{by rw[aK<|wZ a n];exact e,n})}
 .have pM:a≠p:=λz=>by rw[z,h0]at e;ext e
  rw[aK pM];exact so.ext a o e
 .by_cases pM:a=p
  .subst pM;exact hV
  .rw[aK pM]at e;exact so.aU a e
 .let{x1,x2,x3}:=so.own a j e;refine{x1,x2,?_};by_cases pM:a=p
  .subst pM;rw[bH];rcases ho' with⟨xs,rfl⟩|⟨xs,rfl⟩
   .exact .inl {(xs),rfl}
   .exact .inr {(xs),rfl}
  .rw[aK pM];exact x3
 .rw[bv]at e;by_cases hj:i=j
  .subst hj;have hl:i<ρ.length:=by rw[<-so.len];exact(az.mp hσ).1
   rw[dm]at e;simp only[if_true,hl]at e;cases(by simpa using e);exact{_,hσ,hs}
  .rw[bw hj]at e;cases e2:ρ[j]? with
   |none=>rw[e2]at e;ext e
   |some sl=>
    rw[e2]at e;have e3:z0h sl=Y (g,d):=by simpa using e
    cases sl with
    |none=>ext e3
    |some gd=>
     let{g0,d0}:=gd;let{v,h1,h2}:=so.sl j g0 d0 e2;refine{v,h1,?_};cases g0 with
     |fr=>
      ext e3;let{p',e4,o4,h3}:=h2;have HX:p'≠p:=λz=>by rw[z,hO]at o4;simp_all
      have hk:∀a o,H a=Y o->(Bin F (Y a)\/Fix o)->upd H p o' a=Y o:=λa o e b=>by have:a≠p:=b.elim (λb=>wZ a b.1) λf=>qQ a o e f;rw[aK this];exact e
      refine{p',e4,o4,?_};rcases h3 with⟨vs,ds,e5,e6,r⟩|⟨vs,ds,e5,e6,r⟩
      .exact .inl {vs,ds,e5,by rw[aK HX];exact e6,Reps.keep hk (λ_ z=>z) ds r}
      .exact .inr {vs,ds,e5,by rw[aK HX];exact e6,bV.keep hk (λ_ z=>z) ds r}
     |od=>ext e3;exact Rep.keep (λa o e b=>by have:a≠p:=b.elim (λb z=>by have b1:F.H0 a≠Z8/\F.V a:=b;rw[z]at b1;exact b1.1 h0) λf=>qQ a o e f;rw[aK this];exact e) (λ_ z=>z) _ h2
     |nu=>ext e3;exact Rep.keep (λa o e b=>by have:a≠p:=b.elim (λb=>wZ a b.1) λf=>qQ a o e f;rw[aK this];exact e) (λ_ z=>z) _ h2
     |al=>
      change(if imm d0 then Y (G.al,d0)else Z8)=_ at e3;split at e3
      .rename_i Qa;ext e3;exact Rep.cC (λa o e f=>by rw[aK<|qQ a o e f];exact e) _ Qa h2
      .cases e3
def zJ {K:Z5}(so:StOk K F H σ ρ)(e:ρ[i]?=Y (Y (.fr,d))):∃p,σ[i]?=Y (Y<|.ref p)/\F.O p=Y i/\((∃vs ds,d=.list ds/\H p=Y (.lst vs)/\Reps K H (Bin F) vs ds)\/(∃kvs es,d=.dict es/\H p=Y (.dK kvs)/\bV K H (Bin F) kvs es)):=by let{v,h1,p,rfl,o,h}:=so.sl i .fr d e;exact{(p),h1,o,h}
def CV (m:String)(i:Nat)(fs:Rho->Res (List GD)):Rho->Res Out:=λρ=>fs ρ>>=λys=>match ρ[i]? with
 |some (Y (.fr,.list xs))=>nY m xs ys>>=λCd=>.ok (.nx<|(ρ.set i<|Y (.fr,.list Cd)).map z0h)
 |_=>.no
def zhe {fs:Rho->Res (List GD)}(hN:X.N[i]?=Y x)(C:Vis X.env.scope x)(hd:Xf x)(l:(x==("__classdict__":U))=Z6)(E:PA X (e::es)<|tDA X.K fs)(g:((e::es).all fun e=>!isStar e)=J)(G:(e::es).length<20)(d:(I.endLine==ZK.line)=J):
  PS X (.Expr (.Call (.Attribute (.Name x p) "append" I) (e::es) [] ZK) pos) (tDS X.K<|CV "append" i fs):=by
 have c:=g;rw[b8,aj]at c;refine PS.imp (qC (zav PySem.F.plainAttrs_list PySem.F.slot_list_append PySem.F.type_list_append zo (pF hN C hd l) E rfl (z3m g G) d (eK<|by simpa using c.1)<|mV c.2) rfl) λD L H M=>?_;let{P,F,Q,so,e,q}:=M;let{R,S,e}:=Res.aA e;split at e
 .rename_i T hr;let{ZL,f,e}:=Res.aA e;ext e;let{pa,v,m,h}:=zJ so hr;rcases h with⟨j,ds,n,w,r⟩|⟨_,_,n,_⟩
  .cases n;refine{_,v,.inl {rfl,j,SqL.of w},P,F,R,so,S,λus V k rs=>?_};simp only[nY,if_true]at f;split at f
   .rename_i y;split at f
    case isFalse=>ext f
    rename_i hc;ext f;rw[av,decide_eq_true_iff]at hc;let{u,rfl,W}:=rs.one;have A:=k _ _ w;refine{pa,j,u,rfl,rfl,A,mC (by rw[r.length];omega),?_}
    have ZM:Reps X.K (upd V pa<|.lst<|j++[u]) (Bin F) (j++[u]) (T++[y.2]):=by
     refine Reps.keep (λa o e b=>?_) (λ_ z=>z) _ (Reps.append (r.same k λ_ z=>z) {u,[],rfl,HW so hc.1 W,rfl})
     have s:a≠pa:=by
      intro z;subst z;rcases b with b|b
      .have B:F.O a=none:=b.1;rw[m]at B;ext B
      .rw[A]at e;ext e;exact b
     rw[aK s];exact e
    let{t,Z}:=(so.same k).mutate m v (.inl {_,rfl}) {pa,rfl,m,.inl {_,_,rfl,bH,ZM}};exact q L _ F t Run.refl ((cK.same k).trans Z)
   .cases f
  .cases n
 .cases e
end
section
variable {X:Cx}{e:Expr}{es:List Expr}{pos:Pos}
theorem _root_.Mi.Reps.eraseIdx {K:Z5}:∀{a:List V} {b:List D} n,Reps K H B a b->Reps K H B (a.eraseIdx n) (b.eraseIdx n)
 |a,[],n,r=>by have e:a=[]:=r;subst e;exact rfl
 |a,d::b,0,r=>by let{v,t,rfl,_,p}:=r;exact p
 |a,d::b,n+1,r=>by let{v,t,rfl,h,p}:=r;exact{v,_,rfl,h,Reps.eraseIdx n p}
end
section
variable {X:Cx}{pos:Pos}
def w5 (j i:Nat):Rho->Res Out:=λρ=>match ρ[i]? with
 |some (Y (.fr,.list xs))=>(match nB xs with
  |some d=>.ok (.nx<|((ρ.set i<|Y (.fr,.list xs.dropLast)).map z0h).set j<|Y (.al,d))
  |none=>.no)
 |_=>.no
def CW (i:Nat)(fa:Rho->Res GD)(fr:Rho->Res (List GD)):Rho->Res Out:=λρ=>fa ρ>>=λx=>match ρ[i]? with
 |some (Y (.fr,.list xs))=>(match nB xs with
  |some d=>fr ((ρ.set i<|Y (.fr,.list xs.dropLast)).map z0h)>>=λzs=>if imm x.2&&imms (zs.map (·.2))&&decide (xs.length<=LIM)then .ok (.nx ((((ρ.set i<|Y (.fr,.list xs.dropLast)).map z0h).set i (Y (.fr,.list (xs.dropLast++[.tuple (x.2::d::zs.map (·.2))])))).map z0h))else .no
  |none=>.no)
 |_=>.no
def HY (h:nB a=Y d):a[a.length-1]?=Y d/\imm d=true:=by
 unfold nB at h;split at h
 .rename_i y e;split at h
  .rename_i hi;ext h;rw[List.getLast?_eq_getElem?]at e;exact{(e),hi}
  .cases h
 .cases h
def Reps.front {K:Z5}(r:Reps K H B vs a):Reps K H B vs.dropLast a.dropLast:=by rw[my,my,r.length];exact r.take _
def zfd (j:StOk X.K F H σ ρ)(d:F.O c=Y i)(k:σ[i]?=Y (Y<|.ref c))(l:H c=Y (.lst vs))(m:Reps X.K H (Bin F) ws g):
  StOk X.K F (upd H c<|.lst ws) σ ((ρ.set i<|Y (.fr,.list g)).map z0h)/\cK F H F (upd H c<|.lst ws):=by
 have n:Reps X.K (upd H c<|.lst ws) (Bin F) ws g:=by
  refine Reps.keep (λa o e b=>?_) (λ_ z=>z) _ m
  have f:a≠c:=by
   intro z;subst z;rcases b with b|b
   .have h:F.O a=none:=b.1;rw[d]at h;ext h
   .rw[l]at e;ext e;exact b
  rw[aK f];exact e
 exact j.mutate d k (.inl {_,rfl}) {c,rfl,d,.inl {_,_,rfl,bH,n}}
def s_pop (hN:X.N.Nodup)(B:X.N[j]?=Y y)(C:Loc X.env.scope y)(hf:X.fn y=J\/X[!y]=Y .local)(hi:X.N[i]?=Y x)(E:Vis X.env.scope x)(hd:Xf x)(k:(x==("__classdict__":U))=Z6)(b:(ap.endLine==cp.line)=J):
  PS X (.Assign [.Name y px] (.Call (.Attribute (.Name x p) "pop" ap) [] [] cp) pos) (tDS X.K<|w5 j i):=by
 refine PS.imp (tE hN B C (z6x PySem.F.plainAttrs_list PySem.F.slot_list_pop PySem.F.type_list_pop G6 (pF hi E hd k) rfl b) rfl hf) λD σ H G=>?_;let{ρ,F,I,w,e,q}:=G;unfold w5 at e;split at e
 .rename_i O ZK;split at e
  .rename_i d l;ext e;let{l,m}:=HY l;let{n,A,L,h}:=zJ w ZK;rcases h with⟨vs,P,s,g,r⟩|⟨_,_,s,_⟩
   .cases s;let{v,c,t}:=r.get l;rw[<-r.length]at c;let{u,f2}:=zfd w L A g r.front
    have M:∀a o,H a=Y o->Fix o->upd H n (.lst vs.dropLast) a=Y o:=λa o e f=>by
     have:a≠n:=λz=>by subst z;rw[g]at e;ext e;exact f
     rw[aK this];exact e
    exact{_,A,.inl {rfl,vs,SqL.of g},n,vs,v,rfl,rfl,g,c,q _ _ _ (u.mE (i:=j) (x:=(.al,d))<|Rep.cC M d m t) (Run.of rfl rfl rfl)<|f2.trans<|cK.drop<|Same.refl _}
   .cases s
  .cases e
 .cases e
def zuy (hi:X.N[i]?=Y x)(V:Vis X.env.scope x)(hd:Xf x)(n:(x==("__classdict__":U))=Z6)(hs:isStar W=Z6)(s:PE X W<|tD X.K fa)(hr:PA X er<|tDA X.K fr)(hl:∀ρ ZM,fr ρ=.ok ZM->ZM.length<=900)(l:(ap.endLine==cp.line)=J)(j:(I.endLine==ZK.line)=J):
  PS X (.Expr (.Call (.Attribute (.Name x p) "append" ap) [.Tuple (W::.Call (.Attribute (.Name x p2) "pop" I) [] [] ZK::er) kt tp] [] cp) pos) (tDS X.K<|CW i fa fr):=by
 refine PS.imp (qC (zav PySem.F.plainAttrs_list PySem.F.slot_list_append PySem.F.type_list_append zo (pF hi V hd n) (dY (BK<|dY s (dY (z6x PySem.F.plainAttrs_list PySem.F.slot_list_pop PySem.F.type_list_pop G6 (pF hi V hd n) rfl j) hr rfl) hs) kR rfl) rfl (z3m rfl (by show 1<20;omega)) l (eK rfl) rfl) rfl) λD σ H zz=>?_;let{ρ,F,out,L,e,q}:=zz;let{y,e1,e}:=Res.aA e;split at e
 .rename_i xs M;split at e
  .rename_i d c;let{Z,e2,e}:=Res.aA e;split at e
   .rename_i P;ext e;rw[av,av,decide_eq_true_iff]at P;let{c,Q}:=HY c;let{t,G,R,h}:=zJ L M;rcases h with⟨vs,ds,S,e4,r⟩|⟨_,_,S,_⟩
    .cases S;let{v,w,T}:=r.get c;rw[<-r.length]at w;refine{_,G,.inl {rfl,vs,SqL.of e4},ρ,F,y,L,e1,λu H1 s1 ru=>?_};have A:=s1 _ _ e4;let{m,f2}:=zfd (L.same s1) R G A<|r.front.same s1 λ_ z=>z;refine{_,G,.inl {rfl,vs,SqL.of A},t,vs,v,rfl,rfl,A,w,_,F,Z,m,e2,λus B C rs=>?_};have W4:us.length<=900:=rs.len▸hl _ _ e2;refine{by rw[cf,ay,ay];omega,λpt g=>?_};have e6:=C _ _ bH;have e7:upd B pt (.tup (u::v::us)) t=Y (.lst vs.dropLast):=aK (gY e6 g)▸e6
     have k:∀a o,H1 a=Y o->Fix o->upd B pt (.tup (u::v::us)) a=Y o:=λa o e f=>by
      have s:a≠t:=λz=>by subst z;rw[A]at e;ext e;exact f
      have E:=C _ _ (by rw[aK s];exact e);rw[aK<|gY E g];exact E
     have rf:Reps X.K (upd B pt<|.tup (u::v::us)) (Bin F) vs.dropLast xs.dropLast:=Reps.keep (λa o e b=>by
      have s:a≠t:=by
       intro z;subst z;rcases b with b|b
       .have b1:F.O a=none:=b.1;rw[R]at b1;ext b1
       .rw[A]at e;ext e;exact b
      have E:=C _ _ (by rw[aK s];exact e);rw[aK<|gY E g];exact E) (λ_ z=>z) _ (r.front.same s1 λ_ z=>z)
     have rt:Rep X.K (upd B pt<|.tup (u::v::us)) (Bin F) (.ref pt) (.tuple (y.2::d::Z.map (·.2))):={pt,u::v::us,rfl,dC.of bH,Reps.cons (Rep.cC k y.2 P.1.1 ru)<|Reps.cons (Rep.cC k d Q<|T.same s1 λ_ z=>z)<|Reps.cC (λa o e f=>by rw[aK<|gY e g];exact e) _ P.1.2<|rs.jD m.aU};have Hb:=r.length;have Qb:=by have:=(az.mp c).1;omega
     refine{t,vs.dropLast,.ref pt,rfl,rfl,e7,mC (by grind),?_};let{ZL,f4}:=zfd (m.same<|C.trans<|Same.upd (o:=.tup (u::v::us)) g) R G e7<|Reps.append rf<|Reps.cons rt (show Reps X.K (upd B pt<|.tup (u::v::us)) (Bin F) [] []from rfl);exact q σ _ F ZL Run.refl ((((cK.same s1).trans f2).trans<|cK.same<|C.trans<|Same.upd g).trans f4)
    .cases S
   .cases e
  .cases e
 .cases e
end
theorem eB.ins {K:Z5}{F:Fm}{H c:Hp}{d:L2.St}{f:Rho}(so:StOk K F H d f):∀{a:List V} {b:List GD},b.all okIn=J->eB K F H c a b->Reps K c (Bin F) a (b.map (·.2))
 |a,[],_,r=>r
 |a,x::b,h,r=>by rw[b8]at h;rw[aj]at h;let{v,t,e,g,q}:=r;exact{v,t,e,HW so h.1 g,eB.ins so h.2 q}
def StOk.gL {K:Z5}{F:Fm}{H:Hp}{s:L2.St}{f:Rho}(so:StOk K F H s f)(j:Nat):StOk K (F.drop j) H s (f.set j<|wI<|f.getD j Z8):=by
 refine{so.ext,so.aU,λa i e=>?_,by rw[cw];exact so.len,λi g d e=>?_}
 .have x:F.O a=Y i:=by
   have e:(if F.O a=Y j then Z8 else F.O a)=Y i:=e;split at e
   .cases e
   .exact e
  exact so.own a i x
 .by_cases l:j=i
  .subst l;rw[dm]at e;simp only[if_true]at e;split at e
   .rename_i hl;cases t:f[j]? with
    |none=>exact absurd hl (by grind)
    |some sl=>
     have k:wI sl=Y (g,d):=by
      have:f.getD j Z8=sl:=by rw[ah,t];rfl
      rw[this]at e;exact qt e
     cases sl with
     |none=>ext k
     |some gd=>
      let{u,y}:=gd;let{v,m,c}:=so.sl j u y t;refine{v,m,?_};cases u with
      |fr=>
       ext k;let{p,rfl,o,h}:=c;let{o1,o2,_}:=so.own p j o;have w:Bin (F.drop j) (Y p):={by show(if F.O p=Y j then Z8 else F.O p)=Z8;rw[qq o],o1,o2};rcases h with⟨n,A,rfl,q,r⟩|⟨n,A,rfl,q,r⟩
       .exact{p,n,rfl,.inl {(q),w},r.weak λ_ b=>b.drop}
       .exact{p,n,rfl,q,w,bV.same (λ_ _ e=>e) (λ_ b=>b.drop) r}
      |od=>ext k;exact c
      |al=>ext k;exact c
      |nu=>ext k;exact Rep.weak (λ_ b=>b.drop) c
   .cases e
  .rw[bw l]at e;let{v,m,c}:=so.sl i g d e;exact{v,m,c.drop λz=>l z.symm}
section
variable {X:Cx}{tg a b c e:Expr}{es:List Expr}{fa fb fc:Rho->Res GD}{pos:Pos}{st:Stmt}{rest A Bs:List Stmt}{fs gs:Rho->Res Out}
def CY (k c:Key):eqK (kD c) (kD k)=decide (c=k):=by
 ext c<;>ext k
 .rename_i a b;show(a==b)=_;rw[j5,decide_eq_decide];exact{λh=>by rw[h],λh=>Sum.inl.inj h}
 .rfl
 .rfl
 .rename_i a b;show decide (a=b)=_;rw[decide_eq_decide];exact{λh=>by rw[h],λh=>Sum.inr.inj h}
theorem bV.any {K:Z5}(k:Key):∀{kvs:List<|Key×V} {es:eM},bV K H B kvs es->(es.any λe=>eqK e.1<|kD k)=kvs.any λa=>decide (a.1=k)
 |kvs,[],r=>by have e:kvs=[]:=r;subst e;rfl
 |kvs,(kd,d)::es,r=>by let{c,v,t,e,b,_,_,q}:=r;subst e b;rw[gu,gu,q.any k,CY]
theorem bV.oJ {K:Z5}(k:Key)(h:Rep K H B v d):∀{kvs:List<|Key×V} {es:eM},bV K H B kvs es->bV K H B (kvs.map λa=>if a.1=k then(a.1,v)else a) (es.map λe=>if eqK e.1 (kD k)then(e.1,d)else e)
 |kvs,[],r=>by have e:kvs=[]:=r;subst e;exact rfl
 |kvs,(kd,d0)::es,r=>by
  let{b,f,t,e,g,ok,h0,q}:=r;subst e g;rw[bu,bu];have c:=q.oJ k h;by_cases z:b=k
  .subst z;rw[qq rfl,qq (by rw[CY];simp)];exact{b,v,_,rfl,rfl,ok,h,c}
  .rw[qr z,qr (by rw[CY];simpa using z)];exact{b,f,_,rfl,rfl,ok,h0,c}
theorem bV.app {K:Z5}(ok:keyOk k)(h:Rep K H B v d):∀{kvs:List<|Key×V} {es:eM},bV K H B kvs es->bV K H B (kvs++[(k,v)]) (es++[(kD k,d)])
 |kvs,[],r=>by have e:kvs=[]:=r;subst e;exact{k,v,[],rfl,rfl,ok,h,rfl}
 |kvs,(kd,d0)::es,r=>by let{b,c,t,e,f,a,h0,q}:=r;subst e f;exact{b,c,_,rfl,rfl,a,h0,q.app ok h}
def bV.put {K:Z5}(ok:keyOk k)(h:Rep K H B v d){es:eM}(r:bV K H B kvs es):bV K H B (putK kvs k v) (dput es (kD k) d):=by
 unfold putK dput;rw[r.any k];split
 .exact r.oJ k h
 .exact r.app ok h
def xb (td ty tv:TE):TS:=λD σ H=>tv σ H λv H1=>td σ H1 λx H2=>ty σ H2 λy H3=>(∃a H4,x=.ref a/\DPut H3 a y v H4/\D.nx σ H4)\/G2 x y v H3 λH4=>D.nx σ H4
def Qc (hu:X.A.units+1<cLine)(p:PE X o q)(t:PE X i ty)(w:PE X value tv)(hs:jh value (Y<|.Subscript o i d) pos.line X.env=pure Z6):PS X (.Assign [.Subscript o i d] value pos) (xb q ty tv):=by
 intro b s c H D I h;refine wpAny_Assign_Subscript (aR (w b s c H _ I h) λr z ⟨v,B,C,k,E⟩=>aR (p b z c B _ C E) λu F ⟨x,G,ZK,l,K⟩=>aR (t b F c G _ ZK K) λL M ⟨y,N,m,n,e⟩=>?_) hs;rcases e with⟨a,f,ex,g,e⟩|e
 .subst ex;obtain rfl:u=ZR a:=l;exact zfk hu m g n k λO j=>{(c),f,j,e}
 .exact aR (set_list b M c N x y v u L r _ m l n k e) λ_ O ⟨f,j,P⟩=>{(c),f,j,P}
def tDF (K:Z5)(f:Rho->Res (G×List D×Rho)):TI:=λσ H R=>∃ρ F w,StOk K F H σ ρ/\f ρ=.ok w/\∀ZK B H' F',Same H H'->Run F F'->cK F H F' H'->StOk K F' H' σ w.2.2->(∀a,B (Y a)->F'.O a=Z8)->(∀a,B a->BI F' w.1 a)->Walk K ZK B H' w.2.1->R ZK H'
def CZ {K:Z5}(so:StOk K F H i k){a:Addr}(f:g≠.al)(h:BG F H g<|Y a):F.O a=none:=by
 cases d:F.O a with
 |none=>rfl
 |some j=>
  let{h0,_,b}:=so.own a j d;cases g with
  |fr=>have c:=h;rcases b with⟨e,b⟩|⟨e,b⟩<;>rw[c]at b<;>ext b
  |od=>exact absurd h0 h.1
  |al=>exact absurd rfl f
  |nu=>
   rcases h with h|h
   .have c:H a=none:=h;rcases b with⟨e,b⟩|⟨e,b⟩<;>rw[c]at b<;>ext b
   .have c:F.O a=none:=h.1;rw[c]at d;ext d
theorem HZ (h:PI X i e<|tDW X.K j):PI X i e (tDF X.K λc=>j c>>=λw=>if w.1==.al then .no else .ok (w.1,w.2,c)):=
 PI.imp h λo H R ⟨c,F,w,so,e,q⟩=>by
  let{k,l,e}:=Res.aA e;refine{c,F,k,so,l,λZK B m d g n=>?_};split at e
  .cases e
  .rename_i f;ext e;exact q ZK B m F d Run.refl (cK.same d) (so.same d) (λa b=>CZ so (λz=>f (by rw[z];rfl)) (g _ b).1) (λa b=>BI.of so.aU (g a b).1) n
def StOk.giveUp {K:Z5}(so:StOk K F H σ ρ)(e:ρ[i]?=Y (Y (.fr,d))):StOk K (F.drop i) H σ (ρ.set i<|Y (.al,d)):=by
 let{v,h1,h2}:=so.sl i .fr d e;have:=so.mE (i:=i) (x:=(.al,d)) (h2.rep so.j')
 have es:σ.set i (Y v)=σ:=by
  apply ls;intro j;by_cases hj:i=j
  .subst hj;rw[dm];simp only[if_true,(az.mp h1).1];exact h1.symm
  .rw[bw hj]
 rw[es]at this;exact this
def Qd (hN:X.N[i]?=Y x)(o:Vis X.env.scope x)(hd:Xf x)(h:(x==("__classdict__":U))=Z6):PI X T (.Name x pos) (tDF X.K<|zv i):=by
 rintro c s t H R I ⟨ZL,F,w,so,e,q⟩
 unfold zv at e;split at e
 .rename_i d hr;let{W,z,e}:=Res.aA e;ext e;let{v,A,C}:=so.sl i .fr d hr;refine aR (pF hN o hd h c s t H (λu f=>u=v/\f=H) I {(v),A,rfl,rfl}) λu ZM D=>?_;let{y,f,E,G,g,L}:=D;subst g L
  let B:Ad->Prop:=λa=>match a with|some a=>(F.drop i).O a=Z8/\F.V a|none=>False
  have M:Rep X.K f B y d:=by
   let{p,g,l,P}:=C
   have m:∀a,Bin F a->B a:=λa b=>by
    cases a with
    |none=>exact b
    |some a=>exact{Fm.bY b.1,b.2.2}
   have n:B (Y p):={by show(if F.O p=Y i then Z8 else F.O p)=Z8;rw[qq l],so.j' p i l};rcases P with⟨j,Q,rfl,k,r⟩|⟨j,Q,rfl,k,r⟩
   .exact{p,j,g,.inl {(k),n},r.weak m}
   .exact{p,j,g,k,n,bV.same (λ_ _ e=>e) m r}
  refine z6c E G M z λZK S=>q ZK B f (F.drop i) (Same.refl _) (Run.of rfl rfl rfl) (cK.drop<|Same.refl _) (so.giveUp hr) (λa b=>b.1) (λa b=>?_) S;cases a with
  |none=>exact b.elim
  |some a=>exact b.2
 .cases e
def Fm.oK (F:Fm)(H:Hp):Fm:={F with O:=λa=>match H a with|some (.dK _)=>F.O a|_=>Z8}
def Fm.jE {F:Fm}{a:Addr}(h:F.O a=Z8):(F.oK H).O a=none:=by
 unfold Fm.oK
 dsimp only
 split<;>first|exact h|rfl
theorem StOk.oK {K:Z5}(so:StOk K F H q l):StOk K (F.oK H) H q (l.map Cc) where
 ext:=so.ext
 aU:=so.aU
 own:=λa i e=>by
  have c:F.O a=Y i:=by
   unfold Fm.oK at e
   dsimp only at e
   split at e
   .exact e
   .cases e
  exact so.own a i c
 len:=by rw[am];exact so.len
 sl:=λi g d e=>by
  rw[bv]at e;cases h:l[i]? with
  |none=>rw[h]at e;ext e
  |some o=>
   rw[h]at e;have c:Cc o=Y (g,d):=by simpa using e
   cases o with
   |none=>ext c
   |some gd=>
    let{m,d0}:=gd;let{v,s,f}:=so.sl i m d0 h;refine{v,s,?_}
    have n:∀a,Bin F a->Bin (F.oK H) a:=λa b=>by
     cases a with
     |none=>exact b
     |some a=>exact{Fm.jE b.1,b.2.1,b.2.2}
    cases m with
    |od=>ext c;exact f
    |al=>ext c;exact f
    |nu=>ext c;exact Rep.weak n f
    |fr=>
     let{p,ev,t,u}:=id f;rcases u with⟨y,w,rfl,j,r⟩|⟨kvs,es,rfl,j,r⟩
     .have k:Y (G.al,ZW w)=Y (g,d):=c;ext k;have x:=Slot.rep so.j' f;exact x
     .have k:Y (G.fr,PyData.dict es)=Y (g,d):=c;ext k;refine{p,ev,?_,.inr {kvs,es,rfl,j,bV.same (λ_ _ z=>z) n r}};unfold Fm.oK
      dsimp only
      rw[j];exact t
def C3 (A:PE X e<|tD X.K fa):PI X tg e (tDF X.K λk=>fa k>>=λx=>nZ x k):=by
 rintro j s C H R I ⟨k,F,w,so,c,q⟩
 let{{g,d},D,c}:=Res.aA c;unfold nZ at c
 dsimp only at c
 split at c
 .rename_i l;split at c
  .rename_i E;ext c;refine aR (A j s C H (λv f=>Same H f/\Rep X.K f (BG F H g) v (.list l)) I {k,F,_,so,D,λv f u m=>{(u),m}}) λv u G=>?_;let{y,f,L,M,i,m}:=G
   let B:Ad->Prop:=λa=>match a with|some a=>(F.oK f).O a=Z8/\F.V a|none=>F.z
   have t:Rep X.K f B y (.list l):=by
    let{p,N,P,h,r}:=m;refine{p,N,P,?_,Reps.bS l E r};rcases h with⟨h,b⟩|⟨h,b⟩
    .refine .inl {h,?_,(BG.aU so.aU b:cB F<|Y p)};unfold Fm.oK
     dsimp only
     rw[h]
    .exact .inr {h,(BG.aU so.aU b:cB F Z8)}
   refine z6c L M t rfl λZK Q=>q ZK B f (F.oK f) i (Run.of rfl rfl rfl) (λa o e n=>{i a o e,Fm.jE n}) ((so.same i).oK) (λa b=>b.1) (λa b=>?_) Q;cases a with
   |none=>exact b
   |some a=>exact b.2
  .cases c
 .cases c
def PI.Ia {k:Rho->Bool}(hf:PI X tg e<|tDF X.K f)(hg:PI X tg e<|tDF X.K g):PI X tg e (tDF X.K λρ=>if k ρ then f ρ else g ρ):=by
 rintro pins s σ H R I ⟨ρ,F,w,so,e,q⟩
 dsimp only at e
 cases hk:k ρ with
 |true=>exact hf pins s σ H R I {ρ,F,w,so,by rw[qq hk]at e;exact e,q}
 |false=>exact hg pins s σ H R I {ρ,F,w,so,by rw[qr<|hk▸di]at e;exact e,q}
theorem zv5 (hp:e9 (model X.prog X.w) X.A X.env X.xe)(hc:X.calm=J)(Q:PI X tg I<|tDF X.K fw)(hg:PG X tg<|tDG X.K t)(hb:PSs X R<|tDS X.K fs)(hs:∀x,fh I X.env x=pure x):
  PS X (.For tg I R [] pos) (tDS X.K λρ=>fw ρ>>=λw=>cQ (λx M=>gG t (gJ x w.1,x) M>>=λc=>fs c) w.2.1 w.2.2):=
 PS.imp (zec hp hc Q hg hb hs) λD σ H ⟨ρ,F,out,so,e,q⟩=>by
  let{w,e1,e}:=Res.aA e;refine{ρ,F,w,so,e1,λZK B H1 l s1 r1 f1 S Qe Qf wk=>?_};have q1:=q.back r1 f1;generalize hf:(λx M=>gG t (gJ x w.1,x) M>>=λc=>fs c)=f at e
  have kp:∀{r:Fm} {s:Hp},cK l H1 r s->Kp B H1 s:=λ{r s} fr a o e b=>by
   have hO:l.O a=none:=by
    rcases b with b|b
    .exact Qe a b
    .cases h:l.O a with
     |none=>rfl
     |some j=>let{_,_,T}:=S.own a j h;rcases T with⟨xs,T⟩|⟨xs,T⟩<;>rw[e]at T<;>ext T<;>exact b.elim
   exact(fr a o e hO).1
  let W:Nat->Nat->L2.St->Hp->Prop:=λi m N s=>m=w.2.1.length-i/\i<=w.2.1.length/\∃c r,StOk X.K r s N c/\Run l r/\cK l H1 r s/\cQ f (w.2.1.drop i) c=.ok out
  refine{W,{_,rfl,c9 _,w.2.2,l,S,Run.refl,cK.refl,e},?_}
  rintro i m N s ⟨rfl,C4,c,r,ZL,P,f2,h⟩
  by_cases k:i<w.2.1.length
  .refine .inr {wk.go s (kp f2) i k,W (i+1)<|w.2.1.length-(i+1),λC H' p=>{_,by omega,p},λx H3 y=>?_};let{s3,d,hd,rx}:=wk.lK s (kp f2) i x H3 k y
   have Qg:w.2.1.drop i=d::w.2.1.drop (i+1):=by
    rw[et k];have:w.2.1[i]=d:=by rw[bn k]at hd;simp_all
    rw[this]
   rw[Qg]at h;simp only[cQ]at h
   have CN:Rep X.K H3 (BI r<|gJ d w.1) x d:=by
    have Qh:∀g a,BI l g a->BI r g a:=λg a b=>by ext g<;>ext a<;>first|exact b|(have L:l.V _:=b;rw[<-P.2.1]at L;exact L)|(have L:l.z:=b;rw[<-P.2.2]at L;exact L)|(have L:l.H0 _≠Z8/\l.V _:=b;exact⟨λz=>L.1<|none_of P.1 z,by rw[P.2.1];exact L.2⟩)
    unfold gJ;by_cases Q:imm d=J
    .rw[qq Q];exact Rep.bS d Q rx
    .rw[qr Q];exact rx.weak λa b=>Qh _ _ (Qf a b)
   cases e3:f d c with
   |no=>rw[e3]at h;ext h
   |exc z=>rw[e3]at h;ext h
   |ok o1=>
    let{ZM,e4,e5}:=Res.aA (by rw[<-e3,<-hf]);rw[e3]at h;refine{c,r,(gJ d w.1,d),ZM,ZL.same s3,CN,e4,λlO F4 zH E=>{ZM,F4,o1,zH,e5,?_}};have r4:=P.trans<|Run.of E.h0 E.v E.z;have f4:=f2.trans λa o e n=>{s3 a o e,E.o a n};cases o1 with
    |nx G=>exact λC H' Z u r' f'=>{rfl,k,G,Z,u,r4.trans r',f4.trans f',h}
    |ct G=>exact λC H' Z u r' f'=>{rfl,k,G,Z,u,r4.trans r',f4.trans f',h}
    |bk G=>ext h;exact λC H' Z u r' f'=>q1 C H' Z u (r4.trans r') (f4.trans f')
    |rt g d=>ext h;exact(q1.back r4 f4:uX X.K F4 H3 D<|.rt g d)
  .have C5:i=w.2.1.length:=by omega
   subst C5;rw[jk]at h;ext h;exact .inl {wk.stop s<|kp f2,q1 N s r ZL P f2}
theorem Qi (ZK:e9 (model X.prog X.w) X.A X.env X.xe)(L:PT X c<|eA X.K E)(M:PSs X r<|tDS X.K fs):PS X (.While c r [] pos) (tDS X.K<|rX E fs n):=
 PS.imp (Gk ZK L M) λD σ H ⟨ρ,F,y,N,e,q⟩=>by
  let W:Nat->L2.St->Hp->Prop:=λm l B=>∃a j,StOk X.K j B l a/\Run F j/\cK F H j B/\rX E fs m a=.ok y
  refine{W,{(n),ρ,F,N,Run.refl,cK.refl,e},?_}
  rintro m l B ⟨a,j,o,s,f2,b⟩
  cases m with
  |zero=>ext b
  |succ m=>
   let{k,O,b}:=Res.aA b;refine{a,j,k,o,O,λG C=>?_};have f3:=f2.trans<|cK.same C;cases k with
   |false=>ext b;exact aY (q l G j (o.same C) s f3)
   |true=>
    refine bD {W m,λh H' p=>{m,j6 m,p},?_};cases x:fs a with
    |no=>rw[x]at b;ext b
    |exc z=>rw[x]at b;ext b
    |ok I=>
     rw[x]at b;refine{a,j,I,o.same C,x,?_};cases I with
     |nx i=>exact λh H' t f u v=>{i,t,f,s.trans u,f3.trans v,b}
     |ct i=>exact λh H' t f u v=>{i,t,f,s.trans u,f3.trans v,b}
     |bk i=>ext b;exact λh H' t f u v=>q h H' t f (s.trans u) (f3.trans v)
     |rt g d=>ext b;exact(q.back s f3:uX X.K j G D<|.rt g d)
end
def rAgg (K:Z5)(f:String):List V->Hp->VK->Prop:=λxs H Q=>∃B x dx l ys d,xs=[x]/\Rep K H B x dx/\z6w dx=.ok (l,ys)/\aggD f l ys=.ok d/\∀w H',Same H H'->Rep K H' (λa=>nw H a\/(imms ys=Z6/\B a)) w d->Q w H'
def Ib {K:Z5}(r:Rep K H B x dx)(e:z6w dx=.ok (l,c)):∃a b,x=.ref a/\(if l then SqL K H a b else dC K H a b)/\Reps K H B b c:=by
 ext dx<;>try (ext e;done)
 .cases e;let{a,b,rfl,h,q}:=pK r;exact{(a),b,rfl,h,q}
 .cases e;let{a,b,rfl,h,q}:=r;exact{(a),b,rfl,h,q}
def Reps.xg {K:Z5}(r:Reps K H B c b):Reps K H (λa=>nw H a\/(imms b=Z6/\B a)) c b:=by
 cases d:imms b with
 |true=>exact Reps.bS b d r
 |false=>exact r.weak λ_ z=>.inr {rfl,(z)}
section
variable {X:Cx}{e:Expr}{fa:Rho->Res GD}{pos:Pos}
def zj9 (so:StOk X.K F H l j)(e:((fa j>>=fun x=>z6w x.2>>=fun p=>Res.ok (x.1,p))>>=fun w=>aggD f w.2.1 w.2.2>>=fun d=>Res.ok ((gJ d (if imms w.2.2 then .fr else agG w.1),d):GD))=.ok z)(q:∀v g,Same H g->Rep X.K g (BG F H z.1) v z.2->Q v g):
  pZ (rAgg X.K f) (mT (tD X.K fa) fF) l H Q:=by
 let{w,b,e}:=Res.aA e;let{x,m,b}:=Res.aA b;let{p,n,b}:=Res.aA b;ext b;let{d,o,e}:=Res.aA e;ext e;refine{j,F,x,so,m,λv A c r=>{_,v,x.2,p.1,p.2,d,rfl,r,n,o,λs t u i=>q s t (c.trans u)<|r0 i λa h=>?_}};cases y:imms p.2 with
 |true=>
  rcases h with h|⟨h,_⟩
  .exact nw.back c h
  .rw[y]at h;ext h
 |false=>
  have al:cB F a:=by
   rcases h with h|⟨_,h⟩
   .exact(nw.back c h).aU so.aU
   .exact h.aU so.aU
  cases k:x.1 with
  |fr=>
   rcases h with h|⟨_,h⟩
   .exact nw.back c h
   .rw[k]at h;exact h
  |od=>exact al
  |al=>exact al
  |nu=>
   rcases h with h|⟨_,h⟩
   .exact .inl (nw.back c h)
   .rw[k]at h;exact h
def Qj:CallR X (.type "tuple") (rAgg X.K "tuple"):=by
 refine CallR.imp NQ λg H Q h=>?_;let{B,x,dx,l,i,d,rfl,r,e,f,q}:=h;let{a,b,rfl,h,rs}:=Ib r e;ext f;refine{a,b,rfl,?_};cases l with
 |true=>exact .inl {h,λp c=>q _ _ (Same.upd c)<|zA c rs.xg λ_ z=>z}
 |false=>exact .inr {h,q _ H (Same.refl H) {(a),b,rfl,h,rs.xg}}
theorem Ic {K:Z5}:∀{a:List D} {bs:List Bool} {b:List V},allB a=Y bs->Reps K H B b a->b=bs.map V.bl
 | [],bs,b,e,r=>by ext e;exact r
 |d::a,bs,b,e,r=>by
  ext d<;>try (ext e;done)
  simp only[allB]at e;cases c:allB a with
  |none=>rw[c]at e;ext e
  |some f=>rw[c]at e;ext e;let{v,t,rfl,g,h}:=r;rw[g,Ic c h];rfl
def Qk (f:X.calm=J):CallR X (.builtin "all") (rAgg X.K "all"):=by
 refine CallR.imp (Oj f) λj H Q h=>?_;let{B,x,k,l,g,d,rfl,r,e,b,q}:=h;let{a,m,rfl,h,i}:=Ib r e;simp only[aggD,show("all":String)≠"list" by decide,show("all":String)≠"tuple" by decide,show("all":String)≠"sorted" by decide,show("all":String)≠"sum" by decide,if_true,if_false]at b;cases l with
 |false=>ext b
 |true=>
  cases c:allB g with
  |none=>rw[c]at b;ext b
  |some bs=>rw[c]at b;ext b;have ev:=Ic c i;subst ev;exact{a,bs,rfl,h,q _ H (Same.refl H) rfl}
theorem zsr (hc:CallR X (.type f)<|rAgg X.K f)(hm:X.mg x=Z8)(c:cy x=Y (.type f))(hs:isStar y=Z6)(g:PE X y<|tD X.K fa)(h:Gl X x)(hn:x≠"__name__")(a:Xf x):
  PE X (.Call (.Name x p) [y] [] pos) (tD X.K λb=>(fa b>>=λx=>z6w x.2>>=λp=>Res.ok (x.1,p))>>=λw=>aggD f w.2.1 w.2.2>>=λd=>.ok (gJ d (if imms w.2.2 then .fr else agG w.1),d)):=
 PE.imp (B3 hc hm c (dY g kR hs) (by simp[hs]) h hn a) λi H Q ⟨b,F,z,so,e,q⟩=>zj9 so e q
theorem zqd (hc:CallR X (.builtin f)<|rAgg X.K f)(hm:X.mg x=Z8)(c:cy x=Y (.builtin f))(hs:isStar y=Z6)(g:PE X y<|tD X.K fa)(h:Gl X x)(hn:x≠"__name__")(a:Xf x):
  PE X (.Call (.Name x p) [y] [] pos) (tD X.K λb=>(fa b>>=λx=>z6w x.2>>=λp=>Res.ok (x.1,p))>>=λw=>aggD f w.2.1 w.2.2>>=λd=>.ok (gJ d (if imms w.2.2 then .fr else agG w.1),d)):=
 PE.imp (zt hc hm c (dY g kR hs) (by simp[hs]) h hn a) λi H Q ⟨b,F,z,so,e,q⟩=>zj9 so e q
end
structure NoKeys (T id:String):Prop where
 own:PySem.Slot T "__getattribute__" id
 entry:entryFor table id=some Builtin.«object.__getattribute__»
 two:∀a b:Value,argsOk id {pos:=[a,b]}
 rest:typeLookup (.type T) "__getattr__"=pure Z8
 miss:∀(a:Addr) (xs:Array Value) (k:Nat) (sl:Array<|Option Value) (u:Tok),Meets (Builtin.«object.__getattribute__» {pos:=[.ref a,.str "keys" u]}) λA R s=>s.heap.get? a=some {cls:=.type T,data:=.seq xs k,slots:=sl}/\raisesAttr (.ref a) "keys" A R s
def NoKeys.ask {T id:String}(N:NoKeys T id){prog:b9}{w:World}{A:eh}{E:Value->aq->Prop}{s:aq}{a:Addr}{o:Obj}{i:Array Value}{k:Nat}{Q:Option Value->aq->Prop}
  (j:s.heap.get? a=Y o) (hc:o.cls=.type T) (d:o.data=.seq i k) (hd:o.dict=Z8) (m:A.handled=Z8)
  (h:∀l n e,Heap.NewExcOf s.heap l e "AttributeError"->Q Z8 {s with heap:=l,toks:=n}):
  w['b'] (getAttr? (.ref a) "keys") Q E s:=by
 ext o;ext hc;ext d;ext hd;ext s;rename_i b heap f c toks os;have ty:∀t,({heap,(f),c,t,os}:aq).TypeIs (.ref a) T:=λt=>{_,j,rfl};have p:=sub_AttributeError;have n1:=N.own.lookup;have n2:=N.own.bind<|.ref a;have n3:=N.rest
 delta getAttr? getAttrBy? getAttrBy
 repeat' (first|assumption|exact ty _|(apply jp N.own (ty _) N.entry (N.two _ _)<|N.miss a i k b _)|wp_step)
 refine{j,m,λq r ex nx=>?_};let{u,v,there}:=nx.there;have g:=λt=>h _ t _ nx.of
 dsimp only[wants]
 delta getattributeRaised
 repeat' (first|assumption|apply g|wp_step)
namespace F
end F
open PySem.W
section
variable (key:Nat->Nat)
def zK (p:Array Nat)(i:Nat):Nat:=key (p.getD i 0)
variable {key}
def oM (key:Nat->Nat)(p:Array Nat)(m:Nat):Prop:=∀i,1<=i->i<m->zK key p (i-1)<=zK key p i
theorem oM.le (h:oM key p m):∀d i,i+d<m->zK key p i<=zK key p (i+d)
 |0,i,_=>ag _
 |d+1,i,hm=>by exact bj (oM.le h d i ZQ) (h (i+d+1) ZQ ZQ)
end
def uY {α:Type}(n:Nat)(Q:α->Prop):KasT α->Prop
 |.ret a=>Q a
 |.ask i j k=>i<n/\j<n/\∀b,uY n Q (k b)
theorem uY.bind {c d:Type}{Q:c->Prop}{R:d->Prop}{f:c->KasT d}(e:∀a,Q a->uY n R (f a)):∀{t:KasT c},uY n Q t->uY n R (t.bind f)
 |.ret a,h=>e a h
 |.ask i j k,h=>{h.1,h.2.1,λb=>uY.bind e<|h.2.2 b}
def AllIn (n:Nat)(p:Array Nat):Prop:=0<n/\∀x∈p,x<n
def AllIn.get (h:AllIn n p)(i:Nat):p.getD i 0<n:=by
 rw[Array.getD_eq_getD_getElem?];cases e:p[i]? with
 |none=>exact h.1
 |some x=>exact h.2 x (Array.mem_of_getElem? e)
def z1u.some (x:z1u P w H h a o):∃q,h.get? a=Y q:=by
 cases o with
 |lst b=>let{_,_,_,_,e}:=x;exact{_,e}
 |tup b=>let{_,_,_,_,e}:=x;exact{_,e}
 |dK kvs=>let{_,_,_,_,o,_,_,e,_}:=x;exact{_,e}
 |dT kvs=>let{_,_,_,_,o,_,_,e,_}:=x;exact{_,e}
 |set S n=>let{ob,es,ep,t,e,c}:=x;exact{_,e}
 |ins C dx fs=>let{d,z,ne,e,_}:=x;exact{_,e}
 |own y=>exact x
 |xd fs=>let{f,{od,es,ep,e,c},r}:=x;exact{_,e}
 |gL ob u=>exact{_,x.1}
 |nN ps=>exact{_,x}
 |ext g=>let{p,{o,e},st}:=x;exact{_,e}
theorem bV.at {K:Z5}:∀{kvs:List<|Key×V} {es:eM} {i:Nat} {k:Key} {v:V},bV K H B kvs es->kvs[i]?=Y (k,v)->∃d,es[i]?=Y (kD k,d)/\keyOk k/\Rep K H B v d
 |kvs,[],i,k,v,r,e=>by have:kvs=[]:=r;subst this;simp at e
 |kvs,(kd,d)::es,i,k,v,r,e=>by
  let{c,f,t,rfl,rfl,ok,a,b}:=r;cases i with
  |zero=>ext e;exact{(d),rfl,ok,a}
  |succ i=>rw[fj]at e ⊢;exact bV.at b e
section
variable {X:Cx}{tg a b c e:Expr}{es:List Expr}{fa fb:Rho->Res GD}{pos:Pos}
def zrw (hc:CallR X (.type T)<|z68 X.K m)(hm:X.mg x=Z8)(l:cy x=Y (.type T))(n:PA X (e::es)<|tDA X.K fs)(c:((e::es).all fun e=>!isStar e)=J)(o:Gl X x)(hn:x≠"__name__")(f:Xf x):
  PE X (.Call (.Name x p) (e::es) [] pos) (tD X.K λg=>fs g>>=λi=>m (i.map (·.2))>>=λd=>.ok (gJ d .al,d)):=by
 refine PE.imp (B3 hc hm l n c o hn f) λy H Q r=>?_;let{g,F,z,so,b,q}:=r;let{i,s,b}:=Res.aA b;let{d,t,b}:=Res.aA b;ext b;exact{g,F,i,so,s,λA B k rs=>{_,_,d,rs.jD so.aU,t,λw u v j=>q w u (k.trans v)<|r0 j λa h=>h.elim (λz=>(nw.back k z).aU so.aU) λz=>z}}
def Ql:CallR X (.type "int") (z68 X.K<|gP "int"):=by
 refine CallR.imp (CallR.or M0 P4) λe H Q h=>?_;let{B,f,d,r,a,q}:=h;simp only[gP,show("int":String)≠"len" by decide,show("int":String)≠"max" by decide,if_true,if_false]at a;split at a
 .rename_i i;ext a;let{v,rfl,b}:=tY r;obtain rfl:v=.int i:=b;exact .inl (.inl {i,rfl,q _ H (Same.refl H) rfl})
 .rename_i k;ext a;let{v,rfl,b}:=tY r;obtain rfl:v=.bl k:=b;exact .inl (.inr {k,rfl,q _ H (Same.refl H) rfl})
 .rename_i x;unfold qG at a;split at a
  .rename_i c;ext a;rw[av]at c;let{v,rfl,b}:=tY r;obtain rfl:v=.str x:=b.1;exact .inr {x,rfl,c.1,qw c.2,q _ H (Same.refl H) rfl}
  .cases a
 .cases a
def Qm (i:Int):ZY (toString i:String)=true:=by
 have a:∀c:Char,c.toNat<1114112:=λc=>by
  rcases c.valid with h|h
  .have b:c.val.toNat<55296:=h;show c.val.toNat<_;omega
  .exact h.2
 unfold ZY;rw[Str.ofString_eq_toList];simp only[ml,List.all_toArray,bc];intro c _;exact qx (a c)
def Qn:CallR X (.type "str") (z68 X.K<|gP "str"):=by
 refine CallR.imp M3 λc H Q h=>?_;let{B,e,d,r,a,q}:=h;simp only[gP,show("str":String)≠"len" by decide,show("str":String)≠"max" by decide,show("str":String)≠"int" by decide,if_true,if_false]at a;split at a
 .rename_i i;split at a
  .rename_i hi;ext a;let{v,rfl,b}:=tY r;obtain rfl:v=.int i:=b;exact{i,rfl,hi,q _ H (Same.refl H) {rfl,Qm i}}
  .cases a
 .cases a
end
abbrev ZRec (TI TO:Addr)(f0:Value)(f1:Bool):Obj:={cls:=.type "zip",dict:=Z8,data:=.fields #[f0,.bool f1,.bool Z6,.ref TI,.ref TO],slots:=#[]}
def ZF (f0:Value):Prop:=f0=Value.none\/∃T:Nat,f0=jl T
section
variable {prog:b9}{w:World}{A:eh}{E:Value->aq->Prop}{s:aq}{z TI TO:Addr}{f0:Value}{f1:Bool}
theorem Qo (h:Q (s.heap.get? a) s):w['b'] (loadIfAlive a) Q E s:=λ_ _ _=>h
def Ie (hf:ZF f0)(a:s.heap.get? z=Y (ZRec TI TO f0 f1))(d:∀b c e,c.get? z=Y (ZRec TI TO f0 e)->cc z s.heap c->Q b {s with heap:=c}):w['b'] (jm<|.ref z) Q E s:=by
 delta jm
 apply aa;refine dj a rfl rfl ?_;rcases hf with rfl|⟨T,rfl⟩
 .exact au (d J s.heap f1 a (Heap.SameBut.refl ..))
 .show wpAny _ _ (loadIfAlive ((T:Int).toNat)>>=_) _ _ _;apply aa;refine Qo ?_;cases s.heap.get? ((T:Int).toNat)with
  |none=>exact au (d J s.heap f1 a (Heap.SameBut.refl ..))
  |some o=>
   apply aa;refine dj a rfl rfl ?_;cases f1 with
   |true=>exact au (d Z6 s.heap J a (Heap.SameBut.refl ..))
   |false=>apply aa;exact d9 a ZO λc f g=>au (d Z6 c J f g)
structure ZApart (z TI TO i1 i2:Addr)(p1 p2:List Addr):Prop where
 TIz:TI≠z
 TOz:TO≠z
 i1z:i1≠z
 i2z:i2≠z
 TITO:TI≠TO
 TIi1:TI≠i1
 TIi2:TI≠i2
 TOi1:TO≠i1
 TOi2:TO≠i2
 i12:i1≠i2
 xh:z∉p1
 Ig:TO∉p1
 Ih:i2∉p1
 xj:z∉p2
 C6:TO∉p2
 zL:i1∉p2
variable {i1 i2:Addr}{p1 p2:List Addr}{n1 n2 i:Nat}{P1 P2:Nat->Value->Prop}{S1 S2:Nat->Heap->Prop}{a b:Value}
abbrev PairAt (h:Heap)(T:Addr)(a b:Value):Prop:=h.get? T=Y {cls:=.type "tuple",data:=.seq #[a,b]}
def Zk (z TO i1 i2:Addr)(h h':Heap):Prop:=∀c o,c≠z->c≠TO->c≠i1->c≠i2->h.get? c=Y o->h'.get? c=Y o
theorem C7 (d:PairAt s.heap T a b)(h:∀c,c.get? T=Y {cls:=.type "tuple",data:=.seq<|(#[a,b]:Array Value).setIfInBounds k x}->cc T s.heap c->Q () {s with heap:=c}):w['b'] (updateSeq T (·.setIfInBounds k x)) Q E s:=wpAny_updateSeq d rfl (h _ (by rw[ey _ d rfl];simp[Obj.mapSeq]) (n7 ..))
def zho {Q:Value->aq->Prop}(D:ZApart z TI TO i1 i2 p1 p2)(k:Draws prog w A i1 p1 n1 P1 S1)(l:Draws prog w A i2 p2 n2 P2 S2)(hf:ZF f0)(M:s.heap.get? z=Y (ZRec TI TO f0 f1))(N:PairAt s.heap TI (.ref i1)<|.ref i2)(O:PairAt s.heap TO a b)(h1:S1 i s.heap)(h2:S2 i s.heap)(ZM:i<n1)(l2:i<n2)
  (Z:∀x y n P F h a' b',P1 i x->P2 i y->ZF F->n.get? z=Y (ZRec TI TO F h)->PairAt n TO a' b'->S1 (i+1) n->S2 (i+1) n->PairAt n s[?_] x y->Zk z TO i1 i2 s.heap n->Q (.ref s[?_]) {s with heap:=n,toks:=P}):
  wpAny (model prog w) A (Builtin.«zip.__next__» {pos:=[.ref z],kw:=[]}) (λR s'=>∃v,R=.done (.ret v)/\Q v s') E s:=by
 show w['b'] (field (.ref z) 2>>=_) _ E s;apply aa;refine dj M rfl rfl ?_;apply aa;refine dj M rfl rfl ?_;apply aa;refine gc N rfl ?_;apply aa;refine Ie hf M λbf G h f j=>?_;have H:=λc o hc e=>j.extBut c o hc e;have e1:=k.frame _ _ _ h1 λb hb o e=>H b o (λq=>D.xh<|q▸hb) e;have e2:=l.frame _ _ _ h2 λb hb o e=>H b o (λq=>D.xj<|q▸hb) e;have t0:=H _ _ D.TOz O;have I:=j.1;cases bf with
 |true=>
  apply aa;refine lg ?_;apply aa;refine dj f rfl rfl ?_;apply aa;refine d9 f ZO λha S ka=>?_;replace S:ha.get? z=Y (ZRec TI TO .ellipsis h):=S;apply aa;apply aa;apply aa;apply kb;apply aa;refine k.item i _ _ _ ZM (k.frame _ _ _ e1 λb hb o e=>ka.extBut b o (λq=>D.xh<|q▸hb) e) λx hb P p r g=>au ?_;replace g:cc i1 ha hb:=g;have tb:=g.extBut _ _ D.TOi1<|ka.extBut _ _ D.TOz t0;apply aa;refine gc tb rfl ?_;apply aa;refine C7 tb λhc tc kc=>?_;replace tc:PairAt hc TO x b:=tc;replace kc:cc TO hb hc:=kc;apply aa;refine qa<|au ?_;apply aa;apply aa;apply kb;apply aa;refine l.item i _ _ _ l2 (l.frame _ _ _ (l.frame _ _ _ (l.frame _ _ _ e2 λb hb o e=>ka.extBut b o (λq=>D.xj<|q▸hb) e) λb d o e=>g.extBut b o (λq=>D.zL<|q▸d) e) λb d o e=>kc.extBut b o (λq=>D.C6<|q▸d) e) λy hd t u B kd=>au ?_;replace kd:cc i2 hc hd:=kd;have td:=kd.extBut _ _ D.TOi2 tc;apply aa;refine gc td rfl ?_;apply aa;refine C7 td λm L C=>?_;replace L:PairAt m TO x y:=L;replace C:cc TO hd m:=C;apply aa;refine qa<|au<|au ?_;apply aa;refine gc L rfl ?_;apply aa;refine wpAny_newTuple ?_;have sz:m.objs.size=s[?_]:=by rw[C.1,kd.1,kc.1,g.1,ka.1,I]
  have ze:=C.extBut _ _ D.TOz.symm<|kd.extBut _ _ D.i2z.symm<|kc.extBut _ _ D.TOz.symm<|g.extBut _ _ D.i1z.symm S;have ZK:=bb ze;apply aa
  delta Builtin.SmallTypes.ownedTupleHandOut
  have zf:(m.push {cls:=.type "tuple",data:=.seq #[x,y]}).get? z=Y (ZRec TI TO .ellipsis h):=af _ ze;apply aa;refine d9 zf ZO λhg T kg=>?_;replace T:hg.get? z=Y (ZRec TI TO (jl m.objs.size) h):=T;refine d9 T ZO λhh ZL kh=>?_;replace ZL:hh.get? z=Y (ZRec TI TO (jl m.objs.size) Z6):=ZL;have up:∀c o,c≠z->m.get? c=Y o->hh.get? c=Y o:=λc o hc e=>kh.extBut _ _ hc<|kg.extBut _ _ hc<|af _ e;have new:=kh.extBut _ _ (mh ZK)<|kg.extBut _ _ (mh ZK)<|ba _ rfl;refine au {.ref m.objs.size,rfl,?_};rw[sz]at new ⊢;exact Z x y hh t _ _ x y p u (.inr {_,rfl}) ZL (up _ _ D.TOz L) (k.frame _ _ _ (k.frame _ _ _ (k.frame _ _ _ (k.frame _ _ _ r λb d o e=>kc.extBut b o (λq=>D.Ig<|q▸d) e) λb d o e=>kd.extBut b o (λq=>D.Ih<|q▸d) e) λb d o e=>C.extBut b o (λq=>D.Ig<|q▸d) e) λb d o e=>up b o (λq=>D.xh<|q▸d) e) (l.frame _ _ _ (l.frame _ _ _ B λb d o e=>C.extBut b o (λq=>D.C6<|q▸d) e) λb d o e=>up b o (λq=>D.xj<|q▸d) e) new λc o K V W X e=>up c o K (C.extBut _ _ V<|kd.extBut _ _ X<|kc.extBut _ _ V<|g.extBut _ _ W<|ka.extBut _ _ K<|H c o K e)
 |false=>
  apply aa;apply aa;apply aa;apply fz;apply aa;refine k.item i _ _ _ ZM e1 λx hb P p r g=>au<|au ?_;replace g:cc i1 G hb:=g;apply aa;apply aa;apply fz;apply aa;refine l.item i _ _ _ l2 (l.frame _ _ _ e2 λb d o e=>g.extBut b o (λq=>D.zL<|q▸d) e) λy hd t u B kd=>au<|au<|au ?_;replace kd:cc i2 hb hd:=kd;have sz:hd.objs.size=s[?_]:=by rw[kd.1,g.1,I]
  apply aa;refine wpAny_newTuple (au {_,rfl,?_}) (by show 2<=aw;decide);have up:∀c o,hd.get? c=Y o->(hd.push {cls:=.type "tuple",data:=.seq #[x,y]}).get? c=Y o:=λc o e=>af _ e;have new:PairAt (hd.push {cls:=.type "tuple",data:=.seq #[x,y]}) hd.objs.size x y:=ba _ rfl;rw[sz]at new ⊢;exact Z x y _ t f0 h a b p u hf (up _ _<|kd.extBut _ _ D.i2z.symm<|g.extBut _ _ D.i1z.symm f) (up _ _<|kd.extBut _ _ D.TOi2<|g.extBut _ _ D.TOi1 t0) (k.frame _ _ _ (k.frame _ _ _ r λb d o e=>kd.extBut b o (λq=>D.Ih<|q▸d) e) λb d o e=>up b o e) (l.frame _ _ _ B λb d o e=>up b o e) new λc o K V W X e=>up c o (kd.extBut _ _ X<|g.extBut _ _ W<|H c o K e)
def zms (D:ZApart z TI TO i1 i2 p1 p2)(B:Draws prog w A i1 p1 n1 P1 S1)(m:Draws prog w A i2 p2 n2 P2 S2)(hf:ZF f0)(N:s.heap.get? z=Y (ZRec TI TO f0 f1))(O:PairAt s.heap TI (.ref i1)<|.ref i2)(P:PairAt s.heap TO a b)(h1:S1 i s.heap)(h2:S2 i s.heap)(hl:i=min n1 n2)
  (ZK:∀R C e,Zk z TO i1 i2 s.heap R->(∃o,R.get? e=Y o/\o.cls=.type "StopIteration")->E (.ref e) {s with heap:=R,toks:=C}):
  wpAny (model prog w) A (Builtin.«zip.__next__» {pos:=[.ref z],kw:=[]}) Q E s:=by
 show w['b'] (field (.ref z) 2>>=_) _ E s;apply aa;refine dj N rfl rfl ?_;apply aa;refine dj N rfl rfl ?_;apply aa;refine gc O rfl ?_;apply aa;refine Ie hf N λbf l S f n=>?_;have p:=λc o K e=>n.extBut c o K e;have T:=B.frame _ _ _ h1 λb hb o e=>p b o (λq=>D.xh<|q▸hb) e;have e2:=m.frame _ _ _ h2 λb hb o e=>p b o (λq=>D.xj<|q▸hb) e;cases bf with
 |true=>
  apply aa;refine lg ?_;apply aa;refine dj f rfl rfl ?_;apply aa;refine d9 f ZO λha L ka=>?_;replace L:ha.get? z=Y (ZRec TI TO .ellipsis S):=L;have F:=B.frame _ _ _ T λb hb o e=>ka.extBut b o (λq=>D.xh<|q▸hb) e;apply aa;apply aa;apply aa;apply kb;apply aa;by_cases ZL:i<n1
  .refine B.item i _ _ _ ZL F λx hb C V W g=>au ?_;replace g:cc i1 ha hb:=g;have tb:=g.extBut _ _ D.TOi1<|ka.extBut _ _ D.TOz<|p _ _ D.TOz P;have r:=m.frame _ _ _ (m.frame _ _ _ e2 λb hb o e=>ka.extBut b o (λq=>D.xj<|q▸hb) e) λb h o e=>g.extBut b o (λq=>D.zL<|q▸h) e;apply aa;refine gc tb rfl ?_;apply aa;refine C7 tb λK tc kc=>?_;replace kc:cc TO hb K:=kc;apply aa;refine qa<|au ?_;have X:S2 n2 K:=by rw[show n2=i by omega];exact m.frame _ _ _ r λb h o e=>kc.extBut b o (λq=>D.C6<|q▸h) e
   apply aa;apply aa;apply kb;apply aa;refine m.done _ _ _ X λhd e kd t=>?_;let{ZM,d,j}:=t;have G:=kd _ _ D.i2z.symm<|kc.extBut _ _ D.TOz.symm<|g.extBut _ _ D.i1z.symm L;refine d9 G ZO λu _ H=>ZK u C e (λc o k M v I q=>?_) {ZM,H.extBut _ _ (λq=>by subst q;rw[G]at d;ext d;simp at j) d,j};exact H.extBut _ _ k (kd _ _ I<|kc.extBut _ _ M<|g.extBut _ _ v<|ka.extBut _ _ k<|p c o k q)
  .have y:S1 n1 ha:=show n1=i by omega▸F
   refine B.done _ _ _ y λhd e kd t=>?_;let{ZM,d,j}:=t;have G:=kd _ _ D.i1z.symm L;refine d9 G ZO λu _ H=>ZK u s.toks e (λc o k M v I q=>?_) {ZM,H.extBut _ _ (λq=>by subst q;rw[G]at d;ext d;simp at j) d,j};exact H.extBut _ _ k (kd _ _ v<|ka.extBut _ _ k<|p c o k q)
 |false=>
  apply aa;apply aa;apply aa;apply fz;apply aa;by_cases ZL:i<n1
  .refine B.item i _ _ _ ZL T λx hb C V W g=>au<|au ?_;replace g:cc i1 l hb:=g;have r:S2 n2 hb:=by rw[show n2=i by omega];exact m.frame _ _ _ e2 λb h o e=>g.extBut b o (λq=>D.zL<|q▸h) e
   apply aa;apply aa;apply fz;apply aa;exact m.done _ _ _ r λhd e kd t=>ZK hd C e (λc o k M v I q=>kd _ _ I<|g.extBut _ _ v<|p c o k q) t
  .have y:S1 n1 l:=show n1=i by omega▸T
   exact B.done _ _ _ y λhd e kd t=>ZK hd s.toks e (λc o k M v I q=>kd _ _ v<|p c o k q) t
end
section
variable {prog:b9}{w:World}{A:eh}{E:Value->aq->Prop}{s:aq}
def zaz (a:s.heap.IsTupleIter it t i)(m:s.heap.IsTuple t items)(o:items[i]?=Y x)
  (p:∀e,e.IsTupleIter it t (i+1)->cc it s.heap e->Q x {s with heap:=e}):w['b'] (lp<|.ref it) Q E s:=by
 have ty:=a.typeIs;let{{k,f,g,b},c,hc,hd}:=a;let{{l,h,j,d},to,tc,n,q}:=m;ext hc;ext hd;ext tc;ext q;apply aa;refine fi ty F.slot_tuple_iterator_next<|gx F.slot_tuple_iterator_next ty F.entry_tuple_iterator_next ?_<|F.args_tuple_iterator_next_1 _;show wpAny _ _ (field (.ref it) 0>>=_) _ _ _;apply aa;refine dj c rfl rfl ?_;apply aa;refine dj c rfl rfl ?_;apply aa;refine gc to rfl ?_
 dsimp only
 rw[dh i,o];apply aa;refine j2 c rfl ZO<|au {x,rfl,au<|p _ {_,ey _ c rfl,rfl,?_}<|n7 _ _ _};rfl
def z66 (hh:A.handled=Z8)(a:s.heap.IsTupleIter it t i)(q:s.heap.IsTuple t items)(r:items[i]?=Z8)
  (u:∀f e,Heap.ExtBut it s.heap f->(∃o,f.get? e=Y o/\o.cls=.type "StopIteration")->E (.ref e) {s with heap:=f}):w['b'] (lp<|.ref it) Q E s:=by
 have ty:=a.typeIs;let{{m,g,h,c},j,hc,hd}:=a;let{{p,k,l,d},to,tc,n,v}:=q;ext hc;ext hd;ext tc;ext v;apply aa;refine fi ty F.slot_tuple_iterator_next<|gx F.slot_tuple_iterator_next ty F.entry_tuple_iterator_next ?_<|F.args_tuple_iterator_next_1 _;show wpAny _ _ (field (.ref it) 0>>=_) _ _ _;apply aa;refine dj j rfl rfl ?_;apply aa;refine dj j rfl rfl ?_;apply aa;refine gc to rfl ?_
 dsimp only
 rw[dh i,r];apply aa;refine lg ?_;apply aa;refine j2 j rfl ZO ?_
 delta Builtin.SmallTypes.stopIteration
 repeat (any_goals (first|assumption|wp_step))
 refine n8 hh<|u _ _ (λb o x e=>?_) {_,ba _ rfl,rfl};refine af _<|af _ ?_;rw[kx _ _ _ _ x];exact e
theorem Qp (hh:A.handled=Z8)(it t:Addr)(c:t≠it)(items:Array Value):Draws prog w A it [it,t] items.size (λi v=>items[i]?=Y v) (λi h=>h.IsTupleIter it t i/\h.IsTuple t items) where
 live:=λi h st=>let⟨⟨o,d,_⟩,_⟩:=st;{(o),d}
 frame:=λi h f st k=>by let{{o,d,r},b,a,e}:=st;exact{{o,k it ZO o d,r},b,k t ZO b a,e}
 item:=λi l q u g st m=>by refine zaz st.1 st.2 (lq g) λf n j=>?_;let{b,a,e}:=st.2;exact m _ f l.toks (lq g) {n,b,j.extBut t b c a,e} j
 done:=λs Q E st p=>z66 hh st.1 st.2 (Array.getElem?_eq_none<|ag _) p
end
def IsB (h:Heap)(l:Bool)(a:Addr)(xs:Array Value):Prop:=match l with
 |true=>h.IsList a xs
 |false=>h.IsTuple a xs
def kZ (h:Heap)(l:Bool)(it a:Addr)(i:Nat):Prop:=match l with
 |true=>h.IsListIter it a i
 |false=>h.IsTupleIter it a i
def iT (K:Z5)(H:Hp)(l:Bool)(a:Addr)(vs:List V):Prop:=match l with
 |true=>SqL K H a vs
 |false=>dC K H a vs
def pN (K:Z5)(H:Hp)(B:Ad->Prop)(l:Bool)(a:Addr)(vs:List V):Prop:=match l with
 |true=>(H a=Y (.lst vs)/\B (Y a))\/(FL K H a vs/\B Z8)
 |false=>dC K H a vs
abbrev dH (l:Bool)(a:Addr):Obj:={cls:=.type (if l then "list_iterator"else "tuple_iterator"),data:=.fields #[.ref a,.int 0 0]}
def pN.keep {K:Z5}(h:pN K H B l a c)(k:Kp B H d):iT K d l a c:=by
 cases l with
 |true=>
  rcases h with⟨h,b⟩|⟨⟨o,h⟩|h,_⟩
  .exact .inl (.inl<|k a _ h<|.inl b)
  .exact .inl (.inr {o,k a _ h<|.inr True.intro})
  .exact .inr h
 |false=>exact dC.keep k h
def pN.of {K:Z5}(r:Rep K H B v d)(e:seqR d=.ok xs):∃l a vs,v=.ref a/\pN K H B l a vs/\Reps K H B vs xs/\xs.length<=LIM:=by
 ext d<;>try (exact(hJ e).elim)
 case list ds=>
  have e:(if decide (ds.length<=LIM)=J then Res.ok ds else Res.no)=Res.ok xs:=e;split at e
  .rename_i hc;ext e;let{a,vs,rfl,h,rs}:=r;exact{J,a,vs,rfl,h,rs,qw hc}
  .cases e
 case tuple ds=>
  have e:(if decide (ds.length<=LIM)=J then Res.ok ds else Res.no)=Res.ok xs:=e;split at e
  .rename_i hc;ext e;let{a,vs,rfl,h,rs}:=r;exact{Z6,a,vs,rfl,h,rs,qw hc}
  .cases e
section
variable {X:Cx}{pins:List<|Addr×Obj}{σ:L2.St}{H:Hp}{s:aq}
def iT.items (I:Inv X d f H s)(h:iT X.K H l a e):∃b,Vals e b/\IsB s.heap l a b.toArray/\e.length=b.length:=by
 cases l with
 |true=>let{b,c,p,_}:=I.list h;exact{(b),c,p.isList,c.length}
 |false=>let{b,c,p,_}:=I.tuple h;exact{(b),c,p,c.length}
end
def uZ (hh:A.handled=Z8)(l:Bool)(it a:Addr)(b:a≠it)(items:Array Value):Draws prog w A it [it,a] items.size (λi v=>items[i]?=Y v) (λi h=>kZ h l it a i/\IsB h l a items):=by
 cases l with
 |true=>exact Draws.list hh it a b items
 |false=>exact Qp hh it a b items
def kZ.live (x:kZ h l it a i):∃o,h.get? it=Y o/\∀v,o.data≠.cell v:=by ext l<;>(let{o,b,_,hd}:=x;exact{o,b,λv z=>by rw[hd]at z;ext z})
def kZ.keep (x:kZ h l it a i)(k:∀o,h.get? it=Y o->b.get? it=Y o):kZ b l it a i:=by ext l<;>(let{o,c,r}:=x;exact{o,k o c,r})
def kZ.new (x:h.get? b=Y (dH l a)):kZ h l b a 0:=by ext l<;>exact{_,x,rfl,rfl}
def IsB.lt (x:IsB h l a c):a<h.objs.size:=by ext l<;>(let{o,b,_}:=x;exact bb b)
def IsB.push (x:IsB h l a b)(o:Obj):IsB (h.push o) l a b:=by ext l<;>(let{q,c,r}:=x;exact{q,af _ c,r})
def zM (h:IsB s.heap l a c)(b:Q (.ref s[?_]) {s with heap:=s.heap.push<|dH l a}):w['b'] (p8<|.ref a) Q E s:=by
 cases l with
 |true=>exact jx h b
 |false=>exact o0 h b
section
variable {X:Cx}{pins:List<|Addr×Obj}{σ:L2.St}{H:Hp}{s:aq}
def _root_.L2.Inv.turnedTL {h:List Addr}(I:Inv X a l H s)(f:∀b∈h,FpOk X a H b)(keep:∀b q,b∉h->s.heap.get? b=Y q->i.get? b=Y q)(j:s[?_]<=p)
  (new:z1u X.prog X.w (upd H p<|.tup xs) i p<|.tup xs):Inv X a l (upd H p<|.tup xs) {s with heap:=i,toks:=t'}:=by
 have hn:=I.hok.fresh j;have d:∀b u,H b=Y u->b∉h:=λb u k z=>by rw[(f b z).1]at k;ext k
 refine I.step (λb g=>?_) (λb q _ _ hc e _=>keep b q hc e) (λb q _ _ hc e _=>{q.slots,keep b q hc e}) (λb q _ e n=>by rw[aK<|cg<|bx (bb e) j];exact n) (λb q hc e=>{q,keep b q hc e}) (λb xs q=>by rw[aK<|gY q hn];exact q) (λb u xs q=>by rw[aK<|gY q hn];exact q) (λb ps q=>{#[],by rw[aK<|gY q hn,q];simp}) (λm hm=>?_) (λb u e=>?_) I.bare
 .let{y,o,A,r,t,x}:=f b g;exact{(r),o,t,x}
 .exact hm.at λq e=>keep _ q (λz=>(f _ z).2.1 rfl) e
 .by_cases g:b=p
  .subst g;rw[bH]at e;ext e;exact new
  .rw[aK g]at e;refine(I.hok b u e).stay (λc v hc q=>keep c v ?_ q) (λc q=>by rw[aK<|gY q hn];exact q) λc xs q=>by rw[aK<|gY q hn];exact q
   rcases hc with rfl|hc
   .exact d _ _ e
   .exact d _ _ hc
def _root_.L2.Inv.lA {g:List Addr}(I:Inv X a j H s)(f:∀b∈g,FpOk X a H b)(keep:∀b q,b∉g->s.heap.get? b=Y q->k.get? b=Y q):Inv X a j H {s with heap:=k,toks:=t'}:=by
 have d:∀b u,H b=Y u->b∉g:=λb u h z=>by rw[(f b z).1]at h;ext h
 refine I.step (λb l=>?_) (λb q _ _ hc e _=>keep b q hc e) (λb q _ _ hc e _=>{q.slots,keep b q hc e}) (λb q _ e n=>n) (λb q hc e=>{q,keep b q hc e}) (λb i q=>q) (λb u i q=>q) (λb ps q=>{#[],by rw[q];simp}) (λm hm=>?_) (λb u e=>?_) I.bare
 .let{w,o,x,p,r,t}:=f b l;exact{(p),o,r,t}
 .exact hm.at λq e=>keep _ q (λz=>(f _ z).2.1 rfl) e
 .refine(I.hok b u e).stay (λc v hc q=>keep c v ?_ q) (λc q=>q) λc i q=>q;rcases hc with rfl|hc
  .exact d _ _ e
  .exact d _ _ hc
end
def C8 (f:Vals b a)(d:i<b.length)(g:a.toArray[i]?=Y x):∃v,b[i]?=Y v/\RelV v x:=by
 refine{b[i],bn d,?_};let{u,e,h}:=f.get<|bn d;have c:a[i]?=Y x:=by simpa using g
 rw[c]at e;ext e;exact h
def C9 (K:Z5)(l:Bool)(t:Addr)(vs:List V):It:={λi H=>iT K H l t vs/\i<vs.length,λi H x H'=>∃p v,vs[i]?=Y v/\H p=Z8/\x=.ref p/\H'=upd H p (.tup [.int i,v]),λi H=>iT K H l t vs/\i=vs.length}
def zc5 {K:Z5}(V:t≠c)(ZM:t≠e)(B:e≠c):
  Turn P w K (.Tuple j x1 pos) (C9 K l t vs) [e,c] e (λi h=>(∃old,IsEnum h e c i old)/\kZ h l c t i) where
 mem:=by simp
 obj:=λi h st b hb=>by
  let{{old,d},a}:=st;rcases(ak.mp hb)with rfl|hb
  .exact{_,d,λv z=>by ext z}
  .obtain rfl:b=c:=by simpa using hb
   exact a.live
 keep:=λi h G st k=>by let{{old,d},a}:=st;exact{{old,k e ZO _ d},a.keep λo=>k c ZO o}
 item:=by
  intro X ZK L M N i m s σ H E I hf st O;subst ZK L M;let{Q,R}:=O;let{{old,d},a}:=st;let{g,rv,p,hl}:=iT.items I Q;have S:X.A.in1.handled=none:=I.ok.hd N;have D:=uZ (prog:=X.prog) (w:=X.w) S l c t V g.toArray;let{oi,T,_}:=a.live;refine wpAny_pyNext_enum_itemD D d {(a),p} (by grind) B (by simp[B,Ne.symm ZM]) λx G C hx n ZL r Z kp=>{_,rfl,?_};have F:s[?_]≠e/\s[?_]≠c:={λz=>c8 _<|z▸bb d,λz=>c8 _<|z▸bb T};refine(WalksT.enumerateD D e B (by simp[B,Ne.symm ZM]) ZO).go j x1 pos i s[?_] {s with heap:=G,toks:=C+1} _ _ {{(x),n},ZL,F.1,F.2} λQq f u=>?_;have y:s[?_]∉ [e,c]:=by simp[F.1,F.2]
  let{v,hv,rx}:=C8 rv R hx;have I1:=I.turnedTL (t':=C+1) (xs:=[.int i,v]) hf (λb q hb z=>u b q hb<|kp b q (λz=>hb<|by simp[z]) (λz=>hb<|by simp[z]) z) (ag _) {by rw[cf];simp,[.int i C,x],.cons {(C),rfl}<|.cons rx .nil,0,(u s[?_] _ y r)};refine{.ref s[?_],_,I1,rfl,{_,v,hv,I.hok.fresh<|ag _,rfl,rfl},{(f.1),f.2.1},λb hb=>?_};rw[aK λz:b=s[?_]=>y<|z▸hb];exact(hf b hb).1
 done:=by intro X ZK L M N i m s σ H E I hf st O;subst ZK L M;let{Q,R}:=O;let{{old,d},a}:=st;let{g,rv,p,hl}:=iT.items I Q;have S:X.A.in1.handled=none:=I.ok.hd N;exact wpAny_pyNext_enum_endD (uZ (prog:=X.prog) (w:=X.w) S l c t V g.toArray) d {by rw[br,<-hl,<-R];exact a,p} λG eb=>{rfl,I.lA hf λb o hb z=>eb b o (λq=>hb<|by simp[q]) z}
 self:=λ_ _ _ _ _ st h=>by let{{old,d},_}:=st;exact pr d h
theorem Ii:∀a (k i:Nat),(z1e k a)[i]?=(a[i]?).map λx=>.tuple [.int ((k+i:Nat):Int),x]
 | [],k,i=>by simp[z1e]
 |x::a,k,0=>by simp[z1e]
 |x::a,k,i+1=>by
  rw[z1e,fj,fj,Ii a (k+1) i];have:k+1+i=k+(i+1):=by omega
  rw[this]
theorem zN:∀a k,(z1e k a).length=a.length
 | [],_=>rfl
 |x::a,k=>by rw[z1e,ay,ay,zN a]
def Qr {K:Z5}(b:pN K H B l t c)(rs:Reps K H B c g)(n:g.length<=aw):Walk K (C9 K l t c) B H (z1e 0 g):=by
 have o:=rs.length;constructor
 .rw[zN];exact n
 .intro j kp i h;rw[zN]at h;exact{b.keep kp,by omega}
 .intro j kp;exact{b.keep kp,by rw[zN];exact o.symm}
 .rintro j kp i x u h ⟨p,v,r,k,rfl,rfl⟩
  let{d,hd,s}:=Reps.lX rs r;refine{Same.upd k,.tuple [.int i,d],by rw[Ii,hd];simp,p,[.int i,v],rfl,dC.of bH,?_};refine Reps.cons rfl<|Reps.cons ?_ rfl;exact Rep.keep (λa q e f=>by have m:=kp a q e f;rw[aK<|gY m k];exact m) (λ_ z=>z) d s
def zb3 (l:Bool)(t:Addr)(items:Array Value):Meets (Builtin.«enumerate.__new__» {pos:=[.type "enumerate",.ref t]}) fun _ R s=>
  IsB s.heap l t items/\R (.ok<|.ret<|.ref (s.heap.push<|dH l t).objs.size) {s with heap:=(s.heap.push<|dH l t).push {cls:=.type "enumerate",data:=.fields #[.none,.bool Z6,.ref s[?_],jl 0,.none,.none]}}:=by
 rintro prog w A R s ⟨a,d⟩
 have sub:=sub_enumerate
 delta Builtin.«enumerate.__new__»
 repeat (any_goals (first|assumption|(apply zM a)|wp_step))
 refine wpAny_stack λst _ _ _=>?_;refine il (Q:=λ_ c=>c=s) (au rfl) (λb c hs=>?_) λ_ _ x=>x;subst hs;ext b
 all_goals repeat (any_goals (first|assumption|(apply zM a)|wp_step))
 all_goals exact d
def zha (a:IsB s.heap l t items)
  (b:Q (.ref (s.heap.push<|dH l t).objs.size) {s with heap:=(s.heap.push<|dH l t).push {cls:=.type "enumerate",data:=.fields #[.none,.bool Z6,.ref s[?_],jl 0,.none,.none]}}):w['b'] (call (.type "enumerate") [.ref t]) Q E s:=by
 refine callType_new F.called_enumerate dc (F.typeCall_enumerate_1 _) (F.newCall_enumerate_1 _) (λobj=>?_) F.entry_enumerate_new (zb3 l t items) {a,{_,ba _ rfl,rfl},b};exact F.args_object_init_2 _ _
section
variable {X:Cx}{pins:List<|Addr×Obj}{σ:L2.St}
def z74 (k:Inv X a m f c)(C:RelV y v)(D:Rep X.K f B y d)(e:seqR d=.ok E)(q:∀ZK,Walk X.K ZK B f (z1e 0 E)->R ZK f):
  X['a'] (call (.type "enumerate") [v]) (λF G=>X['a'] (p8 F) (sQ X a m (.Tuple u O tp) R) X.xe G) X.xe c:=by
 let{l,t,H,rfl,x,n,I}:=pN.of D e;ext C;let{L,M,pt,_}:=iT.items k<|x.keep<|Kp.of<|Same.refl f;refine zha pt ?_;generalize p:c.heap.push (dH l t)=i;have j:i.objs.size=c[?_]+1:=p▸mn _ _;have r:Inv X a m f {c with heap:=i}:=k.kept λb o e=>p▸af _ e;generalize g:i.push {cls:=.type "enumerate",data:=.fields #[.none,.bool Z6,.ref c[?_],jl 0,.none,.none]}=h;have N:Inv X a m f {c with heap:=h}:=r.kept λb o e=>g▸af _ e;have g1:h.get? i.objs.size=Y {cls:=.type "enumerate",data:=.fields #[.none,.bool Z6,.ref c[?_],jl 0,.none,.none]}:=g▸ba _ rfl;have g2:h.get? c[?_]=Y (dH l t):=by rw[<-g];refine af _ ?_;rw[<-p];exact ba _ rfl
 have z:=pt.lt;refine pr g1<|{i.objs.size,[i.objs.size,c[?_]],_,C9 X.K l t H,f,rfl,N,zc5 (cg z) (cg<|k6 z<|j▸j6 _)<|j▸Nat.succ_ne_self _,{{.none,g1},kZ.new g2},λb s=>?_,q _<|Qr x n<|mC I};rcases(ak.mp s)with rfl|s
 .exact r.i' (ag _) (r.hok.fresh<|ag _)
 .obtain rfl:b=c[?_]:=by simpa using s
  exact k.i' (ag _) (k.hok.fresh<|ag _)
end
def Ij (K:Z5)(l1:Bool)(a1:Addr)(vs:List V)(l2:Bool)(a2:Addr)(ws:List V):It:={λi H=>iT K H l1 a1 vs/\iT K H l2 a2 ws/\i<min vs.length ws.length,λi H x H'=>∃p v w,vs[i]?=Y v/\ws[i]?=Y w/\H p=Z8/\x=.ref p/\H'=upd H p (.tup [v,w]),λi H=>iT K H l1 a1 vs/\iT K H l2 a2 ws/\i=min vs.length ws.length}
def Ik (z TI TO i1 i2:Addr)(l1:Bool)(a1:Addr)(l2:Bool)(a2:Addr)(i:Nat)(h:Heap):Prop:=(∃f0 f1,ZF f0/\h.get? z=Y (ZRec TI TO f0 f1))/\PairAt h TI (.ref i1) (.ref i2)/\(∃a b,PairAt h TO a b)/\kZ h l1 i1 a1 i/\kZ h l2 i2 a2 i
def zoe {TI TO:Addr}(ht:(isTup e||isNm e)=J)(hf:ZF a)(d:s.heap.get? z=Y (ZRec TI TO a i))
  (f:∀b c,ZF c->b.get? z=Y (ZRec TI TO c i)->cc z s.heap b->Q () {s with heap:=b}):w['b'] (iw e (.ref z)<|.ref T) Q E s:=by
 ext e<;>first|(ext ht;done)|exact au (f s.heap a hf d (Heap.SameBut.refl ..))|skip
 delta iw
 apply aa;refine qg d ?_;show wpAny _ _ (if(_&&(a::_:List Value).toArray[0]?==Y (jl T))=J then _ else _) Q E s;by_cases h:(Y a==Y (jl T))=J
 .rw[qq<|by simpa using h];apply aa;exact lg (d9 d ZO λb g j=>f b .none (.inl rfl) g j)
 .rw[qr<|by simpa using h];exact au (f s.heap a hf d (Heap.SameBut.refl ..))
def zid {TI TO:Addr}(D:ZApart z TI TO i1 f p q)(r:Draws prog w A.in1 i1 p t u m)(v:Draws prog w A.in1 f q B P2 n)(hf:ZF f0)(o:s.heap.get? z=Y (ZRec TI TO f0 T))(g:PairAt s.heap TI (.ref i1)<|.ref f)(h:PairAt s.heap TO a b)(C:m i s.heap)(G:n i s.heap)(H:i<t)(l2:i<B)
  (I:∀x y c j d e k l,u i x->P2 i y->ZF d->c.get? z=Y (ZRec TI TO d e)->PairAt c TO k l->m (i+1) c->n (i+1) c->PairAt c s[?_] x y->Zk z TO i1 f s.heap c->Q (Y<|.ref s[?_]) {s with heap:=c,toks:=j}):w['b'] (p7<|.ref z) Q E s:=by
 have ty:s.TypeIs (.ref z) "zip":={_,o,rfl}
 delta p7
 apply aa;apply wpAny_attempt;refine fi ty F.slot_zip_next<|gx F.slot_zip_next ty F.entry_zip_next ?_<|F.args_zip_next_1 _;exact zho D r v hf o g h C G H l2 λx y c j d e k l ZK K L M N O P R S=>au (I x y c j d e k l ZK K L M N O P R S)
def zgt {TI TO:Addr}(D:ZApart z TI TO i1 c k l)(m:Draws prog w A.in1 i1 k n P1 p)(q:Draws prog w A.in1 c l r P2 t)(hf:ZF u)(h:s.heap.get? z=Y (ZRec TI TO u f1))(d:PairAt s.heap TI (.ref i1)<|.ref c)(f:PairAt s.heap TO a b)(v:p i s.heap)(x:t i s.heap)(hl:i=min n r)
  (y:∀g j,Zk z TO i1 c s.heap g->Q Z8 {s with heap:=g,toks:=j}):w['b'] (p7<|.ref z) Q E s:=by
 have ty:s.TypeIs (.ref z) "zip":={_,h,rfl}
 delta p7
 apply aa;apply wpAny_attempt;refine fi ty F.slot_zip_next<|gx F.slot_zip_next ty F.entry_zip_next ?_<|F.args_zip_next_1 _;refine zms D m q hf h d f v x hl λg j e kp B=>?_;let{o,ho,hc}:=B;apply aa;exact wpAny_isInstance {(o),ho,hc} isSubtype_stop (au<|y _ _ kp)
def zgx {K:Z5}{TI TO:Addr}(ht:(isTup tg||isNm tg)=J)(D:ZApart z TI TO i1 m [i1,B] [m,a2])(n1:B≠i1)(n2:a2≠m):
  Turn P w K tg (Ij K l1 B vs l2 a2 ws) [z,TI,TO,i1,m] z (Ik z TI TO i1 m l1 B l2 a2) where
 mem:=by simp
 obj:=λi h st b hb=>by
  let{{C,G,_,g},d,{a,c,f},n,p}:=st;simp at hb;rcases hb with rfl|rfl|rfl|rfl|rfl
  .exact{_,g,λv q=>by ext q}
  .exact{_,d,λv q=>by ext q}
  .exact{_,f,λv q=>by ext q}
  .exact n.live
  .exact p.live
 keep:=λi h h' st k=>by let{{C,G,hf,g},d,{a,c,f},n,p}:=st;exact{{C,G,hf,k z ZO _ g},k TI ZO _ d,{a,c,k TO ZO _ f},n.keep λo=>k i1 ZO o,p.keep λo=>k m ZO o}
 item:=by
  intro X ZL V ZM ZK i L s σ H E I hf st Z;subst ZL V ZM;let{r,t,hi}:=Z;let{{C,G,zf,g},d,{a,c,f},n,p}:=st;let{j,M,b1,e1}:=iT.items I r;let{l,N,b2,e2}:=iT.items I t;have O:X.A.in1.handled=none:=I.ok.hd ZK;refine zid D (uZ (prog:=X.prog) (w:=X.w) O l1 i1 B n1 j.toArray) (uZ (prog:=X.prog) (w:=X.w) O l2 m a2 n2 l.toArray) zf g d f {(n),b1} {(p),b2} (by grind) (by grind) λx y h' tk W5 Qs a' b' hx hy Qt Qu Q Qv wC new kp=>{_,rfl,?_};refine zoe ht Qt Qu λQq R S T sb=>?_;have lt:∀{c o},s.heap.get? c=Y o->s[?_]≠c:=λe q=>c8 _<|q▸bb e;let{o1,Qw,_}:=n.live;let{o2,Qx,_}:=p.live;have Qy:s[?_]∉ [z,TI,TO,i1,m]:=by simp[lt g,lt d,lt f,lt Qw,lt Qx]
  have up:=λc o ZK e=>sb.extBut c o ZK e;let{v,hv,rx}:=C8 M ZQ hx;let{u,hu,ry}:=C8 N ZQ hy;have I1:=I.turnedTL (t':=tk) hf (λb q hb e=>up b q (λq=>hb<|by simp[q])<|kp b q (λq=>hb<|by simp[q]) (λq=>hb<|by simp[q]) (λq=>hb<|by simp[q]) (λq=>hb<|by simp[q]) e) (ag _) {by rw[cf];simp,[x,y],.cons rx<|.cons ry .nil,0,(up _ _ (lt g) new)};refine{.ref s[?_],_,I1,rfl,{_,v,u,hv,hu,I.hok.fresh<|ag _,rfl,rfl},{{(R),Qs,S,T},up _ _ D.TIz<|kp _ _ D.TIz D.TITO D.TIi1 D.TIi2 d,{a',b',up _ _ D.TOz Q},Qv.1.keep λo=>up _ o D.i1z,wC.1.keep λo=>up _ o D.i2z},λb hb=>?_};rw[aK λq:b=s[?_]=>Qy<|q▸hb];exact(hf b hb).1
 done:=by intro X ZL V ZM ZK i L s σ H E I hf st Z;subst ZL V ZM;let{r,t,hi}:=Z;let{{C,G,zf,g},d,{a,c,f},n,p}:=st;let{j,M,b1,e1}:=iT.items I r;let{l,N,b2,e2}:=iT.items I t;have O:X.A.in1.handled=none:=I.ok.hd ZK;refine zgt D (uZ (prog:=X.prog) (w:=X.w) O l1 i1 B n1 j.toArray) (uZ (prog:=X.prog) (w:=X.w) O l2 m a2 n2 l.toArray) zf g d f {(n),b1} {(p),b2} (by grind) λh' tk kp=>{rfl,I.lA hf λb q hb e=>?_};exact kp b q (λq=>hb<|by simp[q]) (λq=>hb<|by simp[q]) (λq=>hb<|by simp[q]) (λq=>hb<|by simp[q]) e
 self:=λ_ _ _ _ _ st h=>by let{{C,G,_,g},_}:=st;have ty:Shared.TypeIs _ (.ref z) "zip":={_,g,rfl};refine wpAny_pyIter_slot ty F.slot_zip_iter<|gx F.slot_zip_iter ty F.entry_zip_iter ?_<|F.args_zip_iter_1 _;exact au {_,rfl,"zip",_,ty,F.slot_zip_next.lookup,h}
theorem Il:∀a b (i:Nat) {x y:D},a[i]?=Y x->b[i]?=Y y->(zipD a b)[i]?=Y (.tuple [x,y])
 |x::a,y::b,0,_,_,c,d=>by ext c;ext d;rfl
 |x::a,y::b,i+1,_,_,c,d=>Il a b i c d
 | [],_,i,_,_,c,_=>by simp at c
 |_::_,[],i,_,_,_,d=>by simp at d
theorem zO:∀a b,(zipD a b).length=min a.length b.length
 | [],_=>by simp[zipD]
 |_::_,[]=>by simp[zipD]
 |x::a,y::b=>by show(zipD a b).length+1=min (a.length+1) (b.length+1);rw[zO a b];omega
def Qz {K:Z5}(l:pN K H B w y m)(b:pN K H B l2 a2 ws)(n:Reps K H B m c)(o:Reps K H B ws r)(C:c.length<=aw):Walk K (Ij K w y m l2 a2 ws) B H (zipD c r):=by
 have D:=n.length;have E:=o.length;constructor
 .rw[zO];omega
 .intro g kp i h;rw[zO]at h;exact{l.keep kp,b.keep kp,by omega}
 .intro g kp;exact{l.keep kp,b.keep kp,by rw[zO];omega}
 .rintro g kp i x F h ⟨p,v,u,A,hu,s,rfl,rfl⟩
  let{d,hd,rv}:=Reps.lX n A;let{t,j,k}:=Reps.lX o hu;have kk:∀a q,H a=Y q->(B (Y a)\/Fix q)->upd g p (.tup [v,u]) a=Y q:=λa q e f=>by have b:=kp a q e f;rw[aK<|gY b s];exact b
  exact{Same.upd s,.tuple [d,t],Il c r i hd j,p,[v,u],rfl,dC.of bH,Reps.cons (Rep.keep kk (λ_ z=>z) d rv)<|Reps.cons (Rep.keep kk (λ_ z=>z) t k) rfl}
def zcj (l1 l2:Bool)(a b:Addr)(i g:Array Value):Meets (Builtin.«zip.__new__» ⟨[.type "zip",.ref a,.ref b],[]⟩) fun _ R s=>IsB s.heap l1 a i/\IsB s.heap l2 b g/\
  ∀c d e f h,c=s.heap.push (dH l1 a)->d=c.push (dH l2 b)->e=d.push {cls:=.type "tuple",data:=.seq #[.ref s[?_],.ref c.objs.size]}->f=e.push {cls:=.type "tuple",data:=.seq #[.none,.none]}->h=f.push {cls:=.type "zip",data:=.fields #[.none,.bool Z6,.bool Z6,.ref d.objs.size,.ref e.objs.size]}->R (.ok<|.ret<|.ref f.objs.size) {s with heap:=h}:=by
 rintro prog w A R s ⟨j,k,l⟩
 have sub:=sub_zip;let{m,n,dp,tk,os}:=s;have o:=j;have p:IsB (Shared.heap {m.push<|dH l1 a,n,dp,tk,os}) l2 b g:=k.push _
 wp_walk using zM o,zM p
 exact l _ _ _ _ _ rfl rfl rfl rfl rfl
section
variable {X:Cx}{pins:List<|Addr×Obj}{σ:L2.St}
def z9z (ht:(isTup W||isNm W)=J)(t:Inv X pins σ g c)(r1:RelV y1 u1)(r2:RelV y2 u2)(L:Rep X.K g B y1 d1)(M:Rep X.K g B y2 d2)(e1:seqR d1=.ok xs)(e2:seqR d2=.ok ys)(q:∀ZK,Walk X.K ZK B g (zipD xs ys)->R ZK g):
  X['a'] (call (.type "zip") [u1,u2]) (λv' s2=>X['a'] (p8 v') (sQ X pins σ W R) X.xe s2) X.xe c:=by
 let{G,N,ZM,rfl,Z,w1,z1}:=pN.of L e1;let{l2,a2,ws,rfl,q2,w2,z2}:=pN.of M e2;ext r1;ext r2;let{u,_,b1,_}:=iT.items t<|Z.keep<|Kp.of<|Same.refl g;let{v,_,b2,_}:=iT.items t<|q2.keep<|Kp.of<|Same.refl g;refine callType_new F.called_zip ZP (F.typeCall_zip_2 _ _) (F.newCall_zip_2 _ _) (λobj=>F.args_object_init_3 obj _ _) F.entry_zip_new (zcj G l2 N a2 u.toArray v.toArray) {b1,b2,?_};intro m k s n H O Q S ZL k5;have d:m.objs.size=c[?_]+1:=O▸mn _ _;have p:k.objs.size=c[?_]+2:=by rw[Q,mn,d]
 have r:s.objs.size=c[?_]+3:=by rw[S,mn,p]
 have C:n.objs.size=c[?_]+4:=by rw[ZL,mn,r]
 have p2:∀b o,m.get? b=Y o->k.get? b=Y o:=λb o e=>by rw[Q];exact af _ e
 have V:∀b o,k.get? b=Y o->s.get? b=Y o:=λb o e=>by rw[S];exact af _ e
 have I:∀b o,s.get? b=Y o->n.get? b=Y o:=λb o e=>by rw[ZL];exact af _ e
 have D:∀b o,n.get? b=Y o->H.get? b=Y o:=λb o e=>by rw[k5];exact af _ e
 have I5:Inv X pins σ g {c with heap:=H}:=t.kept λb o e=>D b o<|I b o<|V b o<|p2 b o<|(λb o e=>by rw[O];exact af _ e) b o e;have g5:H.get? n.objs.size=Y (ZRec k.objs.size s.objs.size .none Z6):=k5▸ba _ rfl;have t1:=b1.lt;have t2:=b2.lt;have Da:ZApart n.objs.size k.objs.size s.objs.size c[?_] m.objs.size [c[?_],N] [m.objs.size,a2]:=by have f:∀{i j:Nat},i≠j->c[?_]+i≠c[?_]+j:=λh z=>h<|Nat.add_left_cancel z;have l:∀{j:Nat},0≠j->c[?_]≠c[?_]+j:=λh=>f h;have no:∀{x y z:Addr},x≠y->x≠z->x∉ [y,z]:=λm k h=>(ak.mp h).elim m λq=>k<|ai.mp q;have na:∀{a:Addr} {j:Nat},a<c[?_]->c[?_]+j≠a:=λh z=>c8 _<|bx h<|z▸ig _ _;rw[d,p,r,C];exact{f ZP,f ZP,l ZP,f ZP,f ZP,(l ZP).symm,f ZP,(l ZP).symm,f ZP,l ZP,no (l ZP).symm<|na t1,no (l ZP).symm<|na t1,no (l ZP).symm<|na t1,no (f ZP)<|na t2,no (f ZP)<|na t2,no (l ZP)<|na (j:=0) t2}
 have T:=zgx (P:=X.prog) (w:=X.w) (K:=X.K) (l1:=G) (l2:=l2) (vs:=ZM) (ws:=ws) ht Da (cg t1)<|d▸cg (Nat.lt_succ_of_lt t2);have St:Ik n.objs.size k.objs.size s.objs.size c[?_] m.objs.size G N l2 a2 0 H:={{.none,Z6,.inl rfl,g5},D _ _<|I _ _<|S▸ba _ rfl,{_,_,(D _ _<|ZL▸ba _ rfl)},kZ.new<|D _ _<|I _ _<|V _ _<|p2 _ _<|O▸ba _ rfl,kZ.new<|D _ _<|I _ _<|V _ _<|Q▸ba _ rfl};refine{{_,g5,rfl},T.self _ 0 _ _ _ St {n.objs.size,_,_,_,g,rfl,I5,T,St,λb hb=>?_,q _<|Qz Z q2 w1 w2<|mC z1}}
 have E:c[?_]<=b:=by
  rw[d,p,r,C]at hb;simp at hb;rcases hb with rfl|rfl|rfl|rfl|rfl
  .exact ig _ _
  .exact ig _ _
  .exact ig _ _
  .exact ag _
  .exact ig _ _
 exact t.i' E (t.hok.fresh E)
end
section
variable {X:Cx}{a b:Expr}{fa fb:Rho->Res GD}{p pos:Pos}
def Im:cy "enumerate"=Y (.type "enumerate"):=by decide+kernel
def Io:cy "zip"=Y (.type "zip"):=by decide+kernel
def Dc (hs:isStar a=Z6)(c:PE X a<|tD X.K fa):PA X [a] (tDA X.K λb=>fa b>>=λx=>.ok [x]):=by refine PA.imp (CG hs c Hv) λg H Q ⟨b,F,z,so,e,q⟩=>{b,F,z,so,?_,q};let{x,d,e}:=Res.aA e;show(fa b>>=λx=>Res.ok []>>=λf=>Res.ok (x::f))=_;rw[d];exact e
def Ip (hs:isStar a=Z6)(d:isStar b=Z6)(f:PE X a<|tD X.K fa)(hb:PE X b<|tD X.K fb):PA X [a,b] (tDA X.K λc=>fa c>>=λx=>fb c>>=λy=>.ok [x,y]):=by refine PA.imp (CG hs f<|Dc d hb) λj H Q ⟨c,F,z,so,e,q⟩=>{c,F,z,so,?_,q};let{x,g,e}:=Res.aA e;let{y,h,e}:=Res.aA e;show(fa c>>=λx=>(fb c>>=λy=>Res.ok [y])>>=λi=>Res.ok (x::i))=_;rw[g,h];exact e
def va {fs:Rho->Res GD}(h:(fs ρ>>=λx=>Res.ok [x])=.ok ys):∃x,fs ρ=.ok x/\ys=[x]:=by let{x,e,h}:=Res.aA h;ext h;exact{(x),e,rfl}
def Dd {K:Z5}(so:StOk K F H j k)(hc:oA x=J)(e:seqR x.2=.ok l)(c:Rep K f (BG F H x.1) v x.2):∃B,Rep K f B v x.2/\(∀a,B (Y a)->F.O a=Z8)/\∀a,B a->BI F .al a:=by
 let{g,d}:=x;ext d<;>try (exact(hJ e).elim)
 case list ds=>
  have b:g≠.al:=λz=>by subst z;ext hc
  exact{_,c,λa h=>CZ so b h,λa h=>BI.of so.aU<|BG.aU so.aU h}
 case tuple ds=>
  rcases fq.mp hc with b|i
  .have b:g≠ .al:=λz=>by subst z;ext b
   exact{_,c,λa h=>CZ so b h,λa h=>BI.of so.aU<|BG.aU so.aU h}
  .exact{λ_=>False,Rep.bS _ i c,λ_ h=>h.elim,λ_ h=>h.elim}
def vb (h:(fa ρ>>=λx=>fb ρ>>=λy=>Res.ok [x,y])=.ok ys):∃x y,fa ρ=.ok x/\fb ρ=.ok y/\ys=[x,y]:=by let{x,e,h}:=Res.aA h;let{y,a,h}:=Res.aA h;ext h;exact{(x),y,e,a,rfl}
def QA (ht:(isTup tg||isNm tg)=J)(hm:X.mg "zip"=Z8)(t:Gl X "zip")(hs:isStar a=Z6)(f:isStar b=Z6)(ha:PE X a<|tD X.K fa)(hb:PE X b<|tD X.K fb):PI X tg (.Call (.Name "zip" p) [a,b] [] pos) (tDW X.K λρ=>fa ρ>>=λx=>fb ρ>>=λy=>seqR x.2>>=λn=>seqR y.2>>=λo=>.ok (.al,zipD n o)):=by
 rintro g s u H R I ⟨ρ,F,w,so,e,q⟩
 let{x,v,e}:=Res.aA e;let{y,A,e}:=Res.aA e;let{n,B,e}:=Res.aA e;let{o,C,e}:=Res.aA e;ext e;refine Call_<|z2t I t hm Io<|PyProof.Rows.callWith_type1 (aR (Ip hs f ha hb pos g s u H (λh d=>Same H d/\eB X.K F H d h [x,y]) I {ρ,F,[x,y],so,by show(fa ρ>>=λx=>fb ρ>>=λy=>Res.ok [x,y])=_;rw[v,A];rfl,λh d r i=>{(r),i}}) λG r ⟨h,d,D,E,sm,i⟩=>?_) (eK hs) (by rw[eK f];rfl);let{L,M,rfl,j,k}:=i.two;let{N,O,rfl,l,m}:=vals2 E;exact z9z ht D l m ((Rep.there _ j).weak (B':=λc=>cB F c/\¬nw d c) λc z=>{BG.aU so.aU z.1,z.2}) ((Rep.there _ k).weak (B':=λc=>cB F c/\¬nw d c) λc z=>{BG.aU so.aU z.1,z.2}) B C λZK wk=>q ZK _ d sm (λc z=>z) wk
def De (ht:(isTup o||isNm o)=J)(hm:X.mg "zip"=Z8)(E:Gl X "zip")(hs:isStar a=Z6)(f:isStar b=Z6)(ha:PE X a<|tD X.K fa)(hb:PE X b<|tD X.K fb):PI X o (.Call (.Name "zip" p) [a,b] [] pos) (tDF X.K λd=>(fa d>>=λx=>fb d>>=λy=>.ok [x,y])>>=λr=>lV r d):=by
 rintro g s L H R I ⟨d,F,w,so,e,q⟩
 let{t,M,e}:=Res.aA e;let{x,y,N,O,rfl}:=vb M;have e:(if(oA x&&oA y)=J then(seqR x.2>>=λu=>seqR y.2>>=λt=>Res.ok (G.al,zipD u t,d))else Res.no)=Res.ok w:=e;split at e
 case isFalse=>ext e
 rename_i P;let{Q,S}:=av.mp P;let{u,v,e}:=Res.aA e;let{r,A,e}:=Res.aA e;ext e;refine Call_<|z2t I E hm Io<|PyProof.Rows.callWith_type1 (aR (Ip hs f ha hb pos g s L H (λi h=>Same H h/\eB X.K F H h i [x,y]) I {d,F,[x,y],so,by show(fa d>>=λx=>fb d>>=λy=>Res.ok [x,y])=_;rw[N,O];rfl,λi h B j=>{(B),j}}) λus B ⟨i,h,T,ZL,sm,j⟩=>?_) (eK hs) (by rw[eK f];rfl);let{v1,v2,rfl,k,l}:=j.two;let{u1,u2,rfl,m,n}:=vals2 ZL;let{C,V,W,ZM}:=Dd so Q v k;let{D,Z,m2,m3}:=Dd so S A l;exact z9z ht T m n (V.weak (B':=λc=>C c\/D c) λc z=>.inl z) (Z.weak (B':=λc=>C c\/D c) λc z=>.inr z) v A λZK wk=>q ZK _ h F sm Run.refl (cK.same sm) (so.same sm) (λc z=>z.elim (W c)<|m2 c) (λc z=>z.elim (ZM c)<|m3 c) wk
def QB (hm:X.mg "enumerate"=Z8)(k:Gl X "enumerate")(hs:isStar a=Z6)(l:PE X a<|tD X.K fa):PI X (.Tuple h x1 tp) (.Call (.Name "enumerate" p) [a] [] pos) (tDW X.K λf=>fa f>>=λx=>seqR x.2>>=λi=>.ok (.al,z1e 0 i)):=by
 rintro b s m H R I ⟨f,F,w,so,e,q⟩
 let{x,n,e}:=Res.aA e;let{i,o,e}:=Res.aA e;ext e;refine Call_<|z2t I k hm Im<|PyProof.Rows.callWith_type1 (aR (Dc hs l pos b s m H (λg d=>Same H d/\eB X.K F H d g [x]) I {f,F,[x],so,by show(fa f>>=λx=>Res.ok [x])=_;rw[n];rfl,λg d j rs=>{(j),rs}}) λC j ⟨g,d,r,t,sm,rs⟩=>?_) (eK hs) rfl;let{v,rfl,y}:=rs.one;let{u,rfl,A}:=vals1 t;exact z74 r A (Rep.there _ y) o λZK B=>q ZK _ d sm (λc z=>{BG.aU so.aU z.1,z.2}) B
def QC (hm:X.mg "enumerate"=Z8)(l:Gl X "enumerate")(hs:isStar a=Z6)(m:PE X a<|tD X.K fa):PI X (.Tuple g M tp) (.Call (.Name "enumerate" p) [a] [] pos) (tDF X.K λb=>(fa b>>=λx=>.ok [x])>>=λh=>qI h b):=by
 rintro c s n H R I ⟨b,F,w,so,e,q⟩
 let{h,o,e}:=Res.aA e;let{x,r,rfl}:=va o;have e:(if oA x=J then(seqR x.2>>=λi=>Res.ok (G.al,z1e 0 i,b))else Res.no)=Res.ok w:=e;split at e
 case isFalse=>ext e
 rename_i hc;let{i,j,e}:=Res.aA e;ext e;refine Call_<|z2t I l hm Im<|PyProof.Rows.callWith_type1 (aR (Dc hs m pos c s n H (λf d=>Same H d/\eB X.K F H d f [x]) I {b,F,[x],so,by show(fa b>>=λx=>Res.ok [x])=_;rw[r];rfl,λf d k rs=>{(k),rs}}) λN k ⟨f,d,t,y,sm,rs⟩=>?_) (eK hs) rfl;let{v,rfl,z}:=rs.one;let{u,rfl,A}:=vals1 y;let{B,C,D,E}:=Dd so hc j z;exact z74 t A C j λZK L=>q ZK B d F sm Run.refl (cK.same sm) (so.same sm) D E L
end
abbrev qR:List Value:=[.type "ValueError",.type "Exception",.type "BaseException",.type "object"]
abbrev zP (K:Z5)(C:Addr):Bool:=W.excIn K C qR "ValueError.__new__"
def gI (K:Z5)(C:Addr):Bool:=match K.lookup C with
 |some ⟨.type "type",_,.cls cd,sl⟩=>(match cd.mro,sl.toList with
  |.ref D::bm,[_,_,_,_,Y<|.builtin n,_]=>(D==C)&&(n=="ValueError.__new__")&& !cd.hasDel&&W.tailIn K qR bm&&W.nsOkIn K cd.ns
  |_,_=>Z6)
 |_=>Z6
def XC (C:Addr)(h:Heap)(bm:List Value):Prop:=∃N nm q bs hdct sn sub ab col dd k0 k1 k2 k3 k5 mN,h.get? C=Y (lu nm q C N bs bm hdct sn sub ab col dd k0 k1 k2 k3 k5 "ValueError.__new__")/\h.Ns N mN/\nr h qR bm
def Iq (C:Addr)(h:Heap)(bm:List Value):Prop:=∃N nm q bs hdct sn sub ab col dd k0 k1 k2 k3 k5 mN,h.get? C=Y (lu nm q C N bs bm hdct sn sub ab col dd k0 k1 k2 k3 k5 "ValueError.__new__")/\h.Ns N mN/\mN "__init__"=Z8/\nr h qR bm
theorem xl:(a&&b)=J->a=J/\b=true:=av.mp
def QD {K:Z5}{C:Addr}(q:zP K C=J):gI K C=J/\∀a cd sl,K.lookup C=Y {.type "type",a,.cls cd,sl}->Z0 K cd.ns "__init__"=Y none:=by
 unfold zP W.excIn at q;unfold gI;split at q
 .rename_i a cd sl b;split at q
  .rename_i A bm h i j k n l hm hs;let{q,c}:=xl q;refine{?_,λd f g e=>by rw[b]at e;ext e;exact q8 c};simp only[b,hm,hs];exact q
  .cases q
 .cases q
def vc {K:Z5}{C:Addr}(q:gI K C=J):∃a cd bm h i j k l,K.lookup C=Y {.type "type",a,.cls cd,#[h,i,j,k,Y<|.builtin "ValueError.__new__",l]}/\cd.mro=.ref C::bm/\cd.hasDel=Z6/\W.tailIn K qR bm=J/\W.nsOkIn K cd.ns=true:=by
 unfold gI at q;split at q
 .rename_i a cd sl m;split at q
  .rename_i A bm b c d e n f hm hs;let{q,o}:=xl q;let{q,p}:=xl q;let{q,g}:=xl q;let{r,s}:=xl q;have t:sl=#[b,c,d,e,Y<|.builtin n,f]:=Array.toList_inj.mp (by rw[hs]);refine{a,cd,bm,b,c,d,e,f,?_,?_,?_,p,o}
   .rw[m,t,q8 s]
   .rw[hm,q8 r]
   .cases hd:cd.hasDel with
    |false=>rfl
    |true=>rw[hd]at g;ext g
  .cases q
 .cases q
def Ir {K:Z5}{C:Addr}(a:K.lookup C=Y {.type "type",c,.cls cd,sl})(hm:cd.mro=.ref C::bm)(e:ZZ K (.ref C) v=Y b):(ZR C::bm).contains v=b:=by
 have e:W.mroIn K C v=Y b:=e;unfold W.mroIn W.clsIn at e;rw[a]at e
 dsimp at e
 rw[hm]at e;exact qt e
def XC.mk {K:Z5}{C:Addr}(X:K.In h)(q:gI K C=J):∃bm,XC C h bm/\∀v b,ZZ K (.ref C) v=Y b->(ZR C::bm).contains v=b:=by
 let{d,cd,bm,f,g,i,j,k,a,hm,hd,l,m}:=vc q;refine{bm,{cd.ns,cd.name,cd.qualname,cd.bases,cd.hasDict,cd.slotNames,cd.subclasses,cd.abstract,cd.collection,d,f,g,i,j,k,h.nsMap cd.ns,?_,.of_isNs<|W.isNs_of_in X m,W.tail_of_in X l},λv b e=>Ir a hm e};have c:=X _ _ a;ext cd
 dsimp only at hm hd
 rw[hm,hd]at c;exact c
def Iq.mk {K:Z5}{C:Addr}(X:K.In h)(q:zP K C=J):∃bm,Iq C h bm:=by
 let{d,e}:=QD q;let{f,cd,bm,g,i,j,k,l,a,hm,hd,m,b}:=vc d;refine{bm,cd.ns,cd.name,cd.qualname,cd.bases,cd.hasDict,cd.slotNames,cd.subclasses,cd.abstract,cd.collection,f,g,i,j,k,l,h.nsMap cd.ns,?_,.of_isNs<|W.isNs_of_in X b,W.nsMap_none_of_in X b<|e _ _ _ a,W.tail_of_in X m};have c:=X _ _ a;ext cd
 dsimp only at hm hd
 rw[hm,hd]at c;exact c
section
variable {M:Model}{A:eh}{E:Value->aq->Prop}{h:Heap}{g:Array pv}{d:Drawn}{t:Nat}{os:ke}{C B e:Addr}{bm zQ:List Value}{oe:Obj}{Q:Bool->aq->Prop}
theorem Iu (T:nr h qR l):l.contains (.type "BaseException")=true:=T.hasType rfl
def QE (i:XC C h bm)(j:XC B h zQ)(k:h.get? e=Y oe)(l:oe.cls=.ref C)(a:(ZR C::bm).contains (.ref B)=J)(m:Q J {(h),g,d,t,os}):wpAny M A (qj (.ref e)<|.ref B) Q E {(h),g,d,t,os}:=by
 let{_,_,_,_,_,_,_,_,_,_,_,_,_,_,_,_,n,_,_}:=i;let{_,_,_,_,_,_,_,_,_,_,_,_,_,_,_,_,c,_,tB}:=j;have b:(ZR B::zQ).contains (.type "BaseException")=true:=by rw[lh,Iu tB,mo]
 have f:=tc_notTuple
 repeat (first|(exists bz k ?_;rw[l])|exists bz c ?_|(exists gv c ?_;rw[b])|(exists gv n ?_;rw[a])|wp_step)
 exact m
end
section
variable {prog:b9}{w:World}{A:eh}{E:Value->aq->Prop}{K:Z5}{h:Heap}{g:Array pv}{d:Drawn}{t:Nat}{os:ke}{C e:Addr}{oe:Obj}
structure XA (K:Z5)(C:Addr):Prop where
 cl:Z4 K (.ref C) "__class__"=Y (Y<|.builtin "object.__class__")
 ga:Z4 K (.ref C) "__getattribute__"=Y (Y<|.builtin "BaseException.__getattribute__")
 gt:Z4 K (.ref C) "__getattr__"=Y Z8
 ob:ZZ K (.ref C) (.type "object")=Y J
 be:ZZ K (.ref C) (.type "BaseException")=Y J
 ty:W.typeIn K (.ref C)=Y (.type "type")
 is:(W.clsIn K C).isSome=J
 ex:gI K C=J
def z79 (a:h.get? e=Y oe)(hc:oe.cls=.ref C):W.Looks M h (qp<|.ref e) (.ref C):=by intro A Q E s k q;refine aa<|wpAny_loadPart (k _ _ a) ?_;rw[hc];exact au q
def zud (X:K.In h)(a:XA K C)(b:h.get? e=Y oe)(hc:oe.cls=.ref C)(c:R (.ok<|.ret<|.ref C) {(h),g,d,t,os}):
  jy (model prog w) A (.call (.builtin "getset_descriptor.__get__") {[.builtin "object.__class__",.ref e,tp],[]}) R {(h),g,d,t,os}:=by
 have f:=z79 (M:=model prog w) b hc;have i:=W.looks_subIn (M:=model prog w) X a.ob;refine jg W.KF.slot_gs.plain W.KF.entry_gs<|W.KF.slot_gs.check _ _ _ _ _ _ _ _ W.KF.type_class (W.KF.args_gs _ _ _)<|aa<|au ?_;unfold Builtin.Getset_descriptor.descrGetter Builtin.Getset_descriptor.descrCheckInstance Builtin.Getset_descriptor.descrNameAndClass o5;simp only[W.KF.owner_class]
 repeat lk
 refine⟨Code.quiet_builtin _ (by decide+kernel),?_⟩;refine codeAny_builtin W.KF.entry_class ?_;unfold Builtin.«object.__class__»;unfold shownTypeOf;repeat lk
 exact c
def zmi (X:K.In h)(a:XA K C)(b:h.get? e=Y oe)(c:oe.cls=.ref C)(i:Q (.done<|.ret<|.ref C) {(h),g,d,t,os}):
  wpAny (model prog w) A (Builtin.«object.__getattribute__» ⟨[.ref e,.str "__class__" j],[]⟩) Q E ⟨h,g,d,t,os⟩:=by
 have⟨f5,f6,f7⟩:=And.intro F.typeOf_object_class<|And.intro F.slot_gs_get.lookup F.slot_gs_set.lookup;have f:=Z3 (M:=model prog w) X a.cl
 repeat (any_goals (first|assumption|(exists bz b ?_;rw[c])|exists f.at ?_|wp_step))
 refine zud X a b c ?_
 repeat' first|assumption|wp_step
def x_call {b:Tok}{R:Result->aq->Prop}(X:K.In h)(a:XA K C)(c:h.get? e=Y oe)(f:oe.cls=.ref C)(i:R (.ok<|.ret<|.ref C) {(h),g,d,t,os}):
  jy (model prog w) A (.call (.builtin "BaseException.__getattribute__") {[.ref e,.str "__class__" b],[]}) R {(h),g,d,t,os}:=by
 refine jg F.excAttr_ValueError.ga.plain F.entry_bexc_ga ?_;have l1:=W.looks_subIn (M:=model prog w) X a.be;have l:=F.args_bexc_ga (.ref e)<|.str "__class__" b;have j:qb "BaseException.__getattribute__"=Y .slot:=by decide+kernel
 have k:splitId "BaseException.__getattribute__"=Y ("BaseException","__getattribute__"):=by decide+kernel
 simp only[j8,j,k];refine aa ?_;unfold o5
 repeat (first|(exists zmi X a c f ?_;exact i)|(exists bz c ?_;rw[f])|exists l1.at ?_|wp_step)
def x_by (X:K.In h)(a:XA K C)(b:h.get? e=Y oe)(hc:oe.cls=.ref C)(c:Q (.ref C) {(h),g,d,t,os}):
  w['b'] (getAttrBy (.ref e) (.str "__class__" f) Z6) Q E {(h),g,d,t,os}:=by
 have i:=F.excAttr_ValueError.ga.bind (.ref e)
 repeat (any_goals (first|assumption|(exists bz b ?_;rw[hc])|with_reducible refine(Z3 (M:=model prog w) X a.ga).at ?_|with_reducible refine(Z3 (M:=model prog w) X a.gt).at ?_|wp_step))
 refine x_call X a b hc ?_
 repeat' first|assumption|wp_step
def QF (X:K.In h)(a:XA K C)(b:h.get? e=Y oe)(hc:oe.cls=.ref C)(c:Q (Y<|.ref C) {h,g,d,t+1,os}):w['b'] (getAttr? (.ref e) "__class__") Q E {(h),g,d,t,os}:=by repeat (any_goals (first|assumption|with_reducible apply x_by X a b hc|wp_step))
def QG (q:gI K C=J)(e:ZZ K (.ref C) (.ref C)=Y b):b=true:=by let{c,cd,bm,d,f,g,h,i,a,hm,_}:=vc q;rw[<-Ir a hm e,lh,beq_self_eq_true,Bool.true_or]
structure XV (K:Z5)(v:Value):Prop where
 ty:∀(M:Model) (h:Heap),K.In h->W.Looks M h (qp v) (.type "type")
 is:∀(M:Model) (h:Heap),K.In h->W.Looks M h (isType v) J
def Iv {D:Addr}(X:K.In h)(q:(W.clsIn K D).isSome=J):W.Looks M h (isType<|.ref D) true:=by
 unfold W.clsIn at q;split at q
 .rename_i a;intro A Q E s k z;refine aa<|qg (k _ _<|X _ _ a) ?_;exact au z
 .cases q
theorem XV.own {D:Addr}(t:W.typeIn K (.ref D)=Y (.type "type"))(q:(W.clsIn K D).isSome=J):XV K (.ref D):={λM h X=>W.looks_typeIn X t,λM h X=>Iv X q}
theorem XV.val:XV K (.type "ValueError"):={λM h X=>W.Looks.of_pure (by kernel_rfl),λM h X=>W.Looks.of_pure rfl}
def zvo (X:K.In h)(a:XA K C)(c:h.get? e=Y oe)(hc:oe.cls=.ref C)(f:XV K v)(hs:ZZ K (.ref C) v=Y b)(i:Q (.done<|.ret<|.bool b) {(h),g,d,t,os})(l:Q (.done<|.ret<|.bool b) {h,g,d,t+1,os}):
  wpAny (model prog w) A (Builtin.«isinstance.nested» ⟨[.ref e,v,.int m o],[]⟩) Q E ⟨h,g,d,t,os⟩:=by
 have j:=z79 (M:=model prog w) c hc;have k:=W.looks_subIn (M:=model prog w) X hs;unfold Builtin.«isinstance.nested»;refine aa<|j.at ?_;by_cases q:(ZR C==v)=true
 .rw[qq q];have n:b=true:=by cases q8 q;exact QG a.ex hs
  subst n;exact aa (lg<|aa<|au<|au i)
 .rw[qr q];refine aa ((f.ty (model prog w) h X).at ?_)
  k_delta "plainIsInstance"
  refine aa<|aa<|(f.is (model prog w) h X).at ?_;refine aa<|(j.andThen k).at ?_;cases b with
  |true=>exact au (au i)
  |false=>refine aa<|QF X a c hc ?_;refine aa<|(Iv (M:=model prog w) X a.is).at ?_;refine aa<|lg ?_;exact k.at (au l)
theorem zvx (X:K.In s.heap)(a:XA K C)(i:s.heap.get? e=Y oe)(hc:oe.cls=.ref C)(j:XV K v)(hs:ZZ K (.ref C) v=Y b)(k:∀f,Q (.bool b) {s with toks:=f}):
  w['b'] (call (.builtin "isinstance") [.ref e,v]) Q E s:=
 call_isinstance (S:=λ_ R s=>(K.In s.heap/\s.heap.get? e=Y oe)/\∀f,R (.ok<|.ret<|.bool b) {s with toks:=f}) (λ_ _ _ _ s c=>isinstance_outer (by let{h,g,d,t,os}:=s;exact zvo c.1.1 a c.1.2 hc j hs (c.2 t)<|c.2<|t+1) nofun) {{(X),i},k}
end
def QH (f:Array Value->Array Value)(o:Obj):(Obj.mapFields f o).dict=o.dict:=by unfold Obj.mapFields;split<;>rfl
def TrD (h base:Heap)(e:Addr)(cls:Value)(dd:Option Addr)(fl:Value):Prop:=∃ob vs T tr ts,h.get? e=Y ob/\ob.cls=cls/\ob.dict=dd/\ob.data=.fields vs/\vs[1]?=Y (.ref T)/\base.get? T=Z8/\T≠e/\h.get? T=Y tr/\tr.data=.fields ts/\ts[3]?=Y fl
def FlD (base:Heap)(l:List Env)(e:Addr)(cls:Value)(dd:Option Addr)(h:Heap):Prop:=base.StaysIn h/\base.get? e=Z8/\h.FunFrames base l/\TrD h base e cls dd .none
def Iw (base:Heap)(l:List Env)(e:Addr)(cls:Value)(dd:Option Addr)(L:Addr)(h:Heap):Prop:=base.StaysIn h/\base.get? e=Z8/\h.FunFrames base l/\TrD h base e cls dd (jl L)
def FlD.first (x:FlD base l e cls b h):∃ob a,h.get? e=Y ob/\ob.cls=cls/\ob.dict=b/\ob.data=.fields a:=by let{_,_,_,ob,a,_,_,_,c,d,f,g,_}:=x;exact{ob,(a),c,d,f,g}
section
variable {M:Model}{A:eh}{E:Value->aq->Prop}{s:aq}{base:Heap}{env:Env}{outer l:List Env}{L e:Addr}{Q:Unit->aq->Prop}{cls:Value}{dd:Option Addr}
def zai (fr:A.frames=Y (env::outer))(ff:s.heap.FunFrames base (env::outer))(el:env.frame=Y L)(p:s.heap.get? e=Y ob)(st:base.StaysIn s.heap)(be:base.get? e=Z8)(da:ob.data=.fields f)(sz:1<f.size)
  (go:∀h,base.StaysIn h->h.FunFrames base (env::outer)->TrD h base e ob.cls ob.dict (jl L)->s.heap.UpToSlots h->Q () {s with heap:=h}):
  wpAny M A (do
   let a <-frameOf env
   let pl <-entryPlaceOf L hn
   let b <-EntryCells.newEntry head a .none (jl L) .none pl
   setField (.ref e) 1 b) Q E s:=by
 have r:e∉(env::outer).filterMap (·.frame):=λz=>by let{_,o,q,n}:=ff.mem z;rw[p]at q;ext q;exact n f da
 refine aa<|wpAny_frameOf_fun fr ff el λd m=>aa<|wpAny_entryPlaceOf λpl t=>?_;refine aa<|gr ?_<|t.sizeOk5 _ _ _ _ _;have i:d.get? e=Y ob:=m.2.1 e r▸p;have j:base.StaysIn d:=λb o q=>by rw[m.2.1 b λz=>by rw[(ff.mem z).1]at q;ext q];exact st b o q
 generalize u:({cls:=.type "traceback",dict:=Z8,data:=.fields ([head,.ref L,.none,jl L,.none]++(if pl.isEmpty then bq 6 Value.none else pl)).toArray}:Obj)=k;have l:=af k i;have w:d.objs.size≠e:=λz=>absurd (bb i)<|z▸c8 _;refine j2 l da sz (go _ ?_ ?_ ?_ ?_)
 all_goals generalize y:(λv:Array Value=>v.setIfInBounds 1<|ZR d.objs.size)=g
 all_goals
  have x:=Obj.data_mapFields da g;have B:((d.push k).update e<|Obj.mapFields g).get? d.objs.size=Y k:=by rw[ej _ _<|Ne.symm w];exact ba d (by rw[<-u];rfl)
  have keep:∀b o,b≠e->d.get? b=Y o->((d.push k).update e<|Obj.mapFields g).get? b=Y o:=λb o n q=>by rw[ej _ _<|Ne.symm n];exact af _ q
  have c:∀b o,s.heap.get? b=Y o->(∀f,o.data≠.fields f)->b≠e:=λb o q n z=>by rw[z,p]at q;ext q;exact n f da
 .exact λb o q=>keep b o (λz=>by rw[z,be]at q;ext q) (j b o q)
 .refine ff.of_keeps λb o q n=>?_;let{sl,z}:=m.2.2 b o q;exact{_,keep b _ (c b o q n) z,rfl}
 .refine{_,_,d.objs.size,k,_,ey (Obj.mapFields g) l<|Obj.isFreed_of_fields x,Obj.cls_mapFields _ _,QH _ _,x,?_,j.fresh,w,B,by rw[<-u],?_}
  .rw[<-y];simp[sz]
  .first|(simp;done)|(rcases t with rfl|⟨_,_,_,_,_,_,_,rfl⟩<;>simp)
 .exact λb o q n=>by let{sl,z}:=m.2.2 b o q;exact{sl,keep b _ (c b o q n) z}
def zi8 (fr:A.frames=Y (env::outer))(ff:s.heap.FunFrames base (env::outer))(el:env.frame=Y L)(b:s.heap.get? e=Y ob)(st:base.StaysIn s.heap)(be:base.get? e=Z8)(da:ob.data=.fields d)(c:d[1]?=Y .none)
  (go:∀a,base.StaysIn a->a.FunFrames base (env::outer)->TrD a base e ob.cls ob.dict (jl L)->s.heap.UpToSlots a->Q () {s with heap:=a}):wpAny M A (i9 (.ref e) env) Q E s:=by
 unfold i9;simp only[el];refine aa<|dj b da c ?_;exact zai fr ff el b st be da (ge.mp c).1 go
def zlc (fr:A.frames=Y (env::outer))(ff:s.heap.FunFrames base (env::outer))(el:env.frame=Y L)(l:TrD s.heap base e cls dd .none)(st:base.StaysIn s.heap)(be:base.get? e=Z8)
  (go:∀d,base.StaysIn d->d.FunFrames base (env::outer)->TrD d base e cls dd (jl L)->s.heap.UpToSlots d->Q () {s with heap:=d}):wpAny M A (i9 (.ref e) env) Q E s:=by
 let{ob,h,T,y,m,i,rfl,rfl,da,j,p,r,f,dT,k}:=l;unfold i9;simp only[el];refine aa<|dj i da j ?_;refine aa<|dj f dT k ?_;refine aa<|j2 f dT (ge.mp k).1 ?_;generalize B:(λv:Array Value=>v.setIfInBounds 3 Value.none)=g;have c:∀b,b≠T->(s.heap.update T<|Obj.mapFields g).get? b=s.heap.get? b:=λb n=>ej _ _<|Ne.symm n;have a:∀b o,s.heap.get? b=Y o->(∀h,o.data≠.fields h)->b≠T:=λb o q n z=>by rw[z,f]at q;ext q;exact n m dT
 refine zai fr (ff.of_keeps λb o q n=>{o,by rw[<-q];exact c b<|a b o q n,rfl}) el ((c e<|Ne.symm r).trans i) (λb o q=>(c b λz=>by rw[z,p]at q;ext q).trans<|st b o q) be da (ge.mp j).1 λd t u w x=>go d t u w λb o q n=>x b o ((c b<|a b o q n).trans q) n
def zfr (st:base.StaysIn s.heap)(ff:s.heap.FunFrames base l)(r:TrD s.heap base e cls dd fl)
  (go:∀d,base.StaysIn d->d.FunFrames base l->TrD d base e cls dd .none->s.heap.UpToSlots d->Q () {s with heap:=d}):wpAny M A (ju (.ref e) Z8) Q E s:=by
 let{ob,h,T,x,t,j,hc,hd,da,k,m,p,i,dT,u}:=r;have sz:=(ge.mp u).1;refine aa<|dj j da k ?_;refine j2 i dT sz ?_;generalize w:(λv:Array Value=>v.setIfInBounds 3<|(Z8:Option Addr).elim Value.none λf=>jl f)=g;have c:∀b,b≠T->(s.heap.update T<|Obj.mapFields g).get? b=s.heap.get? b:=λb n=>ej _ _<|Ne.symm n;have a:∀b o,s.heap.get? b=Y o->(∀h,o.data≠.fields h)->b≠T:=λb o q n z=>by rw[z,i]at q;ext q;exact n t dT
 refine go _ (λb o q=>(c b λz=>by rw[z,m]at q;ext q).trans<|st b o q) (ff.of_keeps λb o q n=>{o,(c b<|a b o q n).trans q,rfl}) {ob,h,T,_,_,(c e<|Ne.symm p).trans j,hc,hd,da,k,m,p,ey _ i<|Obj.isFreed_of_fields<|Obj.data_mapFields dT _,Obj.data_mapFields dT _,by rw[<-w];simp[sz]} λb o q n=>{o.slots,(c b<|a b o q n).trans q}
def zab (fr:A.frames=Y (env::outer))(el:env.frame=Y L)(fl:FlD base (env::outer) e cls dd s.heap)
  (go:∀a,Iw base (env::outer) e cls dd L a->s.heap.UpToSlots a->Q () {s with heap:=a}):wpAny M A (i9 (.ref e) env) Q E s:=by
 let{c,b,d,f}:=fl;exact zlc fr d el f c b λa g h i j=>go a {(g),b,h,i} j
def Iy (x:Iw base l e cls dd L s.heap)(go:∀a,FlD base l e cls dd a->s.heap.UpToSlots a->Q () {s with heap:=a}):wpAny M A (ju (.ref e) Z8) Q E s:=by let{b,c,d,f}:=x;exact zfr b d f λa g h i j=>go a {(g),c,h,i} j
def QI (x:FlD base l e cls dd s.heap)(go:∀a,FlD base l e cls dd a->s.heap.UpToSlots a->Q () {s with heap:=a}):wpAny M A (ju (.ref e) Z8) Q E s:=by let{b,c,d,f}:=x;exact zfr b d f λa g h i j=>go a {(g),c,h,i} j
def zg2 (fr:A.frames=Y (env::outer))(el:env.frame=Y L)(fl:FlD base (env::outer) e cls dd s.heap)
  (go:∀a,FlD base outer e cls dd a->s.heap.UpToSlots a->Q () {s with heap:=a}):wpAny M A (qd env<|.ref e) Q E s:=by
 refine aa<|zab fr el fl λl b c=>Iy b λd f g=>?_;let{h,i,{_,_,j},k}:=f;exact go d {(h),i,j,k} (c.trans g)
def zc8 (fr:A.frames=Y (env::outer))(ff:s.heap.FunFrames base (env::outer))(el:env.frame=Y L)(b:s.heap.get? e=Y ob)(st:base.StaysIn s.heap)(be:base.get? e=Z8)(da:ob.data=.fields c)(d:c[1]?=Y .none)
  (go:∀a,FlD base outer e ob.cls ob.dict a->s.heap.UpToSlots a->Q () {s with heap:=a}):wpAny M A (qd env<|.ref e) Q E s:=by
 refine aa<|zi8 fr ff el b st be da d λp f g h i=>zfr f g h λj k l m n=>?_;let{_,_,o}:=l;exact go j {(k),be,o,m} (i.trans n)
end
structure Fly (P:b9)(w:World)(base:Heap)(outer:List Env)(H:Hp)(s:aq)(C a:Addr)(H':Hp)(s':aq)(dd:Option Addr):Prop where
 os:s'.os=s.os
 bare:kz s'.gens
 dD:∀b xs,H b=Y (.tup xs)->H' b=Y (.tup xs)
 cY:∀b o u,H b=Y (.gL o u)->H' b=Y (.gL o u)
 dE:∀b ps,H b=Y (.nN ps)->∃more,H' b=Y (.nN<|ps++more)
 free:∀b o,s.heap.get? b=Y o->H b=Z8->H' b=Z8
 hh:∃B,base.StaysIn B/\HOk P w H' B/\(∀b o,s.heap.get? b=Y o->b∉frs outer->∃o',B.get? b=Y o'/\(H b=Z8->o'=o))/\FlD B outer a (.ref C) dd s'.heap
 slot:∀b o,s.heap.get? b=Y o->H b=Z8->b∈frs outer->∃sl,s'.heap.get? b=Y {o with slots:=sl}
def CXE (P:b9)(w:World)(base:Heap):CXT:=λouter H s E e s'=>∃a C dd H',e=.ref a/\Fly P w base outer H s C a H' s' dd/\E (.ref C) dd H'
def QJ (x:z1u P w H h a o):∃ob,h.get? a=Y ob:=by
 cases o with
 |lst c=>let{_,_,_,_,e}:=x;exact{_,e}
 |tup c=>let{_,_,_,_,e}:=x;exact{_,e}
 |dK b=>let{_,_,_,_,o,_,_,e,_}:=x;exact{_,e}
 |dT b=>let{_,_,_,_,o,_,_,e,_}:=x;exact{_,e}
 |set S n=>let{o,_,_,_,e,_}:=x;exact{_,e}
 |ins C d fs=>let{_,_,_,e,_}:=x;exact{_,e}
 |own y=>exact x
 |xd fs=>let{_,{_,_,_,e,_},_}:=x;exact{_,e}
 |gL ob u=>exact{_,x.1}
 |nN ps=>exact{_,x}
 |ext f=>exact x.2.1
section
variable {P:b9}{w:World}{base:Heap}{outer:List Env}{H H':Hp}{s s':aq}{C a:Addr}{dd:Option Addr}
def Fly.hok (f:Fly P w base outer H s C a H' s' dd):HOk P w H' s'.heap:=by let{B,_,b,_,fl}:=f.hh;exact b.kept fl.1
def Fly.un (f:Fly P w base outer H s C a H' s' dd):Un (frs outer) [] H H' s.heap s'.heap:=by
 let{B,_,l,d,fl}:=f.hh;refine{λb o e n c _=>?_,λb o e n c _=>f.slot b o e n c,λb o e n _=>f.free b o e n,λb o e _=>?_,f.dD,f.cY,f.dE}
 .let{h,g,i}:=d b o e c;rw[i n]at g;exact fl.1 b o g
 .by_cases c:b∈frs outer
  .let{_,j,k,_}:=fl.2.2.1.mem c;exact{(j),k}
  .let{h,g,_}:=d b o e c;exact{h,fl.1 b h g}
end
section
variable {X:Cx}{pins:List<|Addr×Obj}{σ:L2.St}{H H':Hp}{s s':aq}{C a:Addr}{dd:Option Addr}
def Fly.inv (f:Fly X.prog X.w X.base X.stack H s C a H' s' dd)(I:Inv X pins σ H s):Inv X pins σ H' s':=by let{c,g,d,t,o}:=s';obtain rfl:o=s.os:=f.os;exact I.call f.un f.hok f.bare λb z=>nomatch z
def Fly.leave {M:Model}{outer:List Env}{Q:Unit->aq->Prop}{E:Value->aq->Prop}(f:Fly X.prog X.w X.base X.stack H s C a H' s' dd)(I:Inv X pins σ H s)(hs:X.stack=X.env::X.outer)(hf:X.env.frame=Y X.env.locals)(hx:X.ex=[])
  (hQ:∀tj,Fly X.prog X.w X.base X.outer X.iY X.s₀ C a H' tj dd->Q () tj):wpAny M X.A (qd X.env<|.ref a) Q E s':=by
 let{B,hb,hB,xm,fl}:=f.hh;rw[hs]at fl;have QK:X.A.frames=Y (X.env::X.outer):=by rw[<-hs];exact I.ok.frames
 have u0:=I.base
 have Df:∀b o,X.s₀.heap.get? b=Y o->b∉frs X.outer->b∉frs X.stack:=λb o e hn z=>by
  rw[hs]at z;unfold frs at z hn;rw[cv,hf]at z;rcases ak.mp z with z|z
  .exact absurd (bb e) (by rw[z];exact qk.mpr I.ok.above)
  .exact hn z
 have slot:∀h',s'.heap.UpToSlots h'->∀b o,X.s₀.heap.get? b=Y o->X.iY b=Z8->b∈frs X.outer->∃sl,h'.get? b=Y {o with slots:=sl}:=λh' up b o e n hn=>by
  have nx:b∉X.ex:=by rw[hx];simp
  let{sl,e1}:=I.base.slot b o e n hn nx;have QL:b∈frs X.stack:=by rw[hs];unfold frs;rw[cv,hf];exact ao _ hn
  let{Iz,e2}:=f.slot b _ e1 (I.base.free b o e n nx) QL;let{_,o3,e3,nd}:=I.ok.dF.mem hn;rw[e]at e3;ext e3;let{Dg,e4}:=up b _ e2 nd;exact{(Dg),e4}
 refine zg2 QK hf fl λh' QM up=>hQ _ {f.os.trans I.os,f.bare,λb xs e=>f.dD b xs<|u0.dD b xs e,λb o u e=>f.cY b o u<|u0.cY b o u e,λb ps e=>?_,λb o e n=>?_,{B,hb,hB,λb o e hn=>?_,QM},slot h' up}
 .let{m1,e1}:=u0.dE b ps e;let{m2,e2}:=f.dE b _ e1;exact{m1++m2,by rw[e2,oo]}
 .have nx:b∉X.ex:=by rw[hx];simp
  let{o',e'}:=I.base.there b o e nx;exact f.free b o' e' (I.base.free b o e n nx)
 .have nx:b∉X.ex:=by rw[hx];simp
  let{o1,e1}:=I.base.there b o e nx;let{o2,e2,e3}:=xm b o1 e1<|Df b o e hn;refine{o2,e2,λn=>?_};rw[e3<|I.base.free b o e n nx];have:=I.base.keep b o e n hn nx;rw[this]at e1;ext e1;rfl
theorem QN (x:HOk P w H h)(n:∀b∈l,H b=Z8):HOk P w H (W.hideAll h l):=λb o e=>by
 refine(x b o e).stay (λc u a q=>W.hideAll_get _ q λz=>?_) (λ_ q=>q) λ_ _ q=>q;rcases a with rfl|a
 .rw[n c z]at e;ext e
 .rw[n c z]at a;ext a
def zf3 (I:Inv X pins σ H s)(h0:X.s₀.heap.get? a=Z8)(l:H a=Z8)(m:s.heap.get? a=Y ob)(hc:ob.cls=.ref C)(da:ob.data=.fields p)(r:p[1]?=Y .none)(hs:X.stack=X.env::X.outer)(hf:X.env.frame=Y X.env.locals)(t:X.ex=[])
  (u:∀f,Fly X.prog X.w X.base X.outer X.iY X.s₀ C a H f ob.dict->Q () f):wpAny M X.A (qd X.env<|.ref a) Q E s:=by
 have nx:∀b,b∉X.ex:=λb=>by rw[t];simp
 have g:=I.stack;rw[hs]at g
 have d:∀b∈a::frs (X.env::X.outer),H b=none:=λb h=>by
  rcases ak.mp h with rfl|h
  .exact l
  .exact I.hX b (hs▸h)
 have c:∀b o,X.s₀.heap.get? b=Y o->b∉frs X.outer->b∉a::frs (X.env::X.outer):=λb o e hn z=>by
  rcases ak.mp z with rfl|z
  .rw[h0]at e;ext e
  unfold frs at z hn;rw[cv,hf]at z;rcases ak.mp z with z|z
  .exact absurd (bb e) (z▸qk.mpr I.ok.above)
  .exact hn z
 refine zc8 (base:=W.hideAll s.heap (a::frs (X.env::X.outer))) (hs▸I.ok.frames) (W.funFrames_hide g<|λenv v b h=>ao _<|la.mpr {env,(v),h}) hf m (λb o q=>W.of_hideAll _ q) (W.hideAll_none _ ar) da r λB fl up=>u _ {I.os,I.bare,I.base.dD,I.base.cY,I.base.dE,λb o e n=>I.base.free b o e n<|nx b,{_,λb o e=>W.hideAll_get _ (I.bk b o e)<|c b o (I.ok.bs b o e).1<|I.ok.vM e,QN I.hok d,λb o e hn=>?_,by rw[hc]at fl;exact fl},λb o e n hn=>?_}
 .let{x,i}:=I.base.there b o e<|nx b;refine{x,W.hideAll_get _ i<|c b o e hn,λn=>?_};rw[I.base.keep b o e n hn<|nx b]at i;ext i;rfl
 let{sl,i}:=I.base.slot b o e n hn<|nx b;let{_,D,k,nd}:=I.ok.dF.mem hn;rw[e]at k;ext k;let{j,y}:=up b _ i nd;exact{(j),y}
end
structure Lv (X:Cx)(H0:Hp)(c:U):Prop where
 made:∀pins σ H s a C args h',Inv X pins σ H s->X.mg c=Y (.ref C)->Same H0 H->li s.heap h' a (.ref C) args->X.xe (.ref a) {s with heap:=h'}
 QO:∀pins σ H s a C H' s',Inv X pins σ H s->X.mg c=Y (.ref C)->Same H0 H'->Fly X.prog X.w X.base X.stack H s C a H' s' Z8->X.xe (.ref a) s'
theorem Lv.mono (l:Lv X H0 c)(h:Same H0 e):Lv X e c:={λb d H s a C args f I m z=>l.made b d H s a C args f I m<|h.trans z,λb d H s a C g i I m z=>l.QO b d H s a C g i I m<|h.trans z}
def Rz (X:Cx)(f:Rho->Option U)(σ:L2.St)(H:Hp):Prop:=∃ρ F c,StOk X.K F H σ ρ/\f ρ=Y c/\Lv X F.H0 c
def IA (K:Z5)(mg:U->Option Value)(n:Nat)(m:Fn):Sp:=λvs H _ E=>∃A ds c,vs.length=n/\Reps K H A vs ds/\excOf (m ds)=Y c/\∀C H',mg c=Y (.ref C)->Same H H'->E (.ref C) Z8 H'
def kE (P:b9)(w:World)(K:Z5)(mg:U->Option Value)(base:Heap)(k:Nat)(x:U)(ps:List U)(n:Nat)(m:Fn):Prop:=∃f fd,FnOk P w K mg base (CXE P w base) k f fd ps (IA K mg n m)/\mg x=Y (.ref f)/\Z2 K (.ref f)=J/\Binds K fd ps []
def kF (X:Cx)(i:Nat)(n:U)(a:Addr)(oe:Obj):Cx:={X with A:=X.A.mark<|Y<|.ref a,N:=X.N.set i "",calm:=Z6,pn:=(a,oe)::X.pn,xe:=λ_ _=>False,fx:=Y (n,.ref a)}
section
variable {X:Cx}{pins:List<|Addr×Obj}{σ:L2.St}{H:Hp}{s:aq}{i:Nat}{n:U}{a:Addr}{oe:Obj}
def QQ (ok:X.Ok)(nd:X.N.Nodup)(d:X.N[i]?=Y n)(f:X.env.scope.names.lookup ("":U)=Z8)(c:X[!n]=Y .local):(kF X i n a oe).Ok:=by
 refine{ok.mod,ok.kind,ok.glob,ok.blt,ok.above,ok.inj,ok.has,ok.sP,λz=>(by ext z),ok.frames,ok.uJ,ok.gE,ok.bs,ok.mP,ok.jV,ok.jW,ok.dF,ok.pX,λx u z=>?_};ext z;refine{λhm=>?_,c};let{j,b}:=List.mem_iff_getElem?.mp hm;have b:(X.N.set i "")[j]?=Y n:=b;by_cases e:i=j
 .subst e;rw[ce (az.mp d).1]at b;ext b;rw[f]at c;ext c
 .rw[bw e]at b;exact e (zc nd d b)
def zp2 (I:Inv X b g H s)(nd:X.N.Nodup)(h:X.N[i]?=Y n)(t:X.env.scope.names.lookup ("":U)=Z8)(l:X[!n]=Y .local)(o:g[i]?=Y (Y<|.ref a))
  (w:s.heap.get? a=Y oe) (y:H a=Z8) (A:a≠X.env.locals) (B:a∉X.fs) (C:∀v,oe.data≠.cell v):Inv (kF X i n a oe) b (g.set i Z8) H s:=by
 let{m,hn,c}:=I.loc;refine{QQ I.ok nd h t l,I.os,I.bare,I.base,{m,hn,λj x v d f D=>?_},I.cell,I.free,I.bJ,λp r=>?_,I.hok,?_,λx u z=>?_}
 .have d:(X.N.set i "")[j]?=Y x:=d;by_cases e:i=j
  .subst e;rw[ce<|I.len▸(az.mp h).1]at f;ext f
  .rw[bw e]at d f;exact c j x v d f D
 .rcases ak.mp r with rfl|r
  .exact{(w),y,A,B,C}
  .exact I.pin p r
 .show(g.set i Z8).length=(X.N.set i "").length;rw[cw,cw];exact I.len
 .cases z;let{u,rfl,q}:=c i n (.ref a) h o<|.inl l;rcases q with⟨_,q⟩|⟨k,_⟩
  .exact{(m),hn,q}
  .have k:X[!n]=Y .cell\/X[!n]=Y .free:=k;rcases k with k|k<;>(rw[l]at k;ext k)
def QR (ok:X.Ok)(h:X.fx=Z8)(k:X.N[i]?=Y n)(I:Inv (kF X i n a oe) c g H s):Inv X c (g.set i Z8) H s:=by
 let{m,hn,f}:=I.loc;have b:g.length=(X.N.set i "").length:=I.len;rw[cw]at b;refine{ok,I.os,I.bare,I.base,{m,hn,λj x v l d o=>?_},I.cell,I.free,I.bJ,λp q=>I.pin p<|ao _ q,I.hok,by rw[cw];exact b,λx u z=>by rw[h]at z;ext z};by_cases e:i=j
 .subst e;rw[ce<|b▸(az.mp k).1]at d;ext d
 .rw[bw e]at d;exact f j x v (show(X.N.set i "")[j]?=Y x by rw[bw e];exact l) d o
def zr1 (I:Inv X f σ H s)(a:X.fx=Z8)(nd:X.N.Nodup)(t:X.N[i]?=Y n)(B:X[!n]=Y .local)(C:σ[i]?=Y (Y v))
  (h:∀K,Inv X f (σ.set i Z8) H K->Q () K):wpAny M A (kq X.env n pos) Q E s:=by
 let{m,hn,g}:=id I.loc;have mQ:=I.mQ;let{u,r,q}:=g i n v t C (.inl B)
 have O:m n=Y u:=by
  rcases q with⟨_,q⟩|⟨k,_⟩
  .exact q
  .have k:X[!n]=Y .cell\/X[!n]=Y .free:=k;rcases k with k|k<;>(rw[B]at k;ext k)
 refine kb<|wpAny_unbindName_local B hn O (by rw[I.ok.kind];rfl) λh' u' D hs=>h _ ?_;have old:∀b o,X.s₀.heap.get? b=Y o->b≠X.env.locals:=λb o e=>cg<|bx (bb e) I.ok.above;refine{I.ok,I.os,I.bare,{λb o e z F a=>(hs.2 b<|old b o e).trans<|I.base.keep b o e z F a,λb o e z F a=>?_,I.base.free,λb o e a=>?_,I.base.dD,I.base.cY,I.base.dE},{_,D,λj y w d l P=>?_},λy c e=>?_,I.free,I.bJ,λp R=>?_,λb ob e=>?_,by rw[cw];exact I.len,λx u z=>by rw[a]at z;ext z}
 .let{sl,d}:=I.base.slot b o e z F a;exact{sl,(hs.2 b<|old b o e).trans d}
 .let{S,d}:=I.base.there b o e a;exact{S,(hs.2 b<|old b o e).trans d}
 .by_cases G:i=j
  .subst G;rw[ce<|I.len▸(az.mp t).1]at l;ext l
  .rw[bw G]at l;let{T,ZL,ZK}:=g j y w d l P;refine{T,ZL,?_};have V:y≠n:=λz=>G<|zc nd t<|z▸d;rcases ZK with⟨k,ZK⟩|⟨k,c,e,z⟩
   .exact .inl {k,by simp only[qr V];exact ZK}
   .exact .inr {k,c,e,z.sameBut hs<|mQ y c e}
 .let{w,z}:=I.cell y c e;exact{w,z.sameBut hs<|mQ y c e}
 .let{e,W,ne,nf,ZM}:=I.pin p R;exact{(hs.2 p.1 ne).trans e,W,ne,nf,ZM}
 .have L:∀c w,H c=Y w->c≠X.env.locals:=λc w q z=>by rw[z,I.free]at q;ext q
  exact(I.hok b ob e).stay (λc w hc q=>(hs.2 c<|hc.elim (λz=>by rw[z];exact L b _ e) λz=>L c _ z).trans q) (λ_ q=>q) λ_ _ q=>q
def zeo (ok:X.Ok)(t:X.fx=Z8)(nd:X.N.Nodup)(l:X.N[i]?=Y n)(m:X[!n]=Y .local)(o:∀b c,D2.nx b c->w.nx (b.set i Z8) c)(p:∀v c,D2.rt v c->w.rt v c)(y:∀b c,¬D2.bk b c)(z:∀b c,¬D2.ct b c)
  (h:SP (kF X i n a oe) d D2 f s):wpAny M X.A (do bindName X.env n .none;kq X.env n pos) (λ_ e=>SP X d w f e) E s:=by
 have j:∀{b:L2.St} {c:Hp} {Q:Unit->aq->Prop},Inv (kF X i n a oe) d b c s->(∀e,Inv X d (b.set i Z8) c e->Q () e)->wpAny M X.A (do bindName X.env n .none;kq X.env n pos) Q E s:=λ{b c Q} I k=>by have x:=QR ok t l I;refine aa<|wpAny_bindName<|z4j x nd l (.inl m) (v:=.non) rfl (λC B _=>?_)<|.inr m;refine zr1 B t nd l m (ce<|x.len▸(az.mp l).1) λe g=>k e ?_;rw[pw,pw]at g;exact g
 cases f with
 |next=>let{b,c,I,q}:=h;exact j I λe g=>{_,c,g,o b c q}
 |ret u=>let{v,b,c,I,r,q}:=h;exact j I λe g=>{v,_,c,g,r,p v c q}
 |brk=>let{b,c,_,q}:=h;simp_all
 |cont=>let{b,c,_,q}:=h;simp_all
def IB {C:Addr}(f:Fly P w base outer H s C a b d g):b a=none:=by
 let{B,_,c,_,fl}:=f.hh;cases e:b a with
 |none=>rfl
 |some u=>let{o,q}:=QJ<|c a u e;rw[fl.2.1]at q;ext q
def zc0 {C D:Addr}(inv:∀m,FlD B0 (X.env::X.outer) a (.ref C) dd m->L.heap.UpToSlots m->Inv X pins σ M {L with heap:=m})(w0:FlD B0 (X.env::X.outer) a (.ref C) dd L.heap)(O:M a=Z8)(hs:X.stack=X.env::X.outer)(hf:X.env.frame=Y X.env.locals)(hx:X.fx=Z8)(nd:X.N.Nodup)(H:X.N[i]?=Y n)(hv:X.env.scope.names.lookup ("":U)=Z8)(I:X[!n]=Y .local)
  (hB:X.mg B=Y (.ref D)) (hm:∀A E Q ZK oe,X.K.In ZK.heap->ZK.heap.get? a=Y oe->oe.cls=.ref C->Q J ZK->wpAny (model X.prog X.w) A (qj (.ref a)<|.ref D) Q E ZK) (P:Gl X B) (R:Xf B)
  (hQ:∀f s,SP X pins Dn f s->Q f s) (S:∀oe o,oe.cls=.ref C->oe.dict=dd->oe.data=.fields o->PSs (kF X i n a oe) (b0::jF) T) (q:T {λc d=>Dn.nx (c.set i Z8) d,Dn.rt,λ_ _=>False,λ_ _=>False} (σ.set i Z8) M):
  X['a'] (i9 (.ref a) X.env) (λ_ s2=>X['a'] (ju (.ref a) Z8) (λ_ s3=>X['a'] (nh (.ref a) X.env [.ExceptHandler (Y<|.Name B np) (Y n) (b0::jF) hp]) Q X.xe s3) X.xe s2) X.xe L:=by
 have ok:=(inv _ w0<|Heap.UpToSlots.refl _).ok;refine zab (hs▸ok.frames) hf w0 λh4 p r=>Iy p λZL V t=>?_;have u:=inv ZL V<|r.trans t;refine wpAny_handleBy_cons (codeAny_handlers_test ?_) (by intro z;ext z);refine jd u.ok.kind P (l8 (u.ok.glob▸u.mod.glob.keeps u.bk) hB ?_) R;let{ob,_,W,x,_}:=V.first;refine hm _ _ _ _ ob u.dM W x<|codeAny_handlers_suite_as<|QI V λm w6 ZM=>?_;have y:=inv m w6<|(r.trans t).trans ZM;let{oe,o,e,F,G,b}:=w6.first;refine z4j y nd H (.inl I) (v:=.ref a) rfl (λs7 I7 ch=>?_)<|.inr I;let{ad,Z,QS}:=ch;have nL:a≠X.env.locals:=λz=>by let{_,o3,l,j}:=y.stack.mem (by rw[hs,cv,hf];exact ar);rw[<-z]at l;rw[e]at l;ext l;exact j o b
 have nF:a∉X.fs:=λz=>by let{_,o3,l,j}:=y.dF.mem z;rw[e]at l;ext l;exact j o b
 have nA:a≠ad:=λz=>by
  rcases QS with h|h
  .exact nL (z.trans h)
  .let{v,oc,k,g}:=y.cell n ad h;rw[<-z]at k;rw[e]at k;ext k;rw[b]at g;ext g
 have I8:=zp2 I7 nd H hv I (ce<|y.len▸(az.mp H).1) ((Z.2 a nA).trans e) O nL nF (λv z=>by rw[b]at z;ext z);rw[pw]at I8;refine il (S oe o F G b pins s7 _ M {λc d=>Dn.nx (c.set i Z8) d,Dn.rt,λ_ _=>False,λ_ _=>False} I8 q) (λW6 s9 h9=>?_) λ_ _ z=>z.elim;refine il (zeo (D2:={λc d=>Dn.nx (c.set i Z8) d,Dn.rt,λ_ _=>False,λ_ _=>False}) ok hx nd H I (λ_ _ z=>z) (λ_ _ z=>z) (λ_ _ z=>z) (λ_ _ z=>z) h9) (λ_ s5 ZL=>hQ _ s5 ZL) λ_ _ z=>z
def Fly.land {C:Addr}(I:Inv X pins σ H1 s1)(fl:Fly X.prog X.w X.base X.stack H1 s1 C a H' s' dd)(Dh:X.base.StaysIn B0)(QT:HOk X.prog X.w H' B0)(xm:∀b o,s1.heap.get? b=Y o->b∉frs X.stack->∃o',B0.get? b=Y o'/\(H1 b=Z8->o'=o))(w6:FlD B0 X.stack a (.ref C) dd h6)(up:s'.heap.UpToSlots h6):Inv X pins σ H' {s' with heap:=h6}:=by refine Fly.inv {fl.os,fl.bare,fl.dD,fl.cY,fl.dE,fl.free,{(B0),Dh,QT,xm,w6},λb o e z hb=>?_} I;let{sl,e1}:=fl.slot b o e z hb;let{_,o3,e3,QU}:=I.stack.mem hb;rw[e]at e3;ext e3;let{Dg,e4}:=up b _ e1 QU;exact{(Dg),e4}
def xn {C D:Addr}(d:gI X.K C=J)(f:gI X.K D=J)(g:ZZ X.K (.ref C) (.ref D)=Y J)(A:eh)(E:Value->aq->Prop)(Q:Bool->aq->Prop)(b:aq)(oe:Obj)(k:X.K.In b.heap)(e:b.heap.get? a=Y oe)(c:oe.cls=.ref C)(q:Q J b):wpAny (model X.prog X.w) A (qj (.ref a)<|.ref D) Q E b:=by let{h,i,j}:=XC.mk k d;let{l,m,_}:=XC.mk k f;exact QE i m e c (j _ _ g) q
end
section
variable {X:Cx}{n x:U}{p p1 p2 pos:Pos}{a C:Addr}{oe:Obj}{v:V}{u:Value}{b:Bool}
def IC (c:X.fx=Y (n,.ref a))(d:X[!n]=Y .local)(hd:Xf n):PE X (.Name n p) (λ_ H Q=>Q (.ref a) H):=by intro b s e H Q I h;let{m,hn,hm}:=I.fx n _ c;exact oq (mz I.ok.kind d hn hm {.ref a,H,I,rfl,h}) hd
def QV (a:Gl X x)(hm:X.mg x=Y u\/(X.mg x=Z8/\cy x=Y u/\x≠"__name__"))(r:RelV v u)(hd:Xf x):PE X (.Name x p) (λ_ H Q=>Q v H):=by
 intro b s f H Q I h;rcases hm with hm|⟨c,d,e⟩
 .exact z2x I a hm {(v),H,I,r,h} hd
 .exact z2t I a c d {(v),H,I,r,h} e hd
def Xh (X:Cx)(a:Addr)(oe:Obj):Prop:=∀pins σ H s,Inv X pins σ H s->s.heap.get? a=Y oe
def zuf (hm:X.mg "isinstance"=Z8)(k:Gl X "isinstance")(l:X.fx=Y (n,.ref a))(m:X[!n]=Y .local)(hd:Xf n)(o:Xh X a oe)(hc:oe.cls=.ref C)
  (f:Gl X x) (g:X.mg x=Y u\/(X.mg x=Z8/\cy x=Y u/\x≠"__name__")) (r:RelV v u) (t:∀w,RelV v w->w=u) (h:Xf x) (xa:XA X.K C) (y:XV X.K u) (hs:ZZ X.K (.ref C) u=Y b):
  PE X (.Call (.Name "isinstance" p) [.Name n p1,.Name x p2] [] pos) (tD X.K λ_=>.ok (.fr,.bool b)):=by
 rintro c s A H Q I ⟨N,F,z,so,e,q⟩
 ext e;refine f9<|z2t (u:=.builtin "isinstance") I k hm Z' ?_ dc dc;refine PyProof.Rows.callWith_builtin1 (aR ((v5 (IC (p:=p1) l m hd)<|v5 (QV (p:=p2) f g r h) kR) pos c s A H (λj d=>j=[.ref a,v]/\d=H) I {(rfl),rfl}) λO P B=>?_) rfl rfl;let{j,d,i,D,rfl,rfl}:=B;cases D with
 |cons E rt=>
  cases rt with
  |cons G rn=>ext rn;rename_i ZK L;obtain rfl:ZK=ZR a:=E;have M:=t L G;subst M;exact zvx i.dM xa (o _ _ _ _ i) hc y hs λR=>{.bl b,d,i.tok _,rfl,q _ d (Same.refl d) rfl}
end
section
theorem aD (h:(a&&b)=J):a=J/\b=true:=av.mp h
theorem aV (h:(a&&b&&c)=J):a=J/\b=J/\c=true:={(aD (aD h).1).1,(aD (aD h).1).2,(aD h).2}
theorem bN (h:(a&&b&&c&&d)=J):a=J/\b=J/\c=J/\d=true:={(aV (aD h).1).1,(aV (aD h).1).2.1,(aV (aD h).1).2.2,(aD h).2}
theorem fJ (h:(a&&b&&c&&d&&e)=J):a=J/\b=J/\c=J/\d=J/\e=true:={(bN (aD h).1).1,(bN (aD h).1).2.1,(bN (aD h).1).2.2.1,(bN (aD h).1).2.2.2,(aD h).2}
def cX (h:(!b)=J):b=false:=by ext b<;>first|rfl|ext h
def ff {p:Prop}(h:b=Z6)(z:b=J):p:=by rw[h]at z;ext z
def fR (h:l.isEmpty=J):l=[]:=by ext l<;>first|rfl|ext h
def se (h:(!l.isEmpty)=J):∃x r,l=x::r:=by ext l<;>first|exact⟨_,_,rfl⟩|ext h
def aL (h:o.any f=J):∃v,o=Y v/\f v=true:=by
 cases o with
 |none=>ext h
 |some v=>exact{(v),rfl,h}
def cE {a:Type}{o:Option a}{v:a}{q:a->Prop}(h:o=Y v)(d:o=Z8\/∃u,o=Y u/\q u):q v:=by grind
theorem xo (h:Cf e=Y v):∃p,e=.Name v p:=cE (q:=λv=>∃p,e=.Name v p) h (by ext e<;>first|exact .inl rfl|exact .inr ⟨_,rfl,_,rfl⟩)
theorem xp (h:kA e=Y v):∃k p,e=.Constant v k p:=cE (q:=λv=>∃k p,e=.Constant v k p) h (by ext e<;>first|exact .inl rfl|exact .inr ⟨_,rfl,_,_,rfl⟩)
theorem ID (h:tP e=Y v):∃p,e=.BinOp v.1 v.2.1 v.2.2 p:=cE (q:=λv=>∃p,e=.BinOp v.1 v.2.1 v.2.2 p) h (by ext e<;>first|exact .inl rfl|exact .inr ⟨_,rfl,_,rfl⟩)
theorem qS (h:wJ e=Y v):∃p,e=.UnaryOp v.1 v.2 p:=cE (q:=λv=>∃p,e=.UnaryOp v.1 v.2 p) h (by ext e<;>first|exact .inl rfl|exact .inr ⟨_,rfl,_,rfl⟩)
theorem qT (h:tQ e=Y v):∃p,e=.Compare v.1 v.2.1 v.2.2 p:=cE (q:=λv=>∃p,e=.Compare v.1 v.2.1 v.2.2 p) h (by ext e<;>first|exact .inl rfl|exact .inr ⟨_,rfl,_,rfl⟩)
theorem oN (h:uT e=Y v):e=.BoolOp v.1 v.2.1 v.2.2:=cE (q:=λv=>e=.BoolOp v.1 v.2.1 v.2.2) h (by ext e<;>first|exact .inl rfl|exact .inr ⟨_,rfl,rfl⟩)
theorem QW (h:wK e=Y v):∃p,e=.IfExp v.1 v.2.1 v.2.2 p:=cE (q:=λv=>∃p,e=.IfExp v.1 v.2.1 v.2.2 p) h (by ext e<;>first|exact .inl rfl|exact .inr ⟨_,rfl,_,rfl⟩)
theorem xq (h:oB e=Y v):∃k p,e=.Tuple v k p:=cE (q:=λv=>∃k p,e=.Tuple v k p) h (by ext e<;>first|exact .inl rfl|exact .inr ⟨_,rfl,_,_,rfl⟩)
theorem IE (h:tR e=Y v):∃p,e=.List v p:=cE (q:=λv=>∃p,e=.List v p) h (by ext e<;>first|exact .inl rfl|exact .inr ⟨_,rfl,_,rfl⟩)
theorem xr (h:Cg e=Y v):∃p,e=.Dict v.1 v.2 p:=cE (q:=λv=>∃p,e=.Dict v.1 v.2 p) h (by ext e<;>first|exact .inl rfl|exact .inr ⟨_,rfl,_,rfl⟩)
theorem zR (h:oE e=Y v):∃p,e=.Subscript v.1 v.2 p:=cE (q:=λv=>∃p,e=.Subscript v.1 v.2 p) h (by ext e<;>first|exact .inl rfl|exact .inr ⟨_,rfl,_,rfl⟩)
theorem QX (h:wL e=Y v):∃p,e=.Slice v.1 v.2.1 v.2.2 p:=cE (q:=λv=>∃p,e=.Slice v.1 v.2.1 v.2.2 p) h (by ext e<;>first|exact .inl rfl|exact .inr ⟨_,rfl,_,rfl⟩)
theorem xu (h:Ci e=Y v):e=.Call v.1 v.2.1 v.2.2.1 v.2.2.2:=cE (q:=λv=>e=.Call v.1 v.2.1 v.2.2.1 v.2.2.2) h (by ext e<;>first|exact .inl rfl|exact .inr ⟨_,rfl,rfl⟩)
theorem oO (h:uU e=Y v):e=.Attribute v.1 v.2.1 v.2.2:=cE (q:=λv=>e=.Attribute v.1 v.2.1 v.2.2) h (by ext e<;>first|exact .inl rfl|exact .inr ⟨_,rfl,rfl⟩)
theorem Di (h:Hg e=Y v):∃p,e=.ListComp v.1 v.2.1 v.2.2 p:=cE (q:=λv=>∃p,e=.ListComp v.1 v.2.1 v.2.2 p) h (by ext e<;>first|exact .inl rfl|exact .inr ⟨_,rfl,_,rfl⟩)
def fX (h:bT l=Y v):l=[v]:=by rcases l with _|⟨x,_|⟨y,l⟩⟩<;>ext h;rfl
def zS (h:oF l=Y v):l=[v.1,v.2]:=by rcases l with _|⟨x,_|⟨y,_|⟨z,l⟩⟩⟩<;>ext h;rfl
def jR (h:jQ e=Y v):∃q p,e=.Call (.Name v.1 q) v.2 [] p:=by
 let{u,hu,h}:=jv.mp h;cases a:u.2.2.1.isEmpty with
 |false=>rw[a]at h;simp_all
 |true=>rw[a]at h;let{x,b,rfl}:=c7.mp h;let{q,c}:=xo b;exact{q,_,by rw[xu hu,c,fR a]}
def fK (h:lZ e=Y v):∃b c,e=.Call (.Attribute v.1 v.2.1 b) v.2.2.1 [] c/\v.2.2.2=(b.endLine==c.line):=by
 let{u,hu,h}:=jv.mp h;cases a:u.2.2.1.isEmpty with
 |false=>rw[a]at h;simp_all
 |true=>rw[a]at h;let{x,d,rfl}:=c7.mp h;exact{_,_,by rw[xu hu,oO d,fR a],rfl}
def gS (h:hG f e=J):∃x p,e=.Name x p/\f x=true:=by let{x,a,h}:=aL h;let{p,b}:=xo a;exact{(x),p,b,h}
def IF (K:Z5)(mg:U->Option Value)(c C:U)(b:Bool):Prop:=∃A v u,mg c=Y (.ref A)/\XA K A/\XV K u/\ZZ K (.ref A) u=Y b/\RelV v u/\(∀w,RelV v w->w=u)/\(mg C=Y u\/(mg C=Z8/\cy C=Y u/\C≠"__name__"))
def Dj (K:Z5)(mg:U->Option Value)(c:U):Prop:=∃C,mg c=Y (.ref C)/\zP K C=J
def QY (K:Z5)(mg:U->Option Value)(c B:U):Prop:=∃C D,mg c=Y (.ref C)/\mg B=Y (.ref D)/\gI K C=J/\gI K D=J/\ZZ K (.ref C) (.ref D)=Y J
structure vd (Γ:Gm)(K:Z5)(mg:U->Option Value):Prop where
 sub:∀c C b,Γ.sub.contains (c,C,b)=J->IF K mg c C b
 rs:∀c,Γ.rs.contains c=J->Dj K mg c
 gH:∀c B,Γ.gH.contains (c,B)=J->QY K mg c B
structure Cok (Γ:Gm)(Κ:List D)(Φ:List Fn)(X:Cx)(r:Nat):Prop where
 hN:X.N=Γ.N
 hs:X.env.scope=Γ.sc
 nd:Γ.N.Nodup
 fn:Γ.blk=Z6->∀x,X.fn x=J
 kind:Γ.sc.kind=.function
 free:∀x,Γ.free.contains x=J->X.mg x=Z8
 fns:∀(j:Nat) f n,Γ.fns[j]?=Y (f,n)->∃m k ps,Φ[j]?=Y m/\k<=r/\Cal X.prog X.w X.K X.mg X.base k f ps (spD X.K n m)
 cst:∀(j:Nat) x,Γ.cst[j]?=Y x->∃d a,Κ[j]?=Y d/\X.mg x=Y (.ref a)/\∀H B,B Z8->Rep X.K H B (.ref a) d
 lB:∀(j:Nat) f n,Γ.fns[j]?=Y (f,n)->∃m k ps,Φ[j]?=Y m/\k<=r/\kE X.prog X.w X.K X.mg X.base k f ps n m
 room:Γ.cm=J->Room r X.A
 calm:Γ.cm=J->X.calm=J
 hu:X.A.units+64<cLine
 mF:Γ.blk=Z6->X.stack=X.env::X.outer/\X.env.frame=Y X.env.locals
 xv:Γ.xc=Z8->X.fx=Z8
 xc:∀n c,Γ.xc=Y (n,c)->∃a oe C,X.fx=Y (n,.ref a)/\Xh X a oe/\oe.cls=.ref C/\X.mg c=Y (.ref C)
 xk:vd Γ X.K X.mg
section
variable {Γ:Gm}{Κ:List D}{Φ:List Fn}{X:Cx}{r:Nat}
def Cok.gl (k:Cok a Κ Φ X r)(h:lY a x=J):Gl X x/\Xf x:=by unfold lY at h;rw[aj]at h;refine{?_,by simpa using h.2};show X[!x]=_;rw[k.hs];simpa using h.1
def Cok.aU (k:Cok b Κ Φ X r)(h:gR b i x=J):X.N[i]?=Y x/\Vis X.env.scope x/\Xf x/\(x==("__classdict__":U))=false:=by
 unfold gR at h;simp at h;have⟨⟨⟨h1,a⟩,h3⟩,h4⟩:=h;refine{by rw[k.hN];exact h1,?_,by simpa using h3,by simpa using h4};rw[k.hs];rcases a with(a|a)|a
 .exact .inl a
 .exact .inr (.inl a)
 .exact .inr (.inr a)
def Cok.loc (k:Cok b Κ Φ X r)(h:jC b i x=J):X.N[i]?=Y x/\Loc X.env.scope x/\(X.fn x=J\/X[!x]=Y .local):=by
 unfold jC at h;simp at h;let{c,a}:=h;refine{by rw[k.hN];exact c,?_,?_}
 .unfold L2.Loc;rw[k.hs];rcases a with a|⟨_,a⟩
  .exact .inl a
  .exact .inr a
 .rcases a with a|⟨a,_⟩
  .exact .inr (k.hs▸a)
  .exact .inl (k.fn a x)
def Cok.blt (k:Cok a Κ Φ X r)(h:dW a x=J):Gl X x/\X.mg x=Z8/\Xf x/\x≠"__name__":=by unfold dW at h;simp only[av]at h;let{{b,c},d}:=h;let{g1,g2}:=k.gl b;exact{g1,k.free x c,g2,by simpa using d}
theorem QZ {C:Addr}:(blk X scope a C b s H).env.scope=Ce scope X.env.scope:=rfl
theorem Cok.blk (k:Cok a Κ Φ X r)(c:scope.kind=.function)(nd:b.Nodup)(C:Addr)(d:List Addr)(s:aq)(H:Hp):Cok {a with N:=b,sc:=Ce scope a.sc,blk:=J,xc:=Z8} Κ Φ (blk X scope b C d s H) r where
 hN:=rfl
 hs:=by rw[QZ,k.hs]
 nd:=nd
 fn:=λz=>by ext z
 kind:=c
 free:=k.free
 fns:=k.fns
 cst:=k.cst
 lB:=k.lB
 room:=k.room
 calm:=k.calm
 hu:=k.hu
 mF:=λz=>by ext z
 xv:=λ_=>rfl
 xc:=λ_ _ z=>by ext z
 xk:={k.xk.sub,(k.xk.rs),k.xk.gH}
def Q0 (k:Cok a Κ Φ X r)(all:List Nat):∀{es:List Expr},Cj a is es=J->PGs X es (oH X.K all is)/\(fo es X.env).length=is.length/\(fo es X.env).findIdx? (·.1)=none:=by
 induction is with
 |nil=>intro es h;cases fR h;exact{(Pr),rfl,rfl}
 |cons i is b=>
  intro es h;cases es with
  |nil=>ext h
  |cons e es=>
   let{h0,c}:=aD h;let{x,p,rfl,h0}:=gS h0;let{d,f,g}:=k.loc h0;let{a1,a2,a3}:=b c;refine{Pt (k.hN▸k.nd) d f g a1,?_,?_}
   .show(fo es X.env).length+1=_;rw[a2];rfl
   .show((Z6,ou (.Name x p) X.env)::fo es X.env).findIdx? (·.1)=Z8;rw[List.findIdx?_cons,a3];rfl
def xw (k:Cok b Κ Φ X r)(h:tS b t e=J):PG X e (tDG X.K t):=by
 cases t with
 |nm i=>let{x,p,rfl,a}:=gS h;let{c,d,f}:=k.loc a;exact Pq (k.hN▸k.nd) c d f
 |tp is=>let{h0,h}:=aD h;let{v,g,a}:=aL h;let{_,_,rfl}:=xq g;let{a1,a2,a3}:=Q0 k is a;exact Pu (k.calm h0) a1 rfl a3 a2.symm
def IG (h:plainT e=J)(env:Env):∀a,p6 e env a=(do let v <-a;standAt e.pos;holding [v] (truthy v)):=by
 intro a;ext e<;>first|(ext h;done)|rfl|skip
 rename_i b x p;ext b<;>first|(ext h;done)|rfl
def zT (h:uS e=J)(env:Env):∀x,fh e env x=pure x:=by intro x;ext e<;>first|(ext h;done)|rfl
end
variable (Κ:List D)(Φ:List Fn)
def Q1 (c:C):∀b es d f,dZ b c es=J->dO Κ Φ c d=.ok f->f.length=es.length/\(es.all λe=>!isStar e)=true:=by
 induction c with
 |nil=>intro b es d f h e;cases fR h;ext e;exact{(rfl),rfl}
 |cons a r _ i=>
  intro b es d f h e;cases es with
  |nil=>ext h
  |cons x es=>let{j,_,k}:=aV h;let{y,_,e}:=Res.aA e;let{g,l,e}:=Res.aA e;ext e;let{m,n}:=i b es d g k l;exact{by rw[ay,ay,m],by rw[b8,n,j];rfl}
 |_=>exact λ_ _ _ _ h=>ff rfl h
end
section
def Q3 (h:tyB a T t=J):∃x p,t=.Name x p/\x=Str.ofString T/\dW a x=J/\T∈tysB:=by let{x,p,e,h}:=gS h;let{b,c,d}:=aV h;exact{x,p,e,q8 b,c,cj.mp d}
def Dk (h:(a||b)=J)(n:b=Z6):a=true:=by rw[n,lx]at h;exact h
def Q4 (h:T∈tysB):cy (Str.ofString T)=Y (.type T):=by simp only[tysB,ak,gz,or_false]at h;rcases h with rfl|rfl|rfl|rfl|rfl<;>decide+kernel
variable (Κ:List D)(Φ:List Fn)
def sf:∀{c:C} {es:List Expr},dZ g c es=J->(es.all λe=>!isStar e)=true:=by
 intro c
 induction c with
 |nil=>intro es h;cases fR h;rfl
 |cons a r _ b=>
  intro es h;cases es with
  |nil=>rfl
  |cons e es=>let{d,_,f}:=aV h;rw[b8,b f,d];rfl
 |_=>exact λh=>ff rfl h
theorem xx (h:dZ d c es=J):∀b a,dO Κ Φ c b=.ok a->a.length=es.length:=λb a e=>(Q1 Κ Φ c d es b a h e).1
structure Sd (c:C):Prop where
 E:∀(Γ:Gm) (X:Cx) (r:Nat) (e:Expr),Cok Γ Κ Φ X r->chkE Γ c e=J->PE X e (tD X.K<|aJ Κ Φ c)
 T:∀(Γ:Gm) (X:Cx) (r:Nat) (e:Expr),Cok Γ Κ Φ X r->fH Γ c e=J->PT X e (eA X.K<|dP Κ Φ c)/\((∃o l p,e=.BoolOp o l p)->PW X e (eA X.K<|dP Κ Φ c))
 Q:∀(Γ:Gm) (X:Cx) (r:Nat) (l:Expr) (ops:List CmpOp) (rs:List Expr) (pos:Pos),Cok Γ Κ Φ X r->chkE Γ c (.Compare l ops rs pos)=J->PT X (.Compare l ops rs pos) (eA X.K λρ=>aJ Κ Φ c ρ>>=λx=>hF x.2)
 A:∀(Γ:Gm) (X:Cx) (r:Nat) (es:List Expr),Cok Γ Κ Φ X r->dZ Γ c es=J->PA X es (tDA X.K<|dO Κ Φ c)
 O:∀(Γ:Gm) (X:Cx) (r:Nat) (e:Option Expr),Cok Γ Κ Φ X r->qK Γ c e=J->PO X e (tDO X.K<|tO Κ Φ c)
 W:∀(Γ:Gm) (X:Cx) (r:Nat) (e tg:Expr),Cok Γ Κ Φ X r->zx c tg=J->kB Γ c e=J->PI X tg e (tDW X.K<|evW Κ Φ c)
 G:∀(Γ:Gm) (X:Cx) (r:Nat) (e:Expr),Cok Γ Κ Φ X r->tV Γ c e=J->∃a,c=.tv a/\PE X e (tD X.K<|aJ Κ Φ a)
def si:C->Nat
 |.and _ _|.or _ _|.not _|.tv _|.nil|.cons _ _|.gM _|.enum _|.zip _ _=>2
 |.cmp _ _ _|.chain _ _ _ _ _|.nW _ _=>1
 |_=>0
variable {Κ:List D}{Φ:List Fn}{a b c:C}
section
variable {Γ:Gm}{e tg:Expr}{es:List Expr}{o:Option Expr}
def Q5 (h:si c<2):fH Γ c e=false:=by ext c<;>first|rfl|exact absurd h (c8 2)
def Q6 (h:si c<2):dZ Γ c es=false:=by ext c<;>first|rfl|exact absurd h (c8 2)
def Q7 (h:si c<2):qK Γ c o=false:=by ext c<;>first|rfl|exact absurd h (c8 2)
def Q8 (h:si c<2):kB Γ c e=false:=by ext c<;>first|rfl|exact absurd h (c8 2)
def Q9 (h:si c<2):tV Γ c e=false:=by ext c<;>first|rfl|exact absurd h (c8 2)
end
theorem Sd.q (hE:∀Γ X r e,Cok Γ Κ Φ X r->chkE Γ c e=J->PE X e (tD X.K<|aJ Κ Φ c))(hQ:∀Γ X r l ops rs pos,Cok Γ Κ Φ X r->chkE Γ c (.Compare l ops rs pos)=J->PT X (.Compare l ops rs pos) (eA X.K λρ=>aJ Κ Φ c ρ>>=λx=>hF x.2))(hx:si c<2):Sd Κ Φ c:={hE,λ_ _ _ _ _ h=>ff (Q5 hx) h,hQ,λ_ _ _ _ _ h=>ff (Q6 hx) h,λ_ _ _ _ _ h=>ff (Q7 hx) h,λ_ _ _ _ _ _ _ h=>ff (Q8 hx) h,λ_ _ _ _ _ h=>ff (Q9 hx) h}
def Q' (h:si c=0):chkE Γ c (.Compare l ops rs pos)=false:=by ext c<;>first|rfl|(ext h;done)
theorem Sd.x (b:∀Γ X r e,Cok Γ Κ Φ X r->chkE Γ c e=J->PE X e (tD X.K<|aJ Κ Φ c))(a:si c=0):Sd Κ Φ c:=Sd.q b (λ_ _ _ _ _ _ _ _ h=>ff (Q' a) h) (a▸Nat.zero_lt_two)
theorem Ra:Sd Κ Φ (.var i):=Sd.x (λf X r e k h=>by let{x,p,rfl,h}:=gS h;let{a,b,c,d}:=k.aU h;exact OU a b c d) rfl
theorem Rb:Sd Κ Φ .non:=Sd.x (λa X r e k h=>by let{_,_,rfl}:=xp<|qw h;exact zB Mn λ_ _=>rfl) rfl
theorem Dl {b:Bool}:Sd Κ Φ (.bl b):=Sd.x (λa X r e k h=>by let{_,_,rfl}:=xp<|qw h;exact zB Mm λ_ _=>rfl) rfl
theorem Rc {b:Int}:Sd Κ Φ (.int b):=Sd.x (λa X r e k h=>by let{_,_,rfl}:=xp<|qw h;exact zB Ml λ_ _=>rfl) rfl
theorem Rf {b:U}:Sd Κ Φ (.str b):=Sd.x (λd X r e k h=>by let{a,c}:=aD h;let{_,_,rfl}:=xp<|qw a;exact zB Mo λ_ _=>{rfl,(c)}) rfl
theorem Rh:Sd Κ Φ (.glob j x):=Sd.x (λB X r e k h=>by
 let{y,p,rfl,i}:=gS h;let{l,m,n}:=aV i;cases q8 l;let{o,g2}:=k.gl m;let{d,a,c,t,u}:=k.cst j _<|q8 n;cases b:imm d with
 |true=>
  refine PE.imp (OV o t g2 b u) λv H Q f=>?_
  have w:aJ Κ Φ (.glob j x)=λ_=>.ok (.fr,d):=by
   funext A
   show(match Κ[j]? with|some d=>if imm d=J then Res.ok (G.fr,d)else .no|none=>.no)=_;rw[c];show(if imm d=J then Res.ok (G.fr,d)else .no)=_;rw[b];rfl
  rw[w]at f;exact f
 |false=>
  rintro g s v H Q I ⟨A,F,z,so,e,q⟩
  have e:(match Κ[j]? with|some d=>if imm d=J then Res.ok (G.fr,d)else .no|none=>.no)=.ok z:=e;rw[c]at e;have e:(if imm d=J then Res.ok (G.fr,d)else .no)=.ok z:=e;rw[b]at e;ext e) rfl
theorem Ri (d:Sd Κ Φ a)(f:Sd Κ Φ b):Sd Κ Φ (.bin o a b):=Sd.x (λc X r e k h=>by let{v,g,i}:=aL h;let{p,rfl}:=ID g;let{j,l,m,n}:=bN i;cases qw j;exact OW l (d.E c X r _ k m)<|f.E c X r _ k n) rfl
theorem Rj (b:Sd Κ Φ a):Sd Κ Φ (.neg a):=Sd.x (λc X r e k h=>by let{{o,x},d,f}:=aL h;let{p,rfl}:=qS d;let{g,i}:=aD f;cases qw g;exact OX<|b.E c X r _ k i) rfl
def IH (h:chkE Γ (.cmp op a b) e=J):∃l r p,e=.Compare l [op] [r] p/\z2n op=J/\d5 op r=Z6/\chkE Γ a l=J/\chkE Γ b r=true:=by let{{l,o,rs},hv,h9}:=aL h;let{p,rfl}:=qT hv;let{h1,h2}:=aD h9;let{r,hr,h3}:=aL h2;cases qw h1;cases fX hr;let{h2,h3,h4,h5}:=bN h3;exact{l,r,p,rfl,h2,cX h3,h4,h5}
theorem Rk (j:Sd Κ Φ a)(m:Sd Κ Φ b):Sd Κ Φ (.cmp s a b):=Sd.q (λc X r e k h=>by
 let{_,_,_,rfl,d,f,g,i}:=IH h;exact zu1 k.hu d f (j.E c X r _ k g)<|m.E c X r _ k i) (λc X r l n rs p k h=>by
 let{_,_,_,o,d,f,g,i}:=IH h;cases o;exact zxl k.hu d f (j.E c X r _ k g)<|m.E c X r _ k i) ni
def II (h:chkE Γ (.chain f d a b c) e=J):∃l m r p,e=.Compare l [f,d] [m,r] p/\z2n f=J/\z2n d=J/\l9 [f,d] [m,r]=Z6/\chkE Γ a l=J/\chkE Γ b m=J/\chkE Γ c r=true:=by let{{l,o,rs},k,n}:=aL h;let{p,rfl}:=qT k;let{q,g}:=aD n;let{r,s,i}:=aL g;cases qw q;cases zS s;let{g,i,t,u,j}:=fJ i;let{j,v}:=aD j;exact{l,r.1,r.2,p,rfl,g,i,cX t,u,j,v}
theorem Rl (n:Sd Κ Φ a)(o:Sd Κ Φ b)(s:Sd Κ Φ c):Sd Κ Φ (.chain w t a b c):=Sd.q (λΓ X r e k h=>by
 let{_,_,_,_,rfl,d,f,g,i,j,m}:=II h;exact zku k.hu d f g (n.E Γ X r _ k i) (o.E Γ X r _ k j)<|s.E Γ X r _ k m) (λΓ X r l u rs p k h=>by
 let{_,_,_,_,v,d,f,g,i,j,m}:=II h;cases v;exact zno k.hu d f g (n.E Γ X r _ k i) (o.E Γ X r _ k j)<|s.E Γ X r _ k m) ni
def IJ (h:((tQ e).any λv=>decide (v.2.1=[o])&&(bT v.2.2).any λr=>decide (kA r=Y w)&&chkE Γ a v.1)=J):∃l k q p,e=.Compare l [o] [.Constant w k q] p/\chkE Γ a l=true:=by let{{l,o,rs},hv,h9}:=aL h;let{p,rfl}:=qT hv;let{h1,h2}:=aD h9;let{r,hr,h3}:=aL h2;let{h4,h5}:=aD h3;cases qw h1;cases fX hr;let{_,_,rfl}:=xp<|qw h4;exact{_,_,_,_,rfl,h5}
theorem Rm (d:Sd Κ Φ a):Sd Κ Φ (.nW i a):=Sd.q (λb X r e k h=>by
 let{_,_,_,_,rfl,c}:=IJ h;exact O0 rfl<|d.E b X r _ k c) (λb X r l f rs p k h=>by
 let{_,_,_,_,g,c}:=IJ h;cases g;exact zF rfl<|d.E b X r _ k c) ni
def xy (h:uV f g o p xs=J):(∃x y,xs=[x,y]/\f x=J/\g y=J)\/∃x y z r,xs=x::y::z::r/\f x=J/\g (.BoolOp o (y::z::r) p)=true:=by
 rcases xs with _|⟨x,_|⟨y,_|⟨z,xs⟩⟩⟩
 .cases h
 .cases h
 .exact .inl {x,y,rfl,(aD h).1,(aD h).2}
 .exact .inr {x,y,z,xs,rfl,(aD h).1,(aD h).2}
theorem Rn (g:Sd Κ Φ a)(i:Sd Κ Φ b):Sd Κ Φ (.and a b) where
 E:=λc X r e k h=>by
  let{{o,q,p},j,l}:=aL h;cases oN j;let{m,n}:=aD l;cases qw m;rcases xy n with⟨x,y,rfl,d,f⟩|⟨x,y,z,t,rfl,d,f⟩
  .exact Hs (g.E c X r _ k d) (F9<|i.E c X r _ k f)
  .exact Hs (g.E c X r _ k d) (i.E c X r _ k f)
 T:=λc X r e k h=>by
  let{{o,q,p},j,l}:=aL h;cases oN j;let{m,n}:=aD l;cases qw m;rcases xy n with⟨x,y,rfl,d,f⟩|⟨x,y,z,t,rfl,d,f⟩
  .have w:=w_and (pos:=p) (g.T c X r _ k d).1<|Mr (i.T c X r _ k f).1;exact{w.pt,λ_=>w}
  .have w:=w_and (g.T c X r _ k d).1<|(i.T c X r _ k f).2 {_,_,_,rfl};exact{w.pt,λ_=>w}
 Q:=λ_ _ _ _ _ _ _ _ h=>ff rfl h
 A:=λ_ _ _ _ _ h=>ff rfl h
 O:=λ_ _ _ _ _ h=>ff rfl h
 W:=λ_ _ _ _ _ _ _ h=>ff rfl h
 G:=λ_ _ _ _ _ h=>ff rfl h
theorem Dm (g:Sd Κ Φ a)(i:Sd Κ Φ b):Sd Κ Φ (.or a b) where
 E:=λc X r e k h=>by
  let{{o,q,p},j,l}:=aL h;cases oN j;let{m,n}:=aD l;cases qw m;rcases xy n with⟨x,y,rfl,d,f⟩|⟨x,y,z,t,rfl,d,f⟩
  .exact wY (g.E c X r _ k d) (F9<|i.E c X r _ k f)
  .exact wY (g.E c X r _ k d) (i.E c X r _ k f)
 T:=λc X r e k h=>by
  let{{o,q,p},j,l}:=aL h;cases oN j;let{m,n}:=aD l;cases qw m;rcases xy n with⟨x,y,rfl,d,f⟩|⟨x,y,z,t,rfl,d,f⟩
  .have w:=w_or (pos:=p) (g.T c X r _ k d).1<|F7 (i.T c X r _ k f).1;exact{w.pt,λ_=>w}
  .have w:=w_or (g.T c X r _ k d).1<|(i.T c X r _ k f).2 {_,_,_,rfl};exact{w.pt,λ_=>w}
 Q:=λ_ _ _ _ _ _ _ _ h=>ff rfl h
 A:=λ_ _ _ _ _ h=>ff rfl h
 O:=λ_ _ _ _ _ h=>ff rfl h
 W:=λ_ _ _ _ _ _ _ h=>ff rfl h
 G:=λ_ _ _ _ _ h=>ff rfl h
theorem Rq (i:Sd Κ Φ a):Sd Κ Φ (.not a) where
 E:=λb X r e k h=>by let{{o,x},c,d}:=aL h;let{p,rfl}:=qS c;let{f,g}:=aD d;cases qw f;exact O2 (i.E b X r _ k g)
 T:=λb X r e k h=>by let{{o,x},c,d}:=aL h;let{p,rfl}:=qS c;let{f,g}:=aD d;cases qw f;exact{qP (i.T b X r _ k g).1,λ⟨_,_,_,z⟩=>by ext z}
 Q:=λ_ _ _ _ _ _ _ _ h=>ff rfl h
 A:=λ_ _ _ _ _ h=>ff rfl h
 O:=λ_ _ _ _ _ h=>ff rfl h
 W:=λ_ _ _ _ _ _ _ h=>ff rfl h
 G:=λ_ _ _ _ _ h=>ff rfl h
def Rr (h:Hf e=J):∃l o r p,e=.Compare l o r p:=by ext e<;>first|exact ff rfl h|exact⟨_,_,_,_,rfl⟩
theorem Dp (d:Sd Κ Φ a):Sd Κ Φ (.tv a) where
 E:=λ_ _ _ _ _ h=>ff rfl h
 T:=λb X r e k h=>by
  let{c,f}:=aD h;rcases fq.mp c with c|c
  .exact{O3 (d.E b X r _ k f)<|IG c _,λ⟨_,_,_,z⟩=>by subst z;ext c}
  .let{_,_,_,_,rfl}:=Rr c;exact{d.Q b X r _ _ _ _ k f,λ⟨_,_,_,z⟩=>by ext z}
 Q:=λ_ _ _ _ _ _ _ _ h=>ff rfl h
 A:=λ_ _ _ _ _ h=>ff rfl h
 O:=λb X r e k h=>by let{v,rfl,h}:=aL h;exact Pd (d.E b X r _ k h)
 W:=λb X r e g k _ h=>fI (d.E b X r _ k (aD h).2)
 G:=λb X r e k h=>{a,rfl,d.E b X r _ k h}
theorem Rt (c:Sd Κ Φ a):Sd Κ Φ (.tup a):=Sd.x (λd X r e k h=>by let{v,f,g}:=aL h;let{_,_,rfl}:=xq f;let{i,b}:=aD g;exact O4 (c.A d X r _ k b) λj l e=>by rw[xx Κ Φ b j l e];exact Hd<|qw i) rfl
theorem Ru (c:Sd Κ Φ a):Sd Κ Φ (.lst a):=Sd.x (λd X r e k h=>by let{v,f,g}:=aL h;let{_,rfl}:=IE f;let{i,b}:=aD g;exact O5 (c.A d X r _ k b) λj l e=>by rw[xx Κ Φ b j l e];exact Hd<|qw i) rfl
theorem Rv:Sd Κ Φ .iB:=Sd.x (λi X r e k h=>by let{{a,b},c,d}:=aL h;let{_,rfl}:=xr c;let{f,g}:=aD d;cases fR f;cases fR g;exact O6) rfl
theorem Dq (d:Sd Κ Φ a)(f:Sd Κ Φ b):Sd Κ Φ (.ix a b):=Sd.x (λc X r e k h=>by let{v,g,i}:=aL h;let{_,rfl}:=zR g;let{j,l,m}:=aV i;exact d_ix k.hu j (d.E c X r _ k l)<|f.E c X r _ k m) rfl
theorem Dr {c:C}(d:Sd Κ Φ a)(f:Sd Κ Φ c)(g:Sd Κ Φ j):Sd Κ Φ (.sl a c j):=Sd.x (λb X r e k h=>by let{{x,i},m,n}:=aL h;let{_,rfl}:=zR m;let{{l,u,s},hs,o}:=aL n;let{_,rfl}:=QX hs;let{p,q,t,v}:=bN o;cases eu.mp p;exact d_sl (d.E b X r _ k q) (f.O b X r _ k t)<|g.O b X r _ k v) rfl
theorem Ry (i:Sd Κ Φ args):Sd Κ Φ (.call j f args):=Sd.x (λl X r e k h=>by
 let{{x,es},n,o}:=aL h;let{_,_,rfl}:=jR n;let{a,p,q,b,s}:=fJ o;let{y,es,rfl}:=se s;let{h0,a}:=aD a;cases q8 a;let{g1,g2}:=k.gl p;let{m,kk,ps,t,u,v}:=k.fns j _ _<|q8 q;refine PE.imp (zpw v (k.room h0) u (i.A l X r _ k b) (sf b) g1 g2<|xx Κ Φ b) λz H Q g=>?_
 have w:aJ Κ Φ (.call j x args)=λc=>dO Κ Φ args c>>=λd=>m (d.map (·.2))>>=λr=>.ok (gJ r.2<|jB r.1,r.2):=by
  funext c
  show(dO Κ Φ args c>>=λd=>match Φ[j]? with|some m=>m (d.map (·.2))>>=λr=>.ok (gJ r.2<|jB r.1,r.2)|none=>.no)=_;rw[t]
 rw[w]at g;exact g) rfl
theorem Ds (m:Sd Κ Φ args):Sd Κ Φ (.bi f args):=Sd.x (λn X r e k h=>by
 let{{x,o},p,q}:=aL h;let{_,_,rfl}:=jR p;let{a,s,j,b,t}:=fJ q;let{y,o,rfl}:=se t;have a:=q8 a;let{c,g2,d,g}:=k.blt s;let{j,l}:=aD j;have hf:=cj.mp j;have i:=m.A n X r _ k b;simp at hf;rcases hf with rfl|rfl|rfl|rfl
 .exact d_cB Hz g2 (by rw[a];decide+kernel) i (sf b) c g d
 .exact d_cB (Pf<|k.calm<|Dk l rfl) g2 (by rw[a];decide+kernel) i (sf b) c g d
 .exact zrw Ql g2 (by rw[a];decide+kernel) i (sf b) c g d
 .exact zrw Qn g2 (by rw[a];decide+kernel) i (sf b) c g d) rfl
theorem RA (m:Sd Κ Φ a):Sd Κ Φ (.pI f a):=Sd.x (λn X r e k h=>by
 let{{x,A},o,p}:=aL h;let{_,_,rfl}:=jR o;let{q,s,b,t}:=bN p;let{y,u,v}:=aL t;let{w,z}:=aD v;cases fX u;have d:=q8 q;let{g,g2,i,j}:=k.blt s;let{a,rfl,l}:=m.G n X r _ k z;have k7:=cX w;let{b,c}:=aD b;have hf:=cj.mp b;simp only[wO,ak,gz,or_false]at hf;rcases hf with rfl|rfl
 .exact zsr Qj g2 (by rw[d];decide+kernel) k7 l g j i
 .exact zqd (Qk<|k.calm c) g2 (by rw[d];decide+kernel) k7 l g j i) rfl
theorem RB (c:Sd Κ Φ a):Sd Κ Φ (.eI a ts):=Sd.x (λd X r e k h=>by let{{x,es},f,g}:=aL h;let{_,_,rfl}:=jR f;let{i,j,l}:=aV g;let{{y,t},m,n}:=aL l;let{o,p,q}:=aV n;let{T,s,u}:=aL q;cases zS m;cases fX s;cases q8 i;let{g1,g2,g3,C}:=k.blt j;let{D,F,rfl,rfl,v,b}:=Q3 u;let{w,z,A,B}:=k.blt v;exact zxj g2 g1 z (Q4 b) w B A b (cX o)<|c.E d X r _ k p) rfl
theorem Dt (f:Sd Κ Φ a)(g:Sd Κ Φ args):Sd Κ Φ (.mt m a args):=Sd.x (λc X r e k h=>by
 let{{x,n,i,b},j,l}:=aL h;let{z,B,rfl,o}:=fK j;let{h0,p,d,q}:=bN l;let{s,t,u,v,w}:=fJ h0;let{y,i,rfl}:=se q;cases q8 s;have hm:=cj.mp t;simp at hm;rcases hm with rfl
 .exact d_mt PySem.F.plainAttrs_str PySem.F.slot_str_join PySem.F.type_str_join PD (λ_ _ _ _ _ _ r e=>PF r e) (f.E c X r _ k p) (g.A c X r _ k d) u (sf d) (qw w) (o.symm.trans v)) rfl
def RC (ic:Sd Κ Φ c)(k:Cok Γ Κ Φ X n)(h:wM (wN c) (λt=>fH Γ c t) ifs=J):rS X ifs (eA X.K<|dP Κ Φ c):=by
 cases ifs with
 |nil=>
  have:c=.nil:=by ext c<;>first|exact ff rfl h|rfl
  subst this;refine λpins s σ H Q I q=>N8 pins s σ H Q I ?_;let{ρ,F,b,so,e,q}:=q;ext e;exact q H (Same.refl H)
 |cons t r=>let{h1,h2}:=aD h;cases fR h1;exact N9 (ic.T Γ X n t k h2).1
def sC {c:C}(w:Sd Κ Φ it)(y:Sd Κ Φ c)(z:Sd Κ Φ f)(k:Cok l Κ Φ X r)(h:chkE l (.comp p A j q it c f) e=J):
  ∃el t i d a pos,e=.ListComp el [{(t),i,d,0}] a pos/\BlkScope X a j p A/\(∀i∈tgIx q,i<p)/\PI X t i (tDW X.K<|evW Κ Φ it)/\(∀C b s H,PG (blk X a j C b s H) t<|tDG X.K q)/\(∀C b s H,rS (blk X a j C b s H) d<|eA X.K<|dP Κ Φ c)/\(∀C b s H,PE (blk X a j C b s H) el<|tD X.K<|aJ Κ Φ f)/\(∀x,fh i X.env x=pure x)/\l.cm=true:=by
 let{{el,O,a},B,g}:=aL h;let{pos,rfl}:=Di B;let{{t,i,d,kk},D,g}:=aL g;cases fX D;let{h0,u,F,G,g}:=fJ g;let{m,I,ZK,L,M}:=fJ h0;let{n,m}:=aD m;cases q8 m;have v:=N5 k.hN k.hs ZK;have o:=λC b s H=>k.blk v.kind (qw M) C b s H;exact{el,t,i,d,a,pos,rfl,v,λi N=>qw<|(bc.mp I) i N,w.W l X r _ t k (aD u).2 F,λC b s H=>xw (o C b s H) (aD u).1,λC b s H=>RC y (o C b s H) G,λC b s H=>z.E _ _ r _ (o C b s H) g,zT L _,n}
theorem RD {cond:C}(ii:Sd Κ Φ it)(ic:Sd Κ Φ cond)(ie:Sd Κ Φ elt):Sd Κ Φ (.comp nt js N' tg it cond elt):=Sd.x (λΓ X r e k h=>by let{el,t,i,ifs,scope,pos,rfl,hB,h2,hi,hg,ht,he,hs,RE}:=sC ii ic ie k h;exact(ze8 (k.calm RE) hB h2 hi hg ht he hs).1) rfl
theorem RF (c:Sd Κ Φ a):Sd Κ Φ (.uQ a):=Sd.x (λd X r e k h=>by let{{x,n,q,b},f,g}:=aL h;let{s,t,rfl,i}:=fK f;let{h0,j,l}:=aV g;let{m,o,p}:=aV h0;cases fR j;cases q8 m;exact zu6 (c.E d X r _ k l) o<|i.symm.trans p) rfl
theorem RG (c:Sd Κ Φ a):Sd Κ Φ (.dig a):=Sd.x (λΓ X r e k h=>by let{{x,n,es,b},d,f}:=aL h;let{p,q,rfl,g}:=fK d;let{h0,i,j}:=aV f;let{l,m,o}:=aV h0;cases fR i;cases q8 l;exact zx4 (c.E Γ X r _ k j) m<|g.symm.trans o) rfl
theorem RH (c:Sd Κ Φ a)(d:Sd Κ Φ b):Sd Κ Φ (.lP a b):=Sd.x (λΓ X r e k h=>by let{{x,n,es,v},f,g}:=aL h;let{w,z,rfl,i}:=fK f;let{h0,j,l}:=aV g;let{m,o,p}:=aV h0;let{y,q,s}:=aL l;cases fX q;let{t,u}:=aD s;cases q8 m;exact zx7 (c.E Γ X r _ k j) (d.E Γ X r _ k u) o (cX t)<|i.symm.trans p) rfl
theorem RI {b:Bool}:Sd Κ Φ (.hD b x):=Sd.x (λP X r e k h=>by let{{f,es},j,l}:=aL h;let{_,_,rfl}:=jR j;let{m,o,p}:=aV l;let{{Q,R},q,s}:=aL p;cases zS q;let{{n,c},t,w}:=aL s;let{d,g}:=aD w;let{S,T,hn,d}:=gS d;let{C,ZL,y,g}:=gS g;ext hn;ext y;let{a1,a2,a3,a4}:=bN d;let{z,B,D}:=aV g;cases q8 m;cases q8 a1;cases q8 z;let{g1,g2,g3,V}:=k.blt o;let{E,F}:=k.gl B;let{a,W,ZM,G,H,I,i}:=k.xc n c t;let{A,v,u,ZK,xa,K,L,M,N,O}:=k.xk.sub c x b D;rw[ZK]at i;ext i;exact zuf g2 g1 G (k.hs▸q8 a2) (cX a3) H I E O M N F xa K L) rfl
theorem RJ:Sd Κ Φ .nil where
 E:=λ_ _ _ _ _ h=>ff rfl h
 T:=λ_ _ _ _ _ h=>ff rfl h
 Q:=λ_ _ _ _ _ _ _ _ h=>ff rfl h
 A:=λa X r b k h=>by cases fR h;exact Hv
 O:=λa X r e k h=>by cases eu.mp h;exact kC
 W:=λ_ _ _ _ _ _ _ h=>ff rfl h
 G:=λ_ _ _ _ _ h=>ff rfl h
theorem RK (d:Sd Κ Φ a)(f:Sd Κ Φ b):Sd Κ Φ (.cons a b) where
 E:=λ_ _ _ _ _ h=>ff rfl h
 T:=λ_ _ _ _ _ h=>ff rfl h
 Q:=λ_ _ _ _ _ _ _ _ h=>ff rfl h
 A:=λc X r es k h=>by
  cases es with
  |nil=>ext h
  |cons e es=>let{g,i,j}:=aV h;exact CG (cX g) (d.E c X r _ k i) (f.A c X r _ k j)
 O:=λ_ _ _ _ _ h=>ff rfl h
 W:=λ_ _ _ _ _ _ _ h=>ff rfl h
 G:=λ_ _ _ _ _ h=>ff rfl h
theorem RL (f:Sd Κ Φ a):Sd Κ Φ (.gM a) where
 E:=λ_ _ _ _ _ h=>ff rfl h
 T:=λ_ _ _ _ _ h=>ff rfl h
 Q:=λ_ _ _ _ _ _ _ _ h=>ff rfl h
 A:=λ_ _ _ _ _ h=>ff rfl h
 O:=λ_ _ _ _ _ h=>ff rfl h
 W:=λg X r e q k _ h=>by
  let{{x,d},i,j}:=aL h;let{_,_,rfl}:=jR i;let{l,m,b,c}:=bN j;let{c,n}:=aD c;cases q8 l;let{o,p,s,t}:=k.blt m;rcases d with _|⟨x,_|⟨y,d⟩⟩
  .cases c
  .exact Po p o (cX<|(bc.mp<|sf b) x<|.head _) (f.A g X r _ k b) (xx Κ Φ b)
  .exact absurd (qw n) (Nat.not_le.mpr<|Nat.succ_lt_succ<|Nat.succ_pos _)
 G:=λ_ _ _ _ _ h=>ff rfl h
def IK (h:isTup e=J):∃a b c,e=.Tuple a b c:=by ext e<;>first|exact ff rfl h|exact⟨_,_,_,rfl⟩
def IL (h:kB Γ (.enum a) e=J):∃y q p,e=.Call (.Name "enumerate" q) [y] [] p/\dW Γ "enumerate"=J/\isStar y=Z6/\chkE Γ a y=true:=by let{{x,es},hv,h9}:=aL h;let{q,p,rfl}:=jR hv;let{h1,h2,h3}:=aV h9;let{y,hy,h3}:=aL h3;cases fX hy;cases q8 h1;exact{y,q,p,rfl,h2,cX (aD h3).1,(aD h3).2}
def IM (h:kB Γ (.zip a b) e=J):∃y z q p,e=.Call (.Name "zip" q) [y,z] [] p/\dW Γ "zip"=J/\isStar y=Z6/\isStar z=Z6/\chkE Γ a y=J/\chkE Γ b z=true:=by let{{x,es},f,g}:=aL h;let{q,p,rfl}:=jR f;let{i,j,c}:=aV g;let{{y,z},k,c}:=aL c;cases zS k;cases q8 i;let{d,l,m}:=aV c;exact{y,z,q,p,rfl,j,cX (aD d).1,cX (aD d).2,l,m}
theorem RO (b:Sd Κ Φ a):Sd Κ Φ (.enum a) where
 E:=λ_ _ _ _ _ h=>ff rfl h
 T:=λ_ _ _ _ _ h=>ff rfl h
 Q:=λ_ _ _ _ _ _ _ _ h=>ff rfl h
 A:=λ_ _ _ _ _ h=>ff rfl h
 O:=λ_ _ _ _ _ h=>ff rfl h
 W:=λc X r e j k d h=>by let{y,q,p,rfl,f,g,i}:=IL h;let{_,_,_,rfl}:=IK d;let{g1,g2,g3,l}:=k.blt f;exact QB g2 g1 g (b.E c X r _ k i)
 G:=λ_ _ _ _ _ h=>ff rfl h
theorem RP (d:Sd Κ Φ a)(f:Sd Κ Φ b):Sd Κ Φ (.zip a b) where
 E:=λ_ _ _ _ _ h=>ff rfl h
 T:=λ_ _ _ _ _ h=>ff rfl h
 Q:=λ_ _ _ _ _ _ _ _ h=>ff rfl h
 A:=λ_ _ _ _ _ h=>ff rfl h
 O:=λ_ _ _ _ _ h=>ff rfl h
 W:=λc X r e s k ht h=>by let{y,z,q,p,rfl,g,i,j,l,m}:=IM h;let{n,o,t,u}:=k.blt g;exact QA ht o n i j (d.E c X r _ k l) (f.E c X r _ k m)
 G:=λ_ _ _ _ _ h=>ff rfl h
def all (c:C):Sd Κ Φ c:=by
 induction c with
 |var=>exact Ra
 |non=>exact Rb
 |bl=>exact Dl
 |int=>exact Rc
 |str=>exact Rf
 |glob=>exact Rh
 |bin _ _ _ a b=>exact Ri a b
 |neg _ a=>exact Rj a
 |cmp _ _ _ a b=>exact Rk a b
 |chain _ _ _ _ _ a b d=>exact Rl a b d
 |nW _ _ a=>exact Rm a
 |and _ _ a b=>exact Rn a b
 |or _ _ a b=>exact Dm a b
 |not _ a=>exact Rq a
 |tup _ a=>exact Rt a
 |lst _ a=>exact Ru a
 |iB=>exact Rv
 |ix _ _ a b=>exact Dq a b
 |sl _ _ _ a b d=>exact Dr a b d
 |call _ _ _ a=>exact Ry a
 |bi _ _ a=>exact Ds a
 |pI _ _ a=>exact RA a
 |eI _ _ a=>exact RB a
 |mt _ _ _ a b=>exact Dt a b
 |comp _ _ _ _ _ _ _ a b d=>exact RD a b d
 |uQ _ a=>exact RF a
 |dig _ a=>exact RG a
 |lP _ _ a b=>exact RH a b
 |gM _ a=>exact RL a
 |enum _ a=>exact RO a
 |zip _ _ a b=>exact RP a b
 |tv _ a=>exact Dp a
 |hD=>exact RI
 |nil=>exact RJ
 |cons _ _ a b=>exact RK a b
end
section
variable (Κ:List D)(Φ:List Fn)
theorem zU:jh (.ListComp el a s p) (Y<|.Name t px) n env=pure (env.blockKind==.function&&env.kindOf t==Y .local&&px.line==p.line&& !(s.names.any λ(n,k)=>n==t&&(k==.local||k==.cell))):=rfl
def IP (hn:l' c=Z6)(h:chkE i c (.ListComp el j s p)=J):∃d e f g it a b,c=.comp d e f g it a b:=by ext c<;>first|exact ff rfl h|exact⟨_,_,_,_,_,_,_,rfl⟩|(ext hn;done)
def IQ (h:chkE a c (.SetComp el b s p)=J):False:=by ext c<;>exact ff rfl h
def IS (h:chkE b c (.DictComp el a d s p)=J):False:=by ext c<;>exact ff rfl h
def Du (k:Cok f Κ Φ X r)(F:jC f i x=J)(hn:l' c=Z6)(a:chkE f c v=J):PS X (.Assign [.Name x px] v pos) (tDS X.K λo=>aJ Κ Φ c o>>=λx=>.ok<|.nx<|o.set i<|Y<|z1v x):=by
 let{h,l2,l3}:=k.loc F;have nd:X.N.Nodup:=k.hN▸k.nd;cases hc:mW v with
 |false=>exact zom nd h l2 l3 (rT hc _ _ _) ((all c).E f X r _ k a)
 |true=>
  ext v<;>first|(ext hc;done)|skip
  .rename_i el L s p;cases g:(X.env.blockKind==.function&&X.env.kindOf x==Y .local&&px.line==p.line&& !(s.names.any λ(n,k)=>n==x&&(k==.local||k==.cell)))with
   |false=>exact zom nd h l2 l3 (by rw[zU,g]) ((all c).E f X r _ k a)
   |true=>
    let{M,O,P,R,it,b,j,rfl}:=IP hn a;let{G,t,S,I,l,u,e,w,h0,y,A,B,C,hs,d}:=sC (all it) (all b) (all j) k a;cases e;have ZK:X[!x]=Y .local:=by simp at g;exact g.1.1.2
    exact PS.imp (zah (k.calm d) nd h ZK w y A B C (by rw[zU,g]) hs) λD m H q=>HV (λm H Q z=>(ze8 (pos:=p) (k.calm d) w h0 y A B C hs).2 m H Q z) D m H q
  .exact(IQ a).elim
  .exact(IS a).elim
def RS (k:Cok e Κ Φ X r)(hh:wQ e c t j=J):PI X t j (tDF X.K<|evF Κ Φ c)/\uS j=true:=by
 let{ht,h}:=aD hh;have hw:=(all c).W e X r j t k ht h;cases c with
 |tv a=>
  have f:=PI.Ia (k:=λd=>lW Κ Φ (.tv a) d) (C3<|(all a).E e X r _ k (aD h).2)<|HZ hw;refine{?_,(aD h).1};cases a with
  |var i=>let{x,p,rfl,g}:=gS (aD h).2;let{u,w,A,B}:=k.aU g;exact PI.Ia (Qd u w A B) f
  |_=>exact f
 |enum a=>let{y,q,p,rfl,g,l,m}:=IL h;let{_,_,_,rfl}:=IK ht;let{n,o,C,D}:=k.blt g;exact{QC o n l<|(all a).E e X r _ k m,rfl}
 |zip a b=>
  let{y,z,q,p,rfl,g,l,m,F,G}:=IM h;let{n,o,C,D}:=k.blt g
  have H:evF Κ Φ (.zip a b)=λd=>(aJ Κ Φ a d>>=λx=>aJ Κ Φ b d>>=λy=>Res.ok [x,y])>>=λs=>lV s d:=by
   funext d
   show((aJ Κ Φ a d>>=λx=>(aJ Κ Φ b d>>=λy=>Res.ok [y])>>=λI=>Res.ok (x::I))>>=λs=>lV s d)=_;cases aJ Κ Φ a d with
   |ok x=>cases aJ Κ Φ b d<;>rfl
   |exc=>rfl
   |no=>rfl
  rw[H];exact{De ht o n l m ((all a).E e X r _ k F)<|(all b).E e X r _ k G,rfl}
 |gM a=>refine{HZ hw,?_};let{v,ZK,_}:=aL h;let{_,_,rfl}:=jR ZK;rfl
 |_=>exact ff rfl h
def RU (h:isTup v=Z6):oj [.Tuple a b c] v env=pure none:=by ext v<;>first|rfl|(ext h;done)
theorem kG (h:rZ s=Y v):∃p,s=.Assign v.1 v.2 p:=cE (q:=λv=>∃p,s=.Assign v.1 v.2 p) h (by ext s<;>first|exact .inl rfl|exact .inr ⟨_,rfl,_,rfl⟩)
theorem qU (h:wR s=Y v):∃p,s=.Expr v p:=cE (q:=λv=>∃p,s=.Expr v p) h (by ext s<;>first|exact .inl rfl|exact .inr ⟨_,rfl,_,rfl⟩)
theorem xE (h:Co s=Y v):∃p,s=.Return v p:=cE (q:=λv=>∃p,s=.Return v p) h (by ext s<;>first|exact .inl rfl|exact .inr ⟨_,rfl,_,rfl⟩)
theorem xF (h:Cp s=Y v):∃p,s=.If v.1 v.2.1 v.2.2 p:=cE (q:=λv=>∃p,s=.If v.1 v.2.1 v.2.2 p) h (by ext s<;>first|exact .inl rfl|exact .inr ⟨_,rfl,_,rfl⟩)
theorem t5 (h:zy s=Y v):∃p,s=.For v.1 v.2.1 v.2.2.1 v.2.2.2 p:=cE (q:=λv=>∃p,s=.For v.1 v.2.1 v.2.2.1 v.2.2.2 p) h (by ext s<;>first|exact .inl rfl|exact .inr ⟨_,rfl,_,rfl⟩)
theorem xG (h:Cq s=Y v):∃p,s=.While v.1 v.2.1 v.2.2 p:=cE (q:=λv=>∃p,s=.While v.1 v.2.1 v.2.2 p) h (by ext s<;>first|exact .inl rfl|exact .inr ⟨_,rfl,_,rfl⟩)
theorem Dv (h:Hh s=Y v):(v=0/\∃p,s=.Pass p)\/(v=1/\∃p,s=.Break p)\/(v=2/\∃p,s=.Continue p):=cE (q:=λv=>(v=0/\∃p,s=.Pass p)\/(v=1/\∃p,s=.Break p)\/(v=2/\∃p,s=.Continue p)) h (by ext s<;>first|exact .inl rfl|exact .inr ⟨_,rfl,.inl ⟨rfl,_,rfl⟩⟩|exact .inr ⟨_,rfl,.inr<|.inl ⟨rfl,_,rfl⟩⟩|exact .inr ⟨_,rfl,.inr<|.inr ⟨rfl,_,rfl⟩⟩)
structure Ss (s:S):Prop where
 R:∀(Γ:Gm) (X:Cx) (r:Nat) (st:Stmt),Cok Γ Κ Φ X r->e9 (model X.prog X.w) X.A X.env X.xe->qL Γ s st=J->PS X st (tDS X.K<|aH Κ Φ s)
 L:∀(Γ:Gm) (X:Cx) (r:Nat) (st:List Stmt),Cok Γ Κ Φ X r->e9 (model X.prog X.w) X.A X.env X.xe->chkL Γ s st=J->PSs X st (tDS X.K<|aH Κ Φ s)
def Dw:S->Bool
 |.nil=>Z6
 |.seq _ _=>Z6
 |_=>J
variable {Κ:List D}{Φ:List Fn}
theorem Ss.x (h:∀Γ X r st,Cok Γ Κ Φ X r->e9 (model X.prog X.w) X.A X.env X.xe->qL Γ s st=J->PS X st (tDS X.K<|aH Κ Φ s))(a:Dw s=J):Ss Κ Φ s:={h,by ext s<;>first|(ext a;done)|exact λ_ _ _ _ _ _ h=>ff rfl h}
theorem RV:Ss Κ Φ (.asg t e):=Ss.x (λd X r st k w h=>by
 let{{z,v},f,g}:=aL h;let{p,rfl}:=kG f;let{x,j,l}:=aL g;cases fX j;let{a,m,n,c}:=bN l;cases t with
 |nm i=>let{y,q,rfl,o}:=gS a;exact Du Κ Φ k o (cX m) c
 |tp is=>let{s,u}:=aD n;let{es,b,_}:=aL (aD a).2;let{_,_,rfl}:=xq b;exact zos (xw k a) ((all e).E d X r _ k c) ((show oh [_] _ _ _=jh _ _ _ _ from rfl).trans<|rT (cX s) _ _ _) (RU<|cX u) rfl) rfl
theorem ztw:Ss Κ Φ (.mut m i args):=Ss.x (λd X r st k F h=>by let{c,e,f}:=aL h;let{p,rfl}:=qU e;let{{x,n,es,b},hm,g}:=aL f;let{G,H,rfl,j}:=fK hm;let{h0,l,a}:=aV g;let{o,s,t,u,v}:=fJ h0;let{z,q,rfl,w}:=gS o;let{y,es,rfl}:=se l;cases q8 s;have hm:=cj.mp t;simp at hm;let{B,C,D,E}:=k.aU w;subst hm;exact zhe B C D E ((all args).A d X r _ k a) (sf a) (qw v)<|j.symm.trans u) rfl
theorem RW:Ss Κ Φ (.ret e):=Ss.x (λb X r st k s h=>by
 let{o,c,d}:=aL h;let{p,rfl}:=xE c;let{v,rfl,a}:=aL d;have g:=(all e).E b X r _ k a;cases e with
 |var i=>let{x,q,rfl,f}:=gS a;let{j,l,m,n}:=k.aU f;exact z7s j l m n
 |_=>exact P9 g) rfl
theorem Dx (f:Ss Κ Φ a)(g:Ss Κ Φ b):Ss Κ Φ (.bW c a b):=Ss.x (λd X r st k e h=>by let{v,i,j}:=aL h;let{p,rfl}:=xF i;let{l,m,n}:=aV j;exact CS ((all c).T d X r _ k l).1 (f.L d X r _ k e m)<|g.L d X r _ k e n) rfl
theorem RX (d:Ss Κ Φ b):Ss Κ Φ (.cV t it b):=Ss.x (λe X r st k c h=>by let{a,h}:=aD h;let{{t,i,B,o},f,g}:=aL h;let{p,rfl}:=t5 f;let{j,l,m,n}:=bN g;cases fR n;let{hf,hn}:=RS Κ Φ k l;exact zv5 c (k.calm a) hf (xw k j) (d.L e X r _ k c m)<|zT hn _) rfl
theorem oP (e:Ss Κ Φ b):Ss Κ Φ (.wh n c b):=Ss.x (λa X r st k d h=>by let{{t,B,o},f,g}:=aL h;let{p,rfl}:=xG f;let{i,j,l}:=aV g;cases fR l;exact Qi d ((all c).T a X r _ k i).1<|e.L a X r _ k d j) rfl
def xH (h:tT (hG f) e=J):∃x p a c,e=.Call (.Attribute (.Name x p) "pop" a) [] [] c/\f x=J/\(a.endLine==c.line)=true:=by let{{o,n,es,b},hm,g}:=aL h;let{a,c,rfl,i}:=fK hm;let{d,j,k,l}:=bN g;let{x,p,rfl,d}:=gS d;cases q8 j;cases fR k;exact{x,p,a,c,rfl,d,i.symm.trans l}
def zti (hN:X.N.Nodup)(ZK:X.N[i]?=Y x)(P:Loc X.env.scope x)(hf:X.fn x=J\/X[!x]=Y .local)(Q:Vis X.env.scope x)(hd:Xf x)(u:(x==("__classdict__":U))=Z6)
  (R:Cal X.prog X.w X.K X.mg X.base k f ps<|spD X.K 1 m) (hr:Room k' X.A) (hk:k<=k') (S:Gl X f) (y:Xf f):
  PS X (.Assign [.Name x px] (.Call (.Name f p) [.Name x p2] [] cp) pos) (tDS X.K<|qJ i m):=by
 refine PS.imp (za8 hN ZK P (z9y R hr (v5 (pF ZK Q hd u) kR) rfl hk S y) (rT rfl _ _ _) hf) λD σ H T=>?_;let{ρ,F,ZL,so,e,q}:=T;unfold qJ at e;split at e
 case h_2=>ext e
 rename_i L z;split at e
 case isFalse=>ext e
 rename_i B;split at e
 case h_2=>ext e
 rename_i g c V;split at e
 case isFalse=>ext e
 rename_i d;ext e;let{l,M,W,h}:=zJ so z;rcases h with⟨ZM,ds,C,e4,r⟩|⟨_,_,C,_⟩
 case inr=>ext C
 ext C;refine{.ref l,M,λa=>a=Y l,[.list L],(g,.list c),rfl,{.ref l,[],rfl,{l,ZM,rfl,.inl {(e4),rfl},Reps.bS L B r},rfl},V,λv H' E rv=>?_};have I:Rep X.K H' (λa=>nw H a\/a=Y l) v (.list c):=rv.weak λa h=>by ext g<;>first|exact h|exact .inl h
 let{a',n,rfl,t,rs}:=I;rcases t with⟨t,hn|hn⟩|⟨_,hn|hn⟩
 .let{F',o,ru,fm}:=so.setA (x:=(.fr,.list c)) E {a',n,rfl,.inl {(t),hn},Reps.bS c d rs};have e5:z1v (G.fr,ZW c)=(.fr,.list c):=by show((if imms c=J then G.fr else G.nu),ZW c)=_;rw[qq d]
  rw[e5]at o;exact q _ _ F' o ru fm
 .cases hn;have b:=so.same E;refine q _ _ F {b.ext,b.aU,b.own,by rw[cw,cw];exact b.len,λj g' d' e=>?_} Run.refl<|cK.same E;by_cases O:i=j
  .subst O;let{s,_}:=az.mp M;rw[ce<|so.len▸s]at e;ext e;exact{.ref l,ce s,l,rfl,W,.inl {n,c,rfl,t,Reps.bS c d rs}}
  .rw[bw O]at e ⊢;exact b.sl j g' d' e
 .exact hn.elim
 .cases hn
theorem RY:Ss Κ Φ (.uR j i):=Ss.x (λT X r st k ZL h=>by let{h0,h}:=aD h;let{{V,v},c,d}:=aL h;let{p,rfl}:=kG c;let{x,g,l}:=aL d;cases fX g;let{n,o}:=aD l;let{y,q,rfl,s}:=gS n;let{l1,l2,t}:=k.loc s;let{{f,W},u,w}:=aL o;let{_,_,rfl}:=jR u;let{A,g2,B}:=aV w;let{z,C,E}:=aL B;cases fX C;let{G,ZM,rfl,I}:=gS E;let{ZK,K,L,M}:=k.aU I;have:G=y:=qt<|ZK.symm.trans l1;subst this;let{N,O}:=k.gl A;let{m,kk,ps,P,Q,R}:=k.fns j _ _<|q8 g2;refine PS.imp (zti (k.hN▸k.nd) l1 l2 t K L M R (k.room h0) Q N O) λD Z H S=>?_;let{b,F,a,so,e,q}:=S;have e:(match Φ[j]? with|some m=>qJ i m b|none=>.no)=.ok a:=e;rw[P]at e;exact{(b),F,a,so,e,q}) rfl
theorem RZ:Ss Κ Φ (.pop j i):=Ss.x (λΓ X r st k w h=>by let{{A,v},a,b}:=aL h;let{p,rfl}:=kG a;let{x,c,d}:=aL b;cases fX c;let{e,f}:=aD d;let{y,q,rfl,g}:=gS e;let{l1,l2,l}:=k.loc g;let{z,B,C,D,rfl,m,n}:=xH f;let{o,s,t,u}:=k.aU m;exact s_pop (k.hN▸k.nd) l1 l2 l o s t u n) rfl
theorem R0:Ss Κ Φ (.pap i a c):=Ss.x (λΓ X r st k ZL h=>by
 let{e,o,s}:=aL h;let{p,rfl}:=qU o;let{{x,n,es,b},hm,u}:=aL s;let{V,W,rfl,v}:=fK hm;let{h0,w}:=aD u;let{B,C,D}:=aV h0;let{z,q,rfl,k1}:=gS B;cases q8 C;let{t,F,G}:=aL w;cases fX F;let{l,H,d}:=aL G;let{_,_,rfl}:=xq H;rcases l with _|⟨ZM,_|⟨Z,l⟩⟩
 .cases d
 .cases d
 .let{I,g2,ZK}:=aV d;let{K,L}:=aD I;let{M,j}:=aD ZK;let{y,pz,N,O,rfl,f,g}:=xH g2;let{m,P,Q,R}:=k.aU k1;let{S,w2,w3,w4}:=k.aU f;have:y=z:=qt<|S.symm.trans m;subst this;exact zuy m P Q R (cX K) ((all a).E Γ X r _ k L) ((all c).A Γ X r _ k j) (λρ T e=>by rw[xx Κ Φ j ρ T e];exact qw M) (v.symm.trans D) g) rfl
theorem Cok.fE (k:Cok b Κ Φ X r)(E:Value->aq->Prop):Cok b Κ Φ (X.fE E) r:={k.hN,k.hs,k.nd,k.fn,k.kind,k.free,k.fns,k.cst,k.lB,k.room,k.calm,k.hu,k.mF,k.xv,λn c z=>by let{a,d,C,e,f,g,h}:=k.xc n c z;exact{a,d,C,e,λp i H s I=>f p i H s I.cU,g,h},k.xk}
def Cok.kF {C:Addr}(k:Cok b Κ Φ X r)(nd:(b.N.set i "").Nodup)(hc:d.cls=.ref C)(hm:X.mg c=Y (.ref C)):Cok {b with N:=b.N.set i "",cm:=Z6,xc:=Y (n,c),fns:=[]} Κ Φ (Mi.kF X i n a d) r where
 hN:=by show X.N.set i ""=b.N.set i "";rw[k.hN]
 hs:=k.hs
 nd:=nd
 fn:=k.fn
 kind:=k.kind
 free:=k.free
 fns:=λj f n e=>by simp at e
 cst:=k.cst
 lB:=λj f n e=>by simp at e
 room:=λz=>by ext z
 calm:=λz=>by ext z
 hu:=k.hu
 mF:=k.mF
 xv:=λz=>by ext z
 xc:=λg h z=>by ext z;exact{a,d,C,rfl,λ_ _ _ _ I=>(I.pin (a,d)<|cq _ ar).1,hc,hm}
 xk:={k.xk.sub,(k.xk.rs),k.xk.gH}
def Dy (e:Cs h=Y v):∃a b,h=.ExceptHandler (Y<|.Name v.1 a) (Y v.2.1) v.2.2 b:=by
 unfold Cs at e;split at e
 .cases e;exact{_,_,rfl}
 .cases e
def Dz (e:Cr s=Y v):∃a b pos,s=.Raise (Y<|.Call (.Name v.1 a) v.2 [] b) Z8 pos:=by
 unfold Cr at e;split at e
 .let{q,p,rfl}:=jR e;exact{_,_,_,rfl}
 .cases e
def IT (s:S):Ss Κ Φ s:=by
 induction s with
 |nil=>exact{λ_ _ _ _ _ _ h=>ff rfl h,λd X r st k f h=>by cases fR h;exact P5}
 |seq a b g c=>
  refine{λ_ _ _ _ _ _ h=>ff rfl h,λd X r st k f h=>?_};cases st with
  |nil=>ext h
  |cons s st=>exact P6 (g.R d X r _ k f (aD h).1) (c.L d X r _ k f (aD h).2)
 |bad=>
  refine Ss.x (λd X r st k f h=>?_) rfl
  rintro i s l H D I ⟨m,F,j,so,e,_⟩
  ext e
 |cnt=>
  refine Ss.x (λd X r st k f h=>?_) rfl;rcases Dv (qw h)with⟨z,_⟩|⟨z,_⟩|⟨_,p,rfl⟩
  .cases z
  .cases z
  .exact P7
 |asg=>exact RV
 |pop=>exact RZ
 |uR=>exact RY
 |pap=>exact R0
 | «mut»=>exact ztw
 |ret=>exact RW
 |bW _ _ _ g c=>exact Dx g c
 |cV _ _ _ c=>exact RX c
 |wh _ _ _ c=>exact oP c
theorem sL (Κ:List D)(Φ:List Fn)(s:S):∀a X r st,Cok a Κ Φ X r->e9 (model X.prog X.w) X.A X.env X.xe->chkL a s st=J->PSs X st (tDS X.K<|aH Κ Φ s):=(IT s).L
end
section
variable (Κ:List D)(Φ:List Fn)
variable {Κ Φ}
end
section
variable {P:b9}{w:World}{K:Z5}{mg:U->Option Value}{base:Heap}
structure Dok (Γ:Gm)(Κ:List D)(Φ:List Fn)(P:b9)(w:World)(K:Z5)(mg:U->Option Value)(base:Heap)(k:Nat):Prop where
 free:∀x,Γ.free.contains x=J->mg x=Z8
 fns:∀(j:Nat) f n,Γ.fns[j]?=Y (f,n)->∃m k' ps,Φ[j]?=Y m/\k'<=k/\Cal P w K mg base k' f ps (spD K n m)
 cst:∀(j:Nat) x,Γ.cst[j]?=Y x->∃d a,Κ[j]?=Y d/\mg x=Y (.ref a)/\∀H B,B Z8->Rep K H B (.ref a) d
 lB:∀(j:Nat) f n,Γ.fns[j]?=Y (f,n)->∃m k' ps,Φ[j]?=Y m/\k'<=k/\kE P w K mg base k' f ps n m
 xk:vd Γ K mg
theorem R1 (r:Reps K H A f b):StOk K {H,λa=>H a=Z8\/A (Y a),λ_=>Z8,A Z8} H (f.map Y++bq (n-f.length) Z8) (b.map (λd=>Y (.od,d))++bq (n-b.length) Z8) where
 ext:=Same.refl H
 aU:=λa e=>.inl e
 own:=λa i e=>by ext e
 len:=by have:=r.length;simp;omega
 sl:=λi g d e=>by
  rw[ko]at e;split at e
  .rename_i j;rw[bv]at e;cases c:b[i]? with
   |none=>rw[c]at e;ext e
   |some m=>
    rw[c]at e;ext e;let{v,k,l}:=Reps.get r c;refine{v,?_,?_}
    .rw[ko,qq (by rw[am,r.length];rw[am]at j;exact j),bv,k];rfl
    .refine(Rep.there _ l).weak λa h=>?_;cases a with
     |none=>exact h.1
     |some a=>exact{λz=>h.2 z,.inr h.1}
  .rw[cu]at e;split at e<;>ext e
def d_fn {st:Stmt}(y:Fun K x x st f fd)(i:FnScope Γ.N ps<|z0c st)(hs:Γ.sc=z0c st)(M:Γ.blk=Z6)(j:Γ.xc=Z8)(c:Dok Γ Κ Φ P w K mg base k)(hc:chkL Γ s (z0m st)=J):
  FnOk P w K mg base pH (k+1) f fd ps (spD K ps.length<|aZ Κ Φ Γ.N.length s):=by
 refine y.ok i (λC H Q E h=>h.choose_spec.choose_spec.choose_spec.1) λl A outer D H C Q E hr m=>?_;let{B,u,r,O,rs,e,q}:=m;refine{_,sL Κ Φ s Γ (jA pH P w K mg base Γ.N x (z0c st) f l A outer D H E).vR k _ {rfl,hs.symm,i.nd,λ_ _=>rfl,by rw[hs];exact i.kind,c.free,c.fns,c.cst,c.lB,λ_=>hr,λ_=>rfl,hr.units,λ_=>{(rfl),rfl},λ_=>rfl,λ_ _ z=>(by rw[j]at z;ext z),c.xk} PassesOwn.never hc,?_};unfold aZ at e;have so:=R1 (n:=Γ.N.length) rs;generalize b:aH Κ Φ s (u.map (λd=>Y (.od,d))++bq (Γ.N.length-u.length) Z8)=p at e
 match p,b,e with
 |.ok (.nx F),b,e=>ext e;refine{_,_,_,so,b,λG t R I S fr=>q .non t (λa o e=>(fr a o e rfl).1) rfl}
 |.ok (.rt g d),b,e=>
  ext e;refine{_,_,_,so,b,λv t ZK L=>q v t ZK<|L.weak λa h=>?_};cases g with
  |fr=>ext a<;>exact h
  |nu=>ext a<;>exact h
  |od=>cases a with
   |none=>exact .inr h
   |some a=>exact h.elim .inl λz=>.inr z
  |al=>cases a with
   |none=>exact .inr h
   |some a=>exact h.elim .inl λz=>.inr z
 |.exc _,b,e=>ext e
 |.no,b,e=>ext e
def zsi {st:Stmt}(g:Fun K x x st f fd)(i:FnScope a.N ps<|z0c st)(hs:a.sc=z0c st)(r:a.blk=Z6)(j:a.xc=Z8)(t:Dok a Κ Φ P w K mg base k)(hc:chkL a s (z0m st)=J):
  FnOk P w K mg base (CXE P w base) (k+1) f fd ps (IA K mg ps.length<|aZ Κ Φ a.N.length s):=by
 let{oc,od,kV,l,u,an,m,ct,n,rfl,o,b}:=g.ex;refine zm8 o b i (λp H Q E h=>h.choose_spec.choose_spec.choose_spec.1) λA outer v H p Q E hr d=>?_;let{B,y,c,z,rs,e,q}:=d;unfold aZ at e;split at e<;>ext e
def R3 {ns:List Int}(h:SqL K H a<|ns.map V.int):Reps K H (λ_=>True) [.ref a] [.list<|ns.map .int]:=by
 refine{_,_,rfl,{a,ns.map V.int,rfl,?_,?_},rfl}
 .rcases h with(h|h)|h
  .exact .inl {(h),trivial}
  .exact .inr {.inl h,trivial}
  .exact .inr {.inr h,trivial}
 .clear h
  induction ns with
  |nil=>rfl
  |cons n ns b=>exact{_,_,rfl,rfl,b}
end
structure Gd where
 kf:Nat
 args:C
 c:U
 i:Nat
 j:Nat
 g:U
 r:Bool
structure XR where
 c:U
 cs:List (U×Bool)
 B:U
def XR.subs (r:XR):List (U×U×Bool):=(r.c,"ValueError",J)::r.cs.map λy=>(r.c,y.1,y.2)
def DA (K:Z5)(A:Addr):List (U×Bool)->Prop
 | []=>True
 |y::l=>(∃D dd cd sl,Z0 K bh y.1=Y (Y<|.ref D)/\K.lookup D=Y {.type "type",dd,.cls cd,sl}/\ZZ K (.ref A) (.ref D)=Y y.2)/\DA K A l
structure Kx (K:Z5)(r:XR)(A D:Addr):Prop where
 a:Z0 K bh r.c=Y (Y<|.ref A)
 l:∃dd cd sl,K.lookup A=Y {.type "type",dd,.cls cd,sl}
 e:W.excIn K A [.type "ValueError",.type "Exception",.type "BaseException",.type "object"] "ValueError.__new__"=J
 cl:Z4 K (.ref A) "__class__"=Y (Y<|.builtin "object.__class__")
 ga:Z4 K (.ref A) "__getattribute__"=Y (Y<|.builtin "BaseException.__getattribute__")
 gt:Z4 K (.ref A) "__getattr__"=Y Z8
 ob:ZZ K (.ref A) (.type "object")=Y J
 be:ZZ K (.ref A) (.type "BaseException")=Y J
 v:ZZ K (.ref A) (.type "ValueError")=Y J
 b:Z0 K bh r.B=Y (Y<|.ref D)
 f:W.excIn K D [.type "ValueError",.type "Exception",.type "BaseException",.type "object"] "ValueError.__new__"=J
 s:ZZ K (.ref A) (.ref D)=Y J
 cs:DA K A r.cs
def DB (K:Z5):List XR->Prop
 | []=>True
 |r::l=>(∃A D,Kx K r A D)/\DB K l
inductive Kd where
 |n
 |e (c:U) (r:Bool)
 |g (d:Gd) (je:Nat)
structure aM where
 nm:U
 st:Stmt
 N:List U
 ps:List U
 free:List U
 fns:List Nat
 s:S
 F:Fn
 kd:Kd
 kc:List (U×List U):=[]
def cD (y:U×List U):D:=.tuple (y.2.map .str)
def sig (Rs:List aM)(j:Nat):U×Nat:=match Rs[j]? with
 |some c=>(c.nm,c.ps.length)
 |none=>("",0)
def fnAt (Rs:List aM)(j:Nat):Fn:=match Rs[j]? with
 |some c=>c.F
 |none=>λ_=>.no
def aM.G (Rs:List aM)(xt:List XR)(r:aM):Gm:={N:=r.N,sc:=z0c r.st,free:=r.free,fns:=r.fns.map<|sig Rs,cst:=r.kc.map (·.1),sub:=(xt.map XR.subs).flatten,rs:=xt.map (·.c),gH:=xt.map λr=>(r.c,r.B)}
def Kd.hD:Kd->Bool
 |.e _ _=>J
 |_=>Z6
def nE (Rs:List aM)(j:Nat):Bool:=match Rs[j]? with
 |some c=>!c.kd.hD
 |none=>J
def aM.part (Rs:List aM)(xt:List XR)(i:Nat)(r:aM):Bool:=match r.kd with
 |.n=>chkL (r.G Rs xt) r.s (z0m r.st)
 |.e _ _=>Z6
 |.g _ _=>Z6
def aM.ok (Rs:List aM)(xt:List XR)(fr:List U)(i:Nat)(r:aM):Bool:=
 (decide ((z0c r.st).kind=.function)&& !(z0c r.st).isCoroutine&& !(z0c r.st).isGenerator&&decide r.N.Nodup&&decide (r.N.take r.ps.length=r.ps))&&
 (r.ps.all (λx=>(z0c r.st).names.lookup x==Y .local||(z0c r.st).names.lookup x==Y .cell)&&(z0c r.st).names.all (λy=>!(y.2==.free))&&r.free.all (λx=>fr.contains x)&&r.fns.all (λj=>decide (j<i)&&nE Rs j)&&r.part Rs xt i)
def oks (Rs:List aM)(xt:List XR)(fr:List U):Nat->List aM->Bool
 |_,[]=>J
 |i,r::l=>r.ok Rs xt fr i&&oks Rs xt fr (i+1) l
def aM.DC (Rs:List aM)(r:aM):Prop:=match r.kd with
 |.n=>r.F=aZ (r.kc.map cD) (r.fns.map<|fnAt Rs) r.N.length r.s
 |.e _ _=>True
 |.g _ _=>True
def qV (Rs:List aM):List aM->Prop
 | []=>True
 |r::l=>r.DC Rs/\qV Rs l
theorem xJ:∀{l:List aM} {k i:Nat} {r:aM},oks Rs a fr k l=J->l[i]?=Y r->r.ok Rs a fr (k+i)=J
 | [],_,i,_,_,e=>by simp at e
 |r::l,k,0,_,h,e=>by ext e;exact(aD h).1
 |r::l,k,i+1,_,h,e=>by
  have:=xJ (aD h).2 e
  rwa [show k+(i+1)=k+1+i by omega]
theorem IU:∀{l:List aM} {i:Nat} {r:aM},qV a l->l[i]?=Y r->r.DC a
 | [],i,_,_,e=>by simp at e
 |r::l,0,_,h,e=>by ext e;exact h.1
 |r::l,i+1,_,h,e=>IU h.2 e
section
variable {P:b9}{w:World}{K:Z5}{mg:U->Option Value}{base:Heap}{Rs:List aM}{xt:List XR}{fr:List U}
def xK {r:aM}(h:r.ok Rs xt fr i=J):FnScope (r.G Rs xt).N r.ps (z0c r.st)/\(∀x,r.free.contains x=J->fr.contains x=J)/\(∀j∈r.fns,j<i/\nE Rs j=J)/\r.part Rs xt i=true:=by
 let{d,e}:=aD h;let{a1,a2,a3,a4,f}:=fJ d;let{g,k,l,b,m}:=fJ e;refine{{qw a1,cX a2,cX a3,qw a4,qw f,λx a=>?_,λy n z=>?_},λx a=>?_,λj c=>{qw (aD<|bc.mp b j c).1,(aD<|bc.mp b j c).2},m}
 .rcases fq.mp (bc.mp g x a)with q|q
  .exact .inl (q8 q)
  .exact .inr (q8 q)
 .have :=cX<|bc.mp k y n;rw[z]at this;ext this
 .exact bc.mp l x (cj.mp a)
def ve (P:b9)(w:World)(K:Z5)(mg:U->Option Value)(base:Heap)(i:Nat)(r:aM):Prop:=match r.kd with
 |.e _ _=>True
 |_=>Cal P w K mg base (i+1) r.nm r.ps (spD K r.ps.length r.F)/\kE P w K mg base (i+1) r.nm r.ps r.ps.length r.F
def qW (h:ve P w K mg base j c)(e:Rs[j]?=Y c)(n:nE Rs j=J):Cal P w K mg base (j+1) c.nm c.ps (spD K c.ps.length c.F)/\kE P w K mg base (j+1) c.nm c.ps c.ps.length c.F:=by
 unfold nE at n;rw[e]at n;have n:(!c.kd.hD)=true:=n;unfold ve at h;cases a:c.kd with
 |n=>rw[a]at h;exact h
 |g d f=>rw[a]at h;exact h
 |e x b=>rw[a]at n;ext n
def zf9 (K:Z5)(mg:U->Option Value)(y:U×List U):Prop:=∃a,mg y.1=Y (.ref a)/\∀H B,B Z8->Rep K H B (.ref a) (cD y)
theorem DD (hr:Rs[i]?=Y r)(h:r.ok Rs xt fr i=J)(T:∀x∈fr,mg x=Z8)(xk:∀Γ,Γ.sub=(xt.map XR.subs).flatten->Γ.rs=xt.map (·.c)->(Γ.gH=xt.map λr=>(r.c,r.B))->vd Γ K mg)(p:∀y∈r.kc,zf9 K mg y)(m:∀j c,j<i->Rs[j]?=Y c->ve P w K mg base j c):Dok (r.G Rs xt) (r.kc.map cD) (r.fns.map<|fnAt Rs) P w K mg base i where
 free:=λx q=>T x (cj.mp<|(xK h).2.1 x q)
 fns:=λj f n e=>by
  have e:(r.fns.map<|sig Rs)[j]?=Y (f,n):=e;rw[bv]at e;let{b,k,e}:=c7.mp e;let{d,g}:=(xK h).2.2.1 b<|dg k;have l:=(az.mp hr).1;have hc:=bn<|k6 d l;unfold sig at e;rw[hc]at e;cases e;refine{fnAt Rs b,b+1,Rs[b].ps,by rw[bv,k];rfl,d,?_};have:fnAt Rs b=Rs[b].F:=by unfold fnAt;rw[hc]
  rw[this];exact(qW (m b _ d hc) hc g).1
 cst:=λj x e=>by have e:(r.kc.map (·.1))[j]?=Y x:=e;rw[bv]at e;let{y,o,rfl}:=c7.mp e;let{a,s,t}:=p y<|dg o;exact{cD y,a,by rw[bv,o];rfl,s,t}
 lB:=λj f n e=>by
  have e:(r.fns.map<|sig Rs)[j]?=Y (f,n):=e;rw[bv]at e;let{b,k,e}:=c7.mp e;let{d,g}:=(xK h).2.2.1 b<|dg k;have l:=(az.mp hr).1;have hc:=bn<|k6 d l;unfold sig at e;rw[hc]at e;cases e;refine{fnAt Rs b,b+1,Rs[b].ps,by rw[bv,k];rfl,d,?_};have:fnAt Rs b=Rs[b].F:=by unfold fnAt;rw[hc]
  rw[this];exact(qW (m b _ d hc) hc g).2
 xk:=xk _ rfl rfl rfl
def R4 (hok:oks Rs xt fr 0 Rs=J)(s:qV Rs Rs)(T:∀x∈fr,mg x=Z8)(xk:∀Γ,Γ.sub=(xt.map XR.subs).flatten->Γ.rs=xt.map (·.c)->(Γ.gH=xt.map λr=>(r.c,r.B))->vd Γ K mg)(n:Nat)(t:∀r∈Rs,∀y∈r.kc,zf9 K mg y)(O:∀i r,i<n->Rs[i]?=Y r->Own K mg r.nm r.st r.ps):∀i r,i<n->Rs[i]?=Y r->ve P w K mg base i r:=by
 intro i
 induction i using Nat.strongRecOn with
 |ind i u=>
  intro r k hr
  have l:r.ok Rs xt fr i=true:=by
   have:=xJ hok hr
   rwa [Nat.zero_add]at this
  have D:=DD hr l T xk (t r<|dg hr)<|λj c o hc=>u j o c (k6 o k) hc;let{p,v,_,a}:=xK l;have hf:=IU s hr;let{f,fd,q,m,kp,b}:=O i r k hr;unfold aM.DC at hf;unfold aM.part at a;unfold ve;cases h:r.kd with
  |n=>rw[h]at hf a;rw[hf];exact{{f,fd,d_fn (Γ:=r.G Rs xt) q p rfl rfl rfl D a,m,kp,b},f,fd,zsi q p rfl rfl rfl D a,m,kp,b}
  |e c z=>rw[h]at a;ext a
  |g d A=>rw[h]at a;ext a
end
def Kf (K:Z5)(r:aM)(f:Addr)(fd:d6):Prop:=Z0 K bh r.nm=Y (Y<|.ref f)/\∃(oc:Value) (od an:Option Addr) (sl:Array<|Option Value) (kV dc pm cd ct:Value),fd=W.fnOf r.nm r.nm (z1d r.st) (z0m r.st) (z0c r.st) .none kV dc pm an cd ct/\K.lookup f=Y {oc,od,.func fd,sl}/\W.codeIn K cd r.nm=J/\Z2 K (.ref f)=J
def DE (r:aM):Prop:=∀(kV doc pm:Value) (an:Option Addr) (qB ct:Value) (us:List Value),us.length=r.ps.length->qh (W.fnOf r.nm r.nm (z1d r.st) (z0m r.st) (z0c r.st) .none kV doc pm an qB ct) {us,[]}=pure (r.ps.zip us)
def qX (h:b.length=n+1):∃a l,b=a::l/\l.length=n:=by
 cases b with
 |nil=>ext h
 |cons a l=>exact{a,l,rfl,Nat.succ.inj h}
def vf {P:List Value->Prop}(h:∀a,P [a])(b:List Value)(z:b.length=1):P b:=by let{a,l,rfl,y}:=qX z;cases dq y;exact h a
def vg {P:List Value->Prop}(h:∀a b,P [a,b])(c:List Value)(z:c.length=2):P c:=by let{a,l,rfl,y}:=qX z;exact vf (P:=λl=>P (a::l)) (h a) l y
def IV {P:List Value->Prop}(h:∀a b c,P [a,b,c])(d:List Value)(z:d.length=3):P d:=by let{a,l,rfl,y}:=qX z;exact vg (P:=λl=>P (a::l)) (h a) l y
def by4 {P:List Value->Prop}(h:∀a b c d,P [a,b,c,d])(e:List Value)(z:e.length=4):P e:=by let{a,l,rfl,y}:=qX z;exact IV (P:=λl=>P (a::l)) (h a) l y
def kOks (K:Z5):List aM->Prop
 | []=>True
 |r::l=>((∃f fd,Kf K r f fd)/\DE r)/\kOks K l
theorem IW {K:Z5}:∀{l:List aM} {i:Nat} {r:aM},kOks K l->l[i]?=Y r->(∃f fd,Kf K r f fd)/\DE r
 | [],i,_,_,e=>by simp at e
 |r::l,0,_,h,e=>by ext e;exact h.1
 |r::l,i+1,_,h,e=>IW h.2 e
def strOf:Value->Option U
 |.str x _=>if ZY x then Y x else Z8
 |_=>Z8
def ck1 (K:Z5)(y:U×List U):Bool:=match Z0 K bh y.1 with
 |some (Y<|.ref a)=>(match K.lookup a with
  |some ⟨.type "tuple",Z8,.seq dV _,_⟩=>decide (dV.toList.map strOf=y.2.map Y)&&decide (y.2.length<=1000)
  |_=>Z6)
 |_=>Z6
theorem IX:∀{us:List Value} {ws:List U},us.map strOf=ws.map Y->Vals (ws.map V.str) us/\∀w∈ws,ZY w=J
 | [],[],_=>{.nil,λ_ h=>by ext h}
 | [],_::_,h=>by ext h
 |_::_,[],h=>by ext h
 |u::us,w::ws,h=>by
  let{c,d}:=List.cons.inj h;let{a,b}:=IX d;cases u with
  |str x t=>
   have c:(if ZY x then Y x else Z8)=Y w:=c;split at c
   .rename_i f;ext c;exact{.cons {(t),rfl} a,λz g=>(ak.mp g).elim (λe=>by rw[e];exact f)<|b z}
   .cases c
  |_=>ext c
theorem IY {K:Z5}:∀{ws:List U},(∀w∈ws,ZY w=J)->Reps K H B (ws.map V.str) (ws.map ZX)
 | [],_=>rfl
 |w::ws,h=>Reps.cons {rfl,h w<|.head _} (IY λz a=>h z<|.tail _ a)
def R5 {K:Z5}(X:K.In h)(G:h.Ns bh mg)(c:ck1 K y=J):zf9 K mg y:=by
 unfold ck1 at c;split at c
 .rename_i a d;split at c
  .rename_i b n sl f;let{g,i}:=aD c;let{v,ok}:=IX<|qw g;have j:b.size<=aw:=by have e:=v.length;rw[am,dv]at e;have:=qw i;rw[cf];omega
   exact{a,W.mg_of X G d,λH B _=>{a,y.2.map V.str,rfl,.inr {_,b,n,f,rfl,rfl,rfl,j,v},IY ok}}
  .cases c
 .cases c
def sj (K:Z5)(r:aM):Option (d6×Bool):=match Z0 K bh r.nm with
 |some (Y<|.ref f)=>(match K.lookup f with
  |some ⟨_,_,.func fd,_⟩=>Y (fd,W.codeIn K fd.code r.nm&&Z2 K (.ref f))
  |_=>Z8)
 |_=>Z8
def IZ (r:aM)(x:d6×Bool):d6×Bool:=(W.fnOf r.nm r.nm (z1d r.st) (z0m r.st) (z0c r.st) .none x.1.kwdefaults x.1.doc x.1.pyModule x.1.annotations x.1.code x.1.closureTuple,J)
def xM (K:Z5)(A:Addr):Bool:=match K.lookup A with
 |some ⟨.type "type",_,.cls _,_⟩=>J
 |_=>Z6
def xN:List Value:=[.type "ValueError",.type "Exception",.type "BaseException",.type "object"]
def DF (K:Z5)(r:XR):Option (Bool×Bool×Option (Option Value)×Option (Option Value)×Option (Option Value)×Option Bool×Option Bool×Option Bool×Bool×Option Bool×List (Bool×Option Bool)):=match Z0 K bh r.c,Z0 K bh r.B with
 |some (Y<|.ref A),Y (Y<|.ref D)=>Y (xM K A,W.excIn K A xN "ValueError.__new__",Z4 K (.ref A) "__class__",Z4 K (.ref A) "__getattribute__",Z4 K (.ref A) "__getattr__",ZZ K (.ref A)<|.type "object",ZZ K (.ref A)<|.type "BaseException",ZZ K (.ref A)<|.type "ValueError",W.excIn K D xN "ValueError.__new__",ZZ K (.ref A)<|.ref D,r.cs.map λy=>match Z0 K bh y.1 with
  |some (Y<|.ref E)=>(xM K E,ZZ K (.ref A)<|.ref E)
  |_=>(Z6,Z8))
 |_,_=>Z8
def DG (r:XR):Option (Bool×Bool×Option (Option Value)×Option (Option Value)×Option (Option Value)×Option Bool×Option Bool×Option Bool×Bool×Option Bool×List (Bool×Option Bool)):=Y (J,J,Y<|Y<|.builtin "object.__class__",Y<|Y<|.builtin "BaseException.__getattribute__",Y Z8,Y J,Y J,Y J,J,Y J,r.cs.map λy=>(J,Y y.2))
def I' {K:Z5}(h:xM K A=J):∃a cd sl,K.lookup A=Y {.type "type",a,.cls cd,sl}:=by
 unfold xM at h;split at h
 .rename_i a cd sl e;simp_all
 .cases h
theorem zbt {K:Z5}:∀{l:List<|U×Bool},(l.map fun y=>match Z0 K bh y.1 with
  |some (Y<|.ref E)=>(xM K E,ZZ K (.ref A)<|.ref E)
  |_=>(Z6,Z8))=(l.map λy=>(J,Y y.2))->DA K A l
 | [],_=>trivial
 |y::l,h=>by
  have h:=List.cons.inj h;refine{?_,zbt h.2};have e:=h.1
  dsimp only at e
  split at e
  .rename_i E a;have e:=qu e;let{b,cd,sl,q}:=I' e.1;exact{(E),b,cd,sl,a,q,e.2}
  .cases(qu e).1
def R6 {K:Z5}(h:DF K r=DG r):∃A D,Kx K r A D:=by
 unfold DF DG at h;split at h
 .rename_i A D k l;have h:=qu<|qt h;have b:=qu h.2;have c:=qu b.2;have d:=qu c.2;have e:=qu d.2;have f:=qu e.2;have g:=qu f.2;have i:=qu g.2;have j:=qu i.2;have a:=qu j.2;exact{A,D,k,I' h.1,b.1,c.1,d.1,e.1,f.1,g.1,i.1,l,j.1,a.1,zbt a.2}
 .cases h
theorem Ja {K:Z5}:∀{l:List XR},(∀r∈l,∃A D,Kx K r A D)->DB K l
 | [],_=>trivial
 |r::_,h=>{h r<|.head _,Ja λr a=>h r<|.tail _ a}
def KEq (K:en->Z5)(Rs:List aM)(fr:List U)(xt:List XR):Prop:=∀P,(Rs.map λr=>(sj (K P) r).isSome,Rs.map λr=>sj (K P) r,fr.map λn=>Z0 (K P) bh n,xt.map λr=>DF (K P) r,Rs.map λr=>r.kc.map λy=>ck1 (K P) y)=(Rs.map λ_=>J,Rs.map λr=>(sj (K P) r).map<|IZ r,fr.map λ_=>Y Z8,xt.map DG,Rs.map λr=>r.kc.map λ_=>J)
theorem KEq_r:KEq=KEq:=rfl
def R7 {K:Z5}(h:(sj K r).isSome=J)(e:sj K r=(sj K r).map (IZ r)):∃f fd,Kf K r f fd:=by
 cases z:sj K r with
 |none=>rw[z]at h;ext h
 |some x=>
  rw[z]at e;have e:=qt e;unfold sj at z;split at z
  .rename_i f hf;split at z
   .rename_i oc od fd sl c;have z:=qt z;have d:=congrArg py z;have a:=congrArg ql z;rw[congrArg ql e]at a;have b:=av.mp a;subst d;exact{f,x.1,hf,oc,od,x.1.annotations,sl,x.1.kwdefaults,x.1.doc,x.1.pyModule,x.1.code,x.1.closureTuple,congrArg py e,c,b.1,b.2}
   .cases z
  .cases z
def zV {K:en->Z5}(h:KEq K e fr g)(P:en):(∀r∈e,∃f fd,Kf (K P) r f fd)/\(∀n∈fr,Z0 (K P) bh n=Y Z8)/\DB (K P) g/\∀r∈e,∀y∈r.kc,ck1 (K P) y=true:=by have a:=qu<|h P;have b:=qu a.2;have c:=qu b.2;have d:=qu c.2;exact{λr hr=>R7 (de.mp a.1 r hr)<|de.mp b.1 r hr,λn hn=>de.mp c.1 n hn,Ja λr hr=>R6<|de.mp d.1 r hr,λr hr=>de.mp<|de.mp d.2 r hr}
def t6:List aM->Prop
 | []=>True
 |r::l=>DE r/\t6 l
theorem Jb {K:Z5}:∀{l:List aM},(∀r∈l,∃f fd,Kf K r f fd)->t6 l->kOks K l
 | [],_,_=>trivial
 |r::_,h,b=>{{h r<|.head _,b.1},Jb (λr a=>h r<|.tail _ a) b.2}
end Mi
name_quick tkeq for Mi.KEq by Mi.KEq_r
namespace Mk
open Mi
section
open PySem
end
section
open PySem
section
variable {Κ:List D}{Φ:List Fn}{ρ:Rho}{a b c t:C}{p q:S}{i:Nat}{f:D->Rho->Res Out}{x:D}{xs:List D}
theorem Jc:aH Κ Φ (.seq p q) ρ=lT (aH Κ Φ p ρ) (aH Κ Φ q):=rfl
theorem Jd:aH Κ Φ (.asg (.nm i) t) ρ=(aJ Κ Φ t ρ>>=λx=>.ok<|.nx<|ρ.set i<|Y<|z1v x):=rfl
theorem DH:aH Κ Φ (.bW c p q) ρ=(dP Κ Φ c ρ>>=λk=>if k then aH Κ Φ p ρ else aH Κ Φ q ρ):=rfl
theorem Je:aH Κ Φ (.ret<|.var i) ρ=(match ρ[i]? with|some (Y (g,d))=>.ok (.rt (if imm d then .fr else jB g) d)|_=>.no):=rfl
theorem R8:aH Κ Φ (.mut m i a) ρ=(dO Κ Φ a ρ>>=λc=>match ρ[i]? with
 |some (Y (.fr,.list xs))=>nY m xs c>>=λb=>.ok (.nx<|(ρ.set i<|Y (.fr,.list b)).map z0h)
 |_=>.no):=rfl
theorem R9:aH Κ Φ (.cV d a p) e=(evF Κ Φ a e>>=λw=>cQ (λx b=>gG d (gJ x w.1,x) b>>=λc=>aH Κ Φ p c) w.2.1 w.2.2):=rfl
theorem R':cQ f (x::xs) ρ=(match f x ρ with
 |.ok (.nx bQ)=>cQ f xs bQ
 |.ok (.ct bQ)=>cQ f xs bQ
 |.ok (.bk bQ)=>.ok (.nx bQ)
 |.ok (.rt g d)=>.ok (.rt g d)
 |.exc e=>.exc e
 |.no=>.no):=rfl
theorem Sa:dO Κ Φ .nil ρ=.ok []:=rfl
theorem vh:dO Κ Φ (.cons a b) ρ=(aJ Κ Φ a ρ>>=λx=>dO Κ Φ b ρ>>=λxs=>.ok (x::xs)):=rfl
theorem DI:tO Κ Φ (.tv a) ρ=(aJ Κ Φ a ρ>>=λx=>tM x.2):=rfl
theorem DJ:Cb Κ Φ (.tv a) ρ=(aJ Κ Φ a ρ>>=λx=>z6w x.2>>=λp=>.ok (x.1,p)):=rfl
theorem DK:dP Κ Φ (.tv a) ρ=(aJ Κ Φ a ρ>>=λx=>hF x.2):=rfl
theorem Se:dP Κ Φ (.and a b) d=(dP Κ Φ a d>>=λc=>if c then dP Κ Φ b d else .ok Z6):=rfl
theorem DL:dP Κ Φ (.or a b) d=(dP Κ Φ a d>>=λc=>if c then .ok J else dP Κ Φ b d):=rfl
theorem Sf:dP Κ Φ (.not a) ρ=(dP Κ Φ a ρ>>=λc=>.ok<|!c):=rfl
theorem DM:evW Κ Φ (.tv a) ρ=(aJ Κ Φ a ρ>>=λx=>z54 x.2>>=λxs=>.ok (x.1,xs)):=rfl
theorem Sg:evW Κ Φ (.gM a) ρ=(dO Κ Φ a ρ>>=λb=>lQ (b.map (·.2))>>=λxs=>.ok (.fr,xs)):=rfl
theorem Jf:evF Κ Φ (.tv<|.var i) ρ=(if lU ρ i then zv i ρ else if lW Κ Φ (.tv<|.var i) ρ then aJ Κ Φ (.var i) ρ>>=λx=>nZ x ρ else rY Κ Φ (.tv<|.var i) ρ):=rfl
end
def dI (h:aH Κ Φ a ρ=.ok (.nx c))(k:aH Κ Φ b c=r):aH Κ Φ (.seq a b) ρ=r:=by rw[Jc,h];exact k
def bR (h:aH Κ Φ a ρ=.ok (.rt g d)):aH Κ Φ (.seq a b) ρ=.ok (.rt g d):=by rw[Jc,h];rfl
def eC (h:aH Κ Φ s (a.map (λd=>Y (.od,d))++bq (n-a.length) Z8)=.ok (.rt g d)):aZ Κ Φ n s a=.ok (g,d):=by unfold aZ;rw[h]
theorem Jg {k:Type}{m:k->D}(I:List k->Rho->Prop):∀g pre a,(∀b x c a,pre++g=b++x::c->I b a->∃d,f (m x) a=.ok (.nx d)/\I (b++[x]) d)->I pre a->∃d,cQ f (g.map m) a=.ok (.nx d)/\I (pre++g) d
 | [],pre,a,_,h=>{a,rfl,by rw[b7];exact h}
 |x::g,pre,a,hf,h=>by
  let{i,e,n}:=hf pre x g a rfl h;have l:pre++[x]++g=pre++x::g:=by rw[jb];rfl
  let{j,o,p}:=Jg I g (pre++[x]) i (λb y c a q=>hf b y c a<|l▸q) n;exact{j,by rw[bu,R',e];exact o,l▸p}
theorem Jh {b:Type}{m:b->D}(g:b->Option D):∀(a:List b),(∀x∈a,f (m x)=.ok ((g x).map λd=>(.fr,d)))->lR f (a.map m)=.ok ((a.filterMap g).map λd=>(.fr,d))
 | [],_=>rfl
 |x::a,h=>by
  rw[bu,lR,h x ar,Jh g a λy c=>h y<|ao _ c];cases e:g x with
  |none=>rw[lz e];rfl
  |some d=>rw[l4 e];rfl
def Sh (a:List D):rW (a.map λd=>(G.fr,d))=.fr:=by unfold rW;rw[qq];rw[ml];exact bc.mpr λ_ _=>rfl
def Si (a:List D):cP (a.map λd=>(G.fr,d))=.fr:=by unfold cP;rw[qq];rw[bc];intro x b;let{d,_,rfl}:=ci.mp b;rfl
def DN (a:List D):(a.map λd=>(G.fr,d)).map (λx=>x.2)=a:=by rw[dw];exact nj _
theorem Sj (l:Bool)(xs:List D):aggD "tuple" l xs=.ok (.tuple xs):=rfl
def chr (z:U)(i:Int):U:={#[z[[]].getD i.toNat 0]}
theorem Ji (z:U)(i:Int):(chr z i).length=1:=rfl
def bF (a b:U):(a++b).length=a.length+b.length:=by show Array.size (a.cps++b.cps)=_;rw[Array.size_append];rfl
def DO {b:Type}(a:List b)(i:Int)(d:b)(h0:0<=i)(c:i<a.length):cN a i=Y (a.getD i.toNat d):=by
 unfold cN kT;rw[qq h0,qq c];show a[i.toNat]?=_;have:i.toNat<a.length:=by omega
 rw[ah,bn this];rfl
def uP (h0:0<=i)(a:i<z.length)(b:z.length<=1000):iC (.str z) (.int i)=.ok (.str<|chr z i):=by show(if z.length<=LIM then Res.gF ((cN z[[]] i).map λc=>ZX {#[c]})else .no)=_;rw[qq (by unfold LIM;omega),DO _ i 0 h0<|dv▸a];rfl
def pO {ns:List U}{i:Int}(h0:0<=i)(a:i<ns.length):iC ns[_] (.int i)=.ok (.str<|ns.getD i.toNat {#[]}):=by
 show Res.gF (cN (ns.map ZX) i)=_;rw[DO _ i (.str {#[]}) h0 (by rw[am];exact a)]
 congr 1
 have:i.toNat<ns.length:=by omega
 rw[ah,ah,bv,bn this];rfl
def t7 {ns:List Int}{i:Int}(h0:0<=i)(a:i<ns.length):iC ns[()] (.int i)=.ok (.int<|ns.getD i.toNat 0):=by
 show Res.gF (cN (ns.map ZU) i)=_;rw[DO _ i (.int 0) h0 (by rw[am];exact a)]
 congr 1
 have:i.toNat<ns.length:=by omega
 rw[ah,ah,bv,bn this];rfl
def getD_mem {a:Type}{ns:List a}{i:Int}{d:a}(h0:0<=i)(b:i<ns.length):ns.getD i.toNat d∈ns:=by grind
def add_str (h:a.length+b.length<=1000):cW .Add (.str a) (.str b)=.ok (.str<|a++b):=by show(if _ then _ else _)=_;rw[qq (by unfold LIM;omega)]
def add_list (h:a.length+b.length<=1000):cW .Add (.list a) (.list b)=.ok (.list<|a++b):=by show(if _ then _ else _)=_;rw[qq (by unfold LIM;omega)]
def oQ (h:-(2 ^ 64)<b/\b<2 ^ 64):cW .Mult (.int a) (.int b)=.ok (.int<|a*b):=by show(if _ then _ else _)=_;rw[qq<|.inr h]
def t8 (h:-(2 ^ 64)<a/\a<2 ^ 64):cW .Mult (.int a) (.int b)=.ok (.int<|a*b):=by show(if _ then _ else _)=_;rw[qq<|.inl h]
def cS (h:0<b):cW .Mod (.int a) (.int b)=.ok (.int<|a%b):=by show(if _ then _ else _)=_;rw[qq h]
theorem Sk:cW .Pow (.int 10) (.int 30)=.ok (.int 1000000000000000000000000000000):=rfl
def t9 (h0:0<=n)(a:n<=1000):lQ [.int n]=.ok ((dz n.toNat).map λ(i:Nat)=>.int i):=by show(if _ then _ else _)=_;rw[qq (by unfold LIM;omega)]
def zr (h:z.length<=1000):tL (.str z) i j=.ok (.str<|kW z i j):=by show(if _ then _ else _)=_;rw[qq (by unfold LIM;omega)]
theorem jG (ns:List U):imms (ns.map .str)=true:=mX.mpr λx a=>by let{p,_,rfl}:=ci.mp a;rfl
theorem DP (ns:List Int):imms (ns.map .int)=true:=mX.mpr λx a=>by let{p,_,rfl}:=ci.mp a;rfl
theorem Jj:∀ns,fW (ns.map .str)=Y ns
 | []=>rfl
 |n::ns=>by rw[bu,fW,Jj ns];rfl
theorem Sl:∀a,(∀s∈a,s.length=1)->(z0u "" a).length=a.length
 | [],_=>rfl
 |x::r,h=>by
  show(List.toArray<|x[[]]++(r.map λp=>([]:List Nat)++p[[]]).flatten).size=_
  have b:∀(r:List U),(∀s∈r,s.length=1)->((r.map λp=>([]:List Nat)++p[[]]).flatten).length=r.length:=by
   intro r
   induction r with
   |nil=>intro _;rfl
   |cons y r c=>intro h;rw[bu,pp,ax,c λs hs=>h s<|ao _ hs];have:(([]:List Nat)++y[[]]).length=1:=h y ar;rw[ay];omega
  rw[br,ax,b r λs hs=>h s<|ao _ hs];have:x[[]].length=1:=h x ar;rw[ay];omega
def Sm (h:∀s∈a,s.length=1)(d:a.length<=1000):mtD "join" (.str "") [.list<|a.map .str]=.ok (.str<|z0u "" a):=by
 have:mtD "join" (.str "") [.list<|a.map .str]=(match fW (a.map .str)with|some a=>if pJ "" a<=LIM then .ok (.str<|z0u "" a)else .no|none=>.no):=rfl;rw[this,Jj]
 dsimp only
 rw[qq];unfold pJ;have h0:("":U).length=0:=rfl
 have b:∀(r:List U),(∀s∈r,s.length=1)->(r.map (·.length)).sum=r.length:=by
  intro r
  induction r with
  |nil=>intro _;rfl
  |cons y r c=>intro h;rw[bu,on,h y ar,c λs hs=>h s<|ao _ hs,ay];omega
 rw[b a h,h0];unfold LIM;omega
def Jk (a b:Int):bX (.int a) (.int b)=decide (a=b):=by rfl
section
variable {Κ:List D}{Φ:List Fn}{ρ:Rho}
theorem zW:aJ Κ Φ (.var i) ρ=(tI ρ[i]?):=rfl
theorem Sn:aJ Κ Φ (.non) a=(.ok (.fr,.none)):=rfl
theorem DQ:aJ Κ Φ (.bl b) a=(.ok (.fr,.bool b)):=rfl
theorem So:aJ Κ Φ (.int i) a=(.ok (.fr,.int i)):=rfl
theorem Sq:aJ Κ Φ (.str x) a=(.ok (.fr,.str x)):=rfl
theorem DR:aJ Κ Φ (.bin e a b) c=(aJ Κ Φ a c>>=λx=>aJ Κ Φ b c>>=λy=>cW e x.2 y.2>>=λd=>.ok (gN d<|cP [x,y],d)):=rfl
theorem Sr:aJ Κ Φ (.neg a) ρ=(aJ Κ Φ a ρ>>=λx=>match x.2 with|.int i=>.ok (.fr,.int<|-i)|_=>.no):=rfl
theorem Su:aJ Κ Φ (.cmp c a b) ρ=(aJ Κ Φ a ρ>>=λx=>aJ Κ Φ b ρ>>=λy=>cmpD c x.2 y.2>>=λb=>.ok (.fr,.bool b)):=rfl
theorem Sv:aJ Κ Φ (.chain e d a b c) ρ=(aJ Κ Φ a ρ>>=λx=>aJ Κ Φ b ρ>>=λy=>cmpD e x.2 y.2>>=λk=>if k then aJ Κ Φ c ρ>>=λz=>cmpD d y.2 z.2>>=λf=>.ok (.fr,.bool f)else .ok (.fr,.bool Z6)):=rfl
theorem Sw:aJ Κ Φ (.nW b a) c=(aJ Κ Φ a c>>=λx=>.ok (.fr,.bool (match x.2 with|.none=>!b|_=>b))):=rfl
theorem Sx:aJ Κ Φ (.and a b) d=(aJ Κ Φ a d>>=λx=>match x.2 with|.bool c=>if c then aJ Κ Φ b d else .ok (.fr,.bool Z6)|_=>.no):=rfl
theorem Sz:aJ Κ Φ (.not a) b=(aJ Κ Φ a b>>=λx=>hF x.2>>=λc=>.ok (.fr,.bool<|!c)):=rfl
theorem SA:aJ Κ Φ (.tup b) c=(dO Κ Φ b c>>=λa=>.ok (gJ (.tuple (a.map (·.2)))<|cP a,.tuple (a.map (·.2)))):=rfl
theorem Jl:aJ Κ Φ (.lst b) ρ=(dO Κ Φ b ρ>>=λa=>.ok (cP a,.list (a.map (·.2)))):=rfl
theorem DS:aJ Κ Φ (.ix a b) c=(aJ Κ Φ a c>>=λx=>aJ Κ Φ b c>>=λy=>iC x.2 y.2>>=λd=>.ok (gJ d x.1,d)):=rfl
theorem xO:aJ Κ Φ (.sl a c e) b=(aJ Κ Φ a b>>=λx=>tO Κ Φ c b>>=λl=>tO Κ Φ e b>>=λh=>tL x.2 l h>>=λd=>.ok (gN d<|cP [x],d)):=rfl
theorem DT:aJ Κ Φ (.call k c args) a=(dO Κ Φ args a>>=λb=>match Φ[k]? with|some m=>m (b.map (·.2))>>=λr=>.ok (gJ r.2<|jB r.1,r.2)|none=>.no):=rfl
theorem DU:aJ Κ Φ (.bi f args) a=(dO Κ Φ args a>>=λb=>gP f (b.map (·.2))>>=λd=>.ok (gJ d .al,d)):=rfl
theorem SE:aJ Κ Φ (.pI f a) b=(Cb Κ Φ a b>>=λw=>aggD f w.2.1 w.2.2>>=λd=>.ok (gJ d (if imms w.2.2 then .fr else agG w.1),d)):=rfl
theorem SF:aJ Κ Φ (.eI a b) ρ=(aJ Κ Φ a ρ>>=λx=>.ok (.fr,.bool<|b.any λT=>jZ (iE x.2) T)):=rfl
theorem DV:aJ Κ Φ (.mt m o args) a=(aJ Κ Φ o a>>=λx=>dO Κ Φ args a>>=λb=>mtD m x.2 (b.map (·.2))>>=λd=>.ok (gJ d .al,d)):=rfl
theorem SG:aJ Κ Φ (.lP a b) ρ=(aJ Κ Φ a ρ>>=λx=>aJ Κ Φ b ρ>>=λy=>fG x.2 y.2>>=λd=>.ok (.fr,d)):=rfl
theorem SH {a:C}:aJ Κ Φ (.comp f g i h it a c) d=(evW Κ Φ it d>>=λw=>lR (λx=>gG h (gJ x w.1,x) (bq f Z8++g.map λj=>gO<|d.getD j Z8)>>=λb=>dP Κ Φ a b>>=λk=>if k then aJ Κ Φ c b>>=λy=>.ok (Y y)else .ok Z8) w.2>>=λe=>.ok (rW e,.list (e.map (·.2)))):=rfl
end
section
variable {Κ:List D}{Φ:List Fn}{ρ:Rho}{a b c t o args:C}{x y d:D}{ds:List D}{k k':Bool}{g:G}
def Ev (Κ:List D)(Φ:List Fn)(c:C)(ρ:Rho)(d:D):Prop:=∃g,aJ Κ Φ c ρ=.ok (g,d)
def Vv (Κ:List D)(Φ:List Fn)(c:C)(ρ:Rho)(d:D):Prop:=aJ Κ Φ c ρ=.ok (.fr,d)/\imm d=J
def Aa (Κ:List D)(Φ:List Fn)(c:C)(ρ:Rho)(ds:List D):Prop:=∃ys,dO Κ Φ c ρ=.ok ys/\ys.map (·.2)=ds
def Av (Κ:List D)(Φ:List Fn)(c:C)(ρ:Rho)(ds:List D):Prop:=dO Κ Φ c ρ=.ok (ds.map λd=>(.fr,d))/\imms ds=J
def Tt (Κ:List D)(Φ:List Fn)(c:C)(ρ:Rho)(k:Bool):Prop:=dP Κ Φ c ρ=.ok k
theorem Vv.e (h:Vv Κ Φ c ρ d):Ev Κ Φ c ρ d:={_,h.1}
theorem Ev.of (h:aJ Κ Φ c ρ=.ok (g,d)):Ev Κ Φ c ρ d:={_,h}
theorem aC (h:ρ[i]?=Y (Y (g,d))):Ev Κ Φ (.var i) ρ d:={_,by rw[zW];rw[h];rfl}
theorem v_var (h:ρ[i]?=Y (Y (g,d)))(a:imm d=J):Vv Κ Φ (.var i) ρ d:={by rw[zW];rw[h];show Res.ok (if imm d=J then _ else _,d)=_;rw[qq a],a}
theorem aE:Vv Κ Φ (.int i) ρ (.int i):={by rw[So],rfl}
theorem aN:Vv Κ Φ (.str i) ρ (.str i):={by rw[Sq],rfl}
theorem iG:Vv Κ Φ (.bl i) ρ (.bool i):={by rw[DQ],rfl}
theorem zX:Vv Κ Φ .non ρ .none:={by rw[Sn],rfl}
def nG (a:imm d=J):gJ d g=.fr:=by unfold gJ;rw[qq a]
def Jm (a:imm d=J):gN d g=.fr:=by ext d<;>first|exact nG a|ext a
def aI (ha:Ev Κ Φ a ρ x)(hb:Ev Κ Φ b ρ y)(h:cW op x y=.ok d)(hi:imm d=J):Vv Κ Φ (.bin op a b) ρ d:=by let{g1,ha}:=ha;let{g2,hb}:=hb;refine{?_,hi};rw[DR];rw[ha,Res.aB,hb,Res.aB];dsimp only;rw[h,Res.aB,Jm hi]
def qY (ha:Ev Κ Φ a ρ x)(hb:Ev Κ Φ b ρ y)(h:cW op x y=.ok (.list xs))(hi:imms xs=J):aJ Κ Φ (.bin op a b) ρ=.ok (.fr,.list xs):=by let{g1,ha}:=ha;let{g2,hb}:=hb;rw[DR];rw[ha,Res.aB,hb,Res.aB];dsimp only;rw[h];show Res.ok (if imms xs=J then _ else _,_)=_;rw[qq hi]
def cL (ha:Ev Κ Φ a ρ x)(hb:Ev Κ Φ b ρ y)(h:cmpD op x y=.ok k):Vv Κ Φ (.cmp op a b) ρ (.bool k):=by let{g1,ha}:=ha;let{g2,hb}:=hb;refine{?_,rfl};rw[Su];rw[ha,Res.aB,hb,Res.aB];dsimp only;rw[h];rfl
def xP:D->Bool
 |.none=>J
 |_=>Z6
def SI (ha:Ev Κ Φ a ρ x):Vv Κ Φ (.nW ng a) ρ (.bool (if xP x then !ng else ng)):=by let{g1,ha}:=ha;refine{?_,rfl};rw[Sw];rw[ha];ext x<;>rfl
def v_and (ha:Ev Κ Φ a ρ<|.bool k)(hb:k=J->Vv Κ Φ b ρ (.bool k')):Vv Κ Φ (.and a b) ρ (.bool<|k&&k'):=by
 let{g1,ha}:=ha;refine{?_,rfl};rw[Sx];rw[ha];cases k with
 |true=>exact(hb rfl).1
 |false=>rfl
def v_not (b:Ev Κ Φ a ρ x)(h:hF x=.ok k):Vv Κ Φ (.not a) ρ (.bool<|!k):=by let{c,b}:=b;refine{?_,rfl};rw[Sz];rw[b,Res.aB];dsimp only;rw[h];rfl
theorem bG:Av Κ Φ .nil ρ []:={(rfl),rfl}
theorem aF (c:Vv Κ Φ a ρ x)(d:Av Κ Φ b ρ e):Av Κ Φ (.cons a b) ρ (x::e):={by rw[vh,c.1,Res.aB,d.1];rfl,by show(imm x&&imms e)=J;rw[c.2,d.2];rfl}
theorem bE:Aa Κ Φ .nil ρ []:={[],rfl,rfl}
def aW (ha:Ev Κ Φ a ρ x)(hb:Aa Κ Φ b ρ ds):Aa Κ Φ (.cons a b) ρ (x::ds):=by let{g1,ha}:=ha;let{ys,hb,e}:=hb;exact{_,by rw[vh,ha,hb];rfl,by rw[bu,e]}
def eD (h:Av Κ Φ args ρ ds):Vv Κ Φ (.tup args) ρ (.tuple ds):=by refine{?_,h.2};rw[SA];rw[h.1,Res.aB,DN,nG (d:=.tuple ds) h.2]
def dR (h:Av Κ Φ args ρ ds):aJ Κ Φ (.lst args) ρ=.ok (.fr,.list ds):=by rw[Jl];rw[h.1,Res.aB,DN,Si]
def aO (ha:Ev Κ Φ a ρ x)(hb:Ev Κ Φ b ρ y)(h:iC x y=.ok d)(hi:imm d=J):Vv Κ Φ (.ix a b) ρ d:=by let{g1,ha}:=ha;let{g2,hb}:=hb;refine{?_,hi};rw[DS];rw[ha,Res.aB,hb,Res.aB];dsimp only;rw[h,Res.aB,nG hi]
def Oo (Κ:List D)(Φ:List Fn)(c:C)(ρ:Rho)(i:Option Int):Prop:=tO Κ Φ c ρ=.ok i
theorem kC:Oo Κ Φ .nil ρ none:=rfl
def fL (h:Ev Κ Φ a ρ<|.int i):Oo Κ Φ (.tv a) ρ (Y i):=by let{b,h}:=h;unfold Oo;rw[DI,h];rfl
def ua (ha:Ev Κ Φ a ρ x)(hb:Oo Κ Φ b ρ i)(hc:Oo Κ Φ c ρ j)(h:tL x i j=.ok d)(hi:imm d=J):Vv Κ Φ (.sl a b c) ρ d:=by let{g1,ha}:=ha;unfold Oo at hb hc;refine{?_,hi};rw[xO];rw[ha,Res.aB,hb,Res.aB,hc,Res.aB];dsimp only;rw[h,Res.aB,Jm hi]
def eO (ha:Aa Κ Φ args ρ ds)(hf:Φ[n]?=Y m)(h:m ds=.ok (g,d))(hi:imm d=J):Vv Κ Φ (.call n f args) ρ d:=by let{ys,ha,e}:=ha;refine{?_,hi};rw[DT];rw[ha,Res.aB,hf];dsimp only;rw[e,h,Res.aB,nG hi]
def Jo (ha:Aa Κ Φ args ρ ds)(hf:Φ[n]?=Y m)(h:m ds=.ok (g,d)):Ev Κ Φ (.call n f args) ρ d:=by let{ys,ha,e}:=ha;exact{_,by rw[DT];rw[ha,Res.aB,hf];dsimp only;rw[e,h,Res.aB]}
def vi (ha:Aa Κ Φ args ρ ds)(hf:Φ[n]?=Y m)(h:m ds=.ok (.fr,.list xs)):aJ Κ Φ (.call n f args) ρ=.ok (.fr,.list xs):=by let{ys,ha,e}:=ha;rw[DT];rw[ha,Res.aB,hf];dsimp only;rw[e,h];rfl
def cF (ha:Aa Κ Φ args ρ ds)(h:gP f ds=.ok d)(hi:imm d=J):Vv Κ Φ (.bi f args) ρ d:=by let{ys,ha,e}:=ha;refine{?_,hi};rw[DU];rw[ha,Res.aB,e,h,Res.aB,nG hi]
def DW (b:Ev Κ Φ a ρ x)(hw:z6w x=.ok w)(h:aggD f w.1 w.2=.ok d)(c:imm d=J):Vv Κ Φ (.pI f<|.tv a) ρ d:=by let{e,b}:=b;refine{?_,c};rw[SE];rw[DJ,b,Res.aB];dsimp only;rw[hw];simp only[Res.aB];rw[h,Res.aB,nG c]
def mG (ha:Ev Κ Φ a ρ x):Vv Κ Φ (.eI a ts) ρ (.bool<|ts.any λT=>jZ (iE x) T):=by let{g1,ha}:=ha;refine{?_,rfl};rw[SF];rw[ha];rfl
def ub (a:Ev Κ Φ o ρ x)(b:Aa Κ Φ args ρ f)(h:mtD m x f=.ok d)(c:imm d=J):Vv Κ Φ (.mt m o args) ρ d:=by let{g1,a}:=a;let{g,b,e}:=b;refine{?_,c};rw[DV];rw[a,Res.aB,b,Res.aB,e];dsimp only;rw[h,Res.aB,nG c]
def aT (h:Ev Κ Φ a ρ x)(b:hF x=.ok k):Tt Κ Φ (.tv a) ρ k:=by let{g1,h}:=h;unfold Tt;rw[DK,h];exact b
theorem uc:Tt Κ Φ .nil ρ true:=rfl
def eP (c:Tt Κ Φ a ρ k)(d:k=J->Tt Κ Φ b ρ k'):Tt Κ Φ (.and a b) ρ (k&&k'):=by
 unfold Tt at *
 rw[Se,c];cases k with
 |true=>exact d rfl
 |false=>rfl
def gT (ha:Tt Κ Φ a ρ k)(hb:k=Z6->Tt Κ Φ b ρ k'):Tt Κ Φ (.or a b) ρ (k||k'):=by
 unfold Tt at *
 rw[DL,ha];cases k with
 |false=>exact hb rfl
 |true=>rfl
def qP (ha:Tt Κ Φ a ρ k):Tt Κ Φ (.not a) ρ (!k):=by
 unfold Tt at *
 rw[Sf,ha];rfl
def z4d {b:Type}{cond:C}{m:b->D}{xs:List b}(p:b->Bool)(f:b->D)(c:evW Κ Φ it ρ=.ok w)(a:w.2=xs.map m)(r:b->Rho)
  (d:∀x∈xs,gG tg (gJ (m x) w.1,m x) (bq nt Z8++js.map λj=>gO<|ρ.getD j Z8)=.ok (r x)) (hc:∀x∈xs,Tt Κ Φ cond (r x)<|p x) (g:∀x∈xs,p x=J->Vv Κ Φ elt (r x) (f x)):
  aJ Κ Φ (.comp nt js N' tg it cond elt) ρ=.ok (.fr,.list<|(xs.filter p).map f):=by
 rw[SH];rw[c,Res.aB,a]
 rw[Jh (λx=>if p x then Y (f x)else Z8) xs λx a=>by
  rw[d x a,Res.aB];have:=hc x a;rw[this];cases e:p x with
  |true=>rw[(g x a e).1];rfl
  |false=>rfl]
 rw[Res.aB,Sh,DN]
 have:(xs.filterMap λx=>if p x=J then Y (f x)else Z8)=(xs.filter p).map f:=by
  clear a d hc g c
  induction xs with
  |nil=>rfl
  |cons x xs h=>
   cases e:p x with
   |true=>rw[l4 (by rw[e];rfl),List.filter_cons_of_pos e,bu,h]
   |false=>rw[lz (by rw[e];rfl),List.filter_cons_of_neg<|e▸di,h]
 rw[this]
def fI (h:aJ Κ Φ a ρ=.ok (g,x))(hw:z54 x=.ok xs):evW Κ Φ (.tv a) ρ=.ok (g,xs):=by rw[DM,h,Res.aB];dsimp only;rw[hw];rfl
def DX (h:Aa Κ Φ args ρ ds)(hw:lQ ds=.ok xs):evW Κ Φ (.gM args) ρ=.ok (.fr,xs):=by let{ys,h,e}:=h;rw[Sg,h,Res.aB,e,hw];rfl
def bZ (h:Vv Κ Φ t ρ d):aH Κ Φ (.asg (.nm i) t) ρ=.ok (.nx<|ρ.set i<|Y (.al,d)):=by rw[Jd,h.1];show Res.ok (Out.nx<|ρ.set i<|Y (if imm d then(.al,d)else _))=_;rw[qq h.2]
def fS (h:aJ Κ Φ t ρ=.ok (.fr,.list xs))(a:imms xs=J):aH Κ Φ (.asg (.nm i) t) ρ=.ok (.nx<|ρ.set i<|Y (.fr,.list xs)):=by rw[Jd,h];show Res.ok (Out.nx<|ρ.set i<|Y (if imms xs then .fr else .nu,.list xs))=_;rw[qq a]
def Jp (hv:∀i,t≠.var i):aH Κ Φ (.ret t) ρ=(aJ Κ Φ t ρ>>=λx=>.ok<|.rt (jB x.1) x.2):=by ext t<;>first|exact absurd rfl (hv _)|rfl
def dJ (h:Vv Κ Φ t ρ d):aH Κ Φ (.ret t) ρ=.ok (.rt .fr d):=by
 by_cases c:∀i,t≠.var i
 .rw[Jp c,h.1];rfl
 obtain⟨i,rfl⟩:∃i,t=.var i:=by ext t<;>first|exact⟨_,rfl⟩|exact(c λi z=>by ext z).elim
 have a:=h.1;rw[zW]at a;rw[Je];cases hr:ρ[i]? with
 |none=>rw[hr]at a;ext a
 |some o=>
  cases o with
  |none=>rw[hr]at a;ext a
  |some gd=>
   let{g,b}:=gd;rw[hr]at a;have:b=d:=by have:=congrArg (λr:Res GD=>match r with|.ok p=>p.2|_=>.none) a;exact this
   subst this;show Res.ok (Out.rt (if imm b=J then _ else _) b)=_;rw[qq h.2]
def sr (hv:∀i,t≠.var i)(h:aJ Κ Φ t ρ=.ok (.fr,.list xs)):aH Κ Φ (.ret t) ρ=.ok (.rt .fr<|.list xs):=by rw[Jp hv,h];rfl
def zY (hc:Tt Κ Φ c ρ k)(h1:k=J->aH Κ Φ p ρ=r)(h2:k=Z6->aH Κ Φ q ρ=r):aH Κ Φ (.bW c p q) ρ=r:=by
 rw[DH,hc];cases k with
 |true=>exact h1 rfl
 |false=>exact h2 rfl
theorem iH:aH Κ Φ .nil ρ=.ok (.nx ρ):=rfl
def SJ {y:GD}(h:imm y.2=J):okIn y=true:=by unfold okIn;rw[h];rfl
def xQ (hv:Vv Κ Φ a ρ x)(hr:ρ[i]?=Y (Y (.fr,.list xs)))(hl:xs.length<1000):aH Κ Φ (.mut "append" i<|.cons a .nil) ρ=.ok (.nx<|(ρ.set i<|Y (.fr,.list<|xs++[x])).map z0h):=by
 rw[R8,vh,hv.1,Res.aB,Sa,Res.aB,Res.aB,hr]
 dsimp only
 have:nY "append" xs [(.fr,x)]=.ok (xs++[x]):=by show(if(okIn (G.fr,x)&&decide (xs.length<LIM))=J then _ else _)=_;rw[qq];rw[SJ hv.2];refine qx ?_;unfold LIM;omega
 rw[this];rfl
def SK (h:ρ[i]?=Y (Y (g,d)))(hg:g≠.fr)(hi:imm d=J)(hw:z54 d=.ok xs):evF Κ Φ (.tv<|.var i) ρ=.ok (.fr,xs,ρ):=by
 have e3:lU ρ i=false:=by
  unfold lU;rw[h];cases g with
  |fr=>exact absurd rfl hg
  |od=>rfl
  |al=>rfl
  |nu=>rfl
 rw[Jf,e3];unfold lW rY;rw[fI ((v_var h hi).1) hw];rfl
def DY (h:ρ[i]?=Y (Y (.od,d)))(hi:imm d=Z6)(hw:z54 d=.ok xs):evF Κ Φ (.tv<|.var i) ρ=.ok (.od,xs,ρ):=by
 have e1:aJ Κ Φ (.var i) ρ=.ok (.od,d):=by rw[zW];rw[h];show Res.ok (if imm d=J then _ else _,d)=_;rw[hi];rfl
 have e3:lU ρ i=false:=by unfold lU;rw[h]
 rw[Jf,e3];unfold lW rY;rw[fI e1 hw];rfl
def xR (h:Aa Κ Φ args ρ ds)(hw:lQ ds=.ok xs):evF Κ Φ (.gM args) ρ=.ok (.fr,xs,ρ):=by show rY Κ Φ (.gM args) ρ=_;unfold rY;rw[DX h hw];rfl
def De {x y:GD}(ha:aJ Κ Φ a ρ=.ok x)(hb:aJ Κ Φ b ρ=.ok y)(ca:oA x=J)(cb:oA y=J)(hx:seqR x.2=.ok xs)(hy:seqR y.2=.ok ys):evF Κ Φ (.zip a b) ρ=.ok (.al,zipD xs ys,ρ):=by
 have e:dO Κ Φ (.cons a<|.cons b .nil) ρ=.ok [x,y]:=by rw[vh,ha,vh,hb];rfl
 show(dO Κ Φ (.cons a<|.cons b .nil) ρ>>=λys=>lV ys ρ)=_;rw[e,Res.aB];unfold lV
 dsimp only
 rw[ca,cb];rw[hx,hy];rfl
def SM {x:GD}(ha:aJ Κ Φ a ρ=.ok x)(ca:oA x=J)(hx:seqR x.2=.ok xs):evF Κ Φ (.enum a) ρ=.ok (.al,z1e 0 xs,ρ):=by
 have e:dO Κ Φ (.cons a .nil) ρ=.ok [x]:=by rw[vh,ha];rfl
 show(dO Κ Φ (.cons a .nil) ρ>>=λys=>qI ys ρ)=_;rw[e,Res.aB];unfold qI
 dsimp only
 rw[ca,hx];rfl
def SN (hl:xs.length<=1000):seqR (.list xs)=.ok xs:=by show(if decide (xs.length<=LIM)=J then Res.ok xs else .no)=_;rw[qx (show xs.length<=LIM by unfold LIM;omega)];rfl
theorem Jq {b:Type}(m:b->D):∀k (a:List b),z1e k (a.map m)=(a.zipIdx k).map λp=>.tuple [.int p.2,m p.1]
 |_,[]=>rfl
 |k,x::a=>by rw[bu,z1e,Jq m (k+1) a];rfl
def SO (a:imm x=J)(b:imm y=J):gG (.tp [i,j]) (gJ (.tuple [x,y]) g,.tuple [x,y]) ρ=.ok ((ρ.set i<|Y (.al,x)).set j<|Y (.al,y)):=by show Res.gF (Y<|(ρ.set i<|Y<|mZ (gJ x _,x)).set j<|Y<|mZ (gJ y _,y))=_;rw[nG a,nG b];rfl
def DZ (h:evF Κ Φ it ρ=.ok w)(k:cQ (λx ρ1=>gG t' (gJ x w.1,x) ρ1>>=λkY=>aH Κ Φ p kY) w.2.1 w.2.2=r):aH Κ Φ (.cV t' it p) ρ=r:=by rw[R9,h];exact k
theorem iU (a:Tt Κ Φ c ρ k)(hk:k=J)(h:aH Κ Φ p ρ=.ok (.rt g d)):aH Κ Φ (.seq (.bW c p q) rest) ρ=.ok (.rt g d):=bR (zY a (λ_=>h) λz=>by rw[hk]at z;ext z)
theorem gK (hc:Tt Κ Φ c ρ k)(a:k=Z6)(h:aH Κ Φ rest ρ=r):aH Κ Φ (.seq (.bW c p .nil) rest) ρ=r:=dI (zY hc (λz=>by rw[a]at z;ext z) λ_=>iH) h
def z7s (h:ρ[i]?=Y (Y (.fr,.list xs))):aH Κ Φ (.ret<|.var i) ρ=.ok (.rt .fr<|.list xs):=by rw[Je,h];rfl
def aG {Q:Res Out->Prop}(h:aH Κ Φ p ρ=.ok (.nx bQ))(k:Q<|aH Κ Φ q bQ):Q (aH Κ Φ (.seq p q) ρ):=by rw[dI h rfl];exact k
def zwj {Q:Res Out->Prop}{β:Type}{m:β->D}{xs:List β}(h:evF Κ Φ it ρ=.ok (g,xs.map m,ρ1))(I:List β->Rho->Prop)(h0:I [] ρ1)
  (hf:∀pre x post ρ,xs=pre++x::post->I pre ρ->∃bQ,(gG t' (gJ (m x) g,m x) ρ>>=λkY=>aH Κ Φ p kY)=.ok (.nx bQ)/\I (pre++[x]) bQ) (hk:∀bQ,I xs bQ->Q (aH Κ Φ rest bQ)):Q (aH Κ Φ (.seq (.cV t' it p) rest) ρ):=by
 let{bQ,e,i}:=Jg (f:=λx ρ1=>gG t' (gJ x g,x) ρ1>>=λkY=>aH Κ Φ p kY) I xs [] ρ1 hf h0;rw[dI (DZ h e) rfl];exact hk bQ i
theorem zv3 {Q:Res Out->Prop}{d:Type}{m:d->D}{e:List d}(h:evF Κ Φ i ρ=.ok (g,e.map m,f))(I:List d->Rho->Prop)(h0:I [] f)
  (hf:∀pre x b ρ,e=pre++x::b->I pre ρ->∃c a,gG j (gJ (m x) g,m x) ρ=.ok c/\aH Κ Φ p c=.ok (.nx a)/\I (pre++[x]) a) (hk:∀a,I e a->Q (aH Κ Φ rest a)):Q (aH Κ Φ (.seq (.cV j i p) rest) ρ):=
 zwj h I h0 (λpre x b ρ k l=>by let{c,a,n,o,q}:=hf pre x b ρ k l;exact{a,by rw[n,Res.aB,o],q}) hk
def qZ {Q:Res Out->Prop}(hc:Tt Κ Φ c ρ k)(hk:k=Z6)(h:Q<|aH Κ Φ rest ρ):Q (aH Κ Φ (.seq (.bW c p .nil) rest) ρ):=by rw[gK hc hk rfl];exact h
theorem D3:Vv Κ Φ (.bin .Pow (.int 10)<|.int 30) ρ (.int 1000000000000000000000000000000):=aI aE.e aE.e Sk rfl
end
end
end Mk
namespace Mi
open PySem PySem.Spec PyProof.Rows L2
section
open PySem.SeqAt
section
variable {X:Cx}
theorem Jr:∀{e:List U} {a:List Value},Vals (e.map V.str) a->∀y∈a,∃b t,y=Value.str b t
 | [],_,r,y,c=>by ext r;ext c
 |s::e,_,r,y,c=>by
  cases r with
  |cons f g=>
   rcases ak.mp c with rfl|d
   .let{t,rfl}:=f;exact{_,_,rfl}
   .exact Jr g y d
end
end
open PySem.W
section
open PySem.SeqAt
def D4 (d:Addr):Obj:={cls:=.type "dict_values",data:=.fields #[.ref d]}
def vw (v d:Addr):HO:=.ext λh=>h.get? v=Y (D4 d)
theorem Js {κ:Type}:∀{a:List<|κ×V} {vs:List<|κ×Value},KV a vs->Vals (a.map (·.2)) (vs.map (·.2))
 |_,_,.nil=>.nil
 |_,_,.cons r t=>.cons r.2 (Js t)
section
variable {X:Cx}
def zZ:V->List V->Hp->VK->Prop:=λx xs H Q=>∃d kvs,x=.ref d/\xs=[]/\H d=Y (.dK kvs)/\∀v,H v=Z8->Q (.ref v) (upd H v<|vw v d)
def SQ:MtR X "dict.values" zZ:=by
 rintro g s y H x A v B Q I j l ⟨d,m,rfl,rfl,hd,q⟩
 ext j;ext l;let{C,a,n,rel,o,f,r,h,c,e,t}:=BM I.hok hd;refine pe PySem.F.slot_dict_values {_,h,c.1} PySem.F.entry_dict_values (PySem.F.args_dict_values_1 _) (meets_dict_values (jO X.prog X.w) d a) {{(n),o,f,r,h,c,e,t},?_};have i:(s.heap.push<|D4 d).get? s[?_]=Y (D4 d):=ba _ rfl;exact{.ref s[?_],_,I.laid (o:=vw s[?_] d) (λb u z=>af _ z) (ag _) {i,{_,i},λD E p k=>k _ p},rfl,q _<|I.hok.fresh<|ag _}
def z3:List V->Hp->VK->Prop:=λxs H Q=>∃v d kvs,xs=[.ref v]/\H v=Y (vw v d)/\H d=Y (.dK kvs)/\∀p,H p=Z8->Q (.ref p) (upd H p (.lst (kvs.map (·.2))))
def SR (hc:X.calm=J):CallR X (.type "list") z3:=by
 rintro pins s σ H xs us Q I r ⟨v,d,kvs,rfl,hv,hd,q⟩
 let{u,rfl,rfl}:=vals1 r;let{hz,SS,vs,rel,o,SU,ep,ho,SV,D5,r3}:=BM I.hok hd;have lk:=rel.length;refine kdl_call (kdl_values) (I.ok.hd hc) {{_,(I.hok v _ hv).1,rfl,rfl},{(o),SU,ho,SV,D5,r3}} ZQ λh' tk acc c hk hS xS=>?_;have rv:Vals (kvs.map (·.2)) acc.toList:=by rw[kdl_vals_eq acc.toList (dv▸xS.1) λj u e=>xS.2 j u<|mx▸e];exact Js rel
 exact{.ref s[?_],_,I.laid (o:=.lst (kvs.map (·.2))) (t':=tk) hk (ag _) {by rw[am];omega,acc.toList,c,rv,by simpa using hS},rfl,q _<|I.hok.fresh<|ag _}
theorem Jt:∀{bs:List Bool} {a:List Value},Vals (bs.map V.bl) a->a=bs.map Value.bool
 | [],_,r=>by ext r;rfl
 |b::bs,_,r=>by
  cases r with
  |cons c d=>ext c;rw[Jt d];rfl
theorem Ju (c:∀b t,e (.str b t)=(b==s)):∀{d:List U} {a:List Value},Vals (d.map V.str) a->a.countP e=d.countP (· ==s)
 | [],_,r=>by ext r;rfl
 |b::bs,_,r=>by
  cases r with
  |cons f g=>let{t,rfl}:=f;rw[List.countP_cons,List.countP_cons,Ju c g,c]
def q9:V->List V->Hp->VK->Prop:=λx vs H Q=>∃l,x=.ref l/\((∃(ss:List U) (s:U),vs=[.str s]/\H l=Y (.lst<|ss.map V.str)/\Q (.int (ss.countP (· ==s):Nat)) H)\/∃(bs:List Bool) (b:Bool),vs=[.bl b]/\H l=Y (.lst<|bs.map V.bl)/\Q (.int (bs.countP (· ==b):Nat)) H)
def SW:MtR X "list.count" q9:=by
 rintro pins s σ H x vs v us Q I m j ⟨l,rfl,h⟩
 ext m;rcases h with⟨o,z,rfl,d,q⟩|⟨bs,b,rfl,d,q⟩
 .let{u,rfl,{k,rfl}}:=j.one;let{_,a,n,r,_,e}:=I.lN d
  let f:Value->Bool:=λy=>match y with|.str b _=>b==z|_=>Z6
  refine jp PySem.F.slot_list_count {_,e,rfl} PySem.F.entry_list_count (PySem.F.args_list_count_2 _ _) (list_countAt l a.toArray n Z8 _ (.str z k) f) {e,λy g=>?_,?_}
  .let{b,t,rfl}:=Jr r y (by simpa using g);exact EqAt.str_str b t z k
  .have i:=Ju (e:=f) (λ_ _=>rfl) r;refine{.int (o.countP (· ==z):Nat),H,I.tok _,{_,by rw[<-i]},q}
 .let{u,rfl,rfl}:=j.one;let{_,a,n,r,_,e}:=I.lN d;have p:=Jt r;subst p
  let f:Value->Bool:=λy=>match y with|.bool c=>c==b|_=>Z6
  refine jp PySem.F.slot_list_count {_,e,rfl} PySem.F.entry_list_count (PySem.F.args_list_count_2 _ _) (list_countAt l _ n Z8 _ (.bool b) f) {e,λy g=>?_,?_}
  .let{c,_,rfl}:=ci.mp (show y∈bs.map Value.bool by simpa using g);exact EqAt.bool_bool c b
  .have i:(bs.map Value.bool).countP f=bs.countP (· ==b):=by rw[List.countP_map];rfl
   exact{.int (bs.countP (· ==b):Nat),H,I.tok _,{_,by rw[<-i]},q}
end
end
inductive W where
 |bA (c:C)|raw (i:Nat)|bin (op:nc) (a b:W)|xT (c a b:W)|tup (xs:W)|lst (xs:W)|iB|ix (a b:W)|len (a:W)|get (o k:W)|bO (o:W) (f:U)|cI (j:Nat) (as:W)|fT (o:W) (j:Nat) (as:W)|mk (j:Nat) (as:W)|tp (c:C)|tc (op:CmpOp) (a b:W)|xU (a:W)|not (a:W)|z4 (a b:W)|gE (f:U)|gi (j:Nat)|lv (o:W)|cnt (o k:W)|gf (j:Nat)|sx (i j:Nat) (as:W)|nil|cons (a r:W)
 deriving Inhabited
structure Wc where
 K:Z5
 mg:U->Option Value
 Κ:List D
 Φ:List Fn
 E:XK
 fn:List Sp
 me:List (Addr×U×Sp)
 cl:List (Addr×Sp)
 xf:Option V:=Z8
 gi:List Int:=[]
 hf:List (Addr×Sp):=[]
 md:List (Addr×U×Sp):=[]
 mq:List (Addr×U×Sp):=[]
structure Gw where
 g:Gm
 fn:List (U×Nat)
 me:List (U×Nat)
 cl:List (U×Nat)
 xf:Option U:=Z8
 gi:List U:=[]
 fld:List (U×U):=[]
 hf:List (U×Nat):=[]
 md:List (U×Nat):=[]
 mq:List (U×U):=[]
def Jv {α:Type}(us:List α):List α->List α
 | [w]=>us++[w]
 |_=>[]
def eU:TE:=λ_ _ _=>False
def Jw (K:Z5)(t:TE):TT:=λσ H Q=>t σ H λx H'=>∃k,pY K x H' k/\Q k H'
mutual
def wE:Wc->W->TE
 |Z,.bA c=>tD Z.K (aJ Z.Κ Z.Φ c)
 |Z,.raw i=>vO i
 |Z,.bin op a b=>mR (qN Z.K<|cW op) (wE Z a) (wE Z b)
 |Z,.xT c a b=>Ga (wT Z c) (wE Z a) (wE Z b)
 |Z,.tup xs=>wa (wA Z xs)
 |Z,.lst xs=>wb (wA Z xs)
 |Z,.iB=>GQ
 |Z,.ix a b=>mR (tX Z.K) (wE Z a) (wE Z b)
 |Z,.len a=>pZ (z68 Z.K<|gP "len") (mT (wE Z a) fF)
 |Z,.get o k=>GS (wE Z o) (wE Z k)
 |Z,.bO o f=>sU Z.K (wE Z o) f
 |Z,.cI j as=>match Z.fn[j]? with|some sp=>kS sp [] Z.E (wA Z as)|none=>eU
 |Z,.fT o j as=>match Z.me[j]? with|some r=>rO r.1 r.2.1 r.2.2 [] Z.E (wE Z o) (wA Z as)|none=>eU
 |Z,.mk j as=>match Z.cl[j]? with|some r=>uM r.1 r.2 [] Z.E (wA Z as)|none=>eU
 |Z,.gE _=>match Z.xf with|some v=>λ_ H Q=>Q v H|none=>eU
 |Z,.lv o=>pZ z3 (mT (tq Z.K "dict" zZ<|wE Z o) fF)
 |Z,.cnt o k=>wu Z.K "list" q9 (wE Z o) (mT (wE Z k) fF)
 |Z,.gi j=>match Z.gi[j]? with|some n=>λ_ H Q=>Q (.int n) H|none=>eU
 |Z,.gf j=>match Z.hf[j]? with|some r=>λ_ H Q=>Q (.ref r.1) H|none=>eU
 |Z,.sx i j as=>match Z.hf[j]? with|some r=>λσ H Q=>σ[i]?=Y (Y<|.ref r.1)/\kS r.2 [] Z.E (wA Z as) σ H Q|none=>eU
 |_,_=>eU
def wA:Wc->W->TA
 |Z,.nil=>fF
 |Z,.cons a r=>mT (wE Z a) (wA Z r)
 |_,_=>λ_ _ _=>False
def wT:Wc->W->TT
 |Z,.tp c=>eA Z.K (dP Z.Κ Z.Φ c)
 |Z,.tc op a b=>vY (mR (nD Z.K<|mB<|cmpD op) (wE Z a)<|wE Z b)
 |Z,.xU a=>Jw Z.K (wE Z a)
 |Z,.not a=>vQ (wT Z a)
 |Z,.z4 a b=>F6 (wT Z a) (wT Z b)
 |_,.nil=>wz
 |_,_=>λ_ _ _=>False
end
mutual
def cR:Gw->W->Expr->Bool
 |Γ,.bA c,e=>chkE Γ.g c e
 |Γ,.raw i,e=>hG (gR Γ.g i) e
 |Γ,.bin op a b,e=>(tP e).any λv=>decide (v.2.1=op)&&zw op&&cR Γ a v.1&&cR Γ b v.2.2
 |Γ,.xT c a b,e=>(wK e).any λv=>rg Γ c v.1&&cR Γ a v.2.1&&cR Γ b v.2.2
 |Γ,.tup xs,e=>(oB e).any λes=>nH Γ xs es
 |Γ,.lst xs,e=>(tR e).any λes=>nH Γ xs es
 |Γ,.iB,e=>(Cg e).any λv=>v.1.isEmpty&&v.2.isEmpty
 |Γ,.ix a b,e=>(oE e).any λv=>z67 v.2&&cR Γ a v.1&&cR Γ b v.2
 |Γ,.len a,e=>(jQ e).any λv=>(v.1==("len":U))&&dW Γ.g v.1&&(bT v.2).any λy=>!isStar y&&cR Γ a y
 |Γ,.get o k,e=>(lZ e).any λv=>((v.2.1==("get":U))&&z0n v.1&&v.2.2.2)&&cR Γ o v.1&&(bT v.2.2.1).any λy=>!isStar y&&cR Γ k y
 |Γ,.bO o f,e=>(uU e).any λv=>(v.2.1==f)&&z0n v.1&&cR Γ o v.1
 |Γ,.cI j as,e=>(jQ e).any λv=>lY Γ.g v.1&&(Γ.fn[j]?==Y (v.1,v.2.length))&&nH Γ as v.2&&(Γ.g.cm&& !v.2.isEmpty)
 |Γ,.fT o j as,e=>Γ.g.cm&&(lZ e).any λv=>(z0n v.1&&v.2.2.2&&decide (v.2.2.1.length<20))&&(Γ.me[j]?==Y (v.2.1,v.2.2.1.length))&&cR Γ o v.1&&nH Γ as v.2.2.1
 |Γ,.mk j as,e=>(jQ e).any λv=>lY Γ.g v.1&&(Γ.cl[j]?==Y (v.1,v.2.length))&&nH Γ as v.2&&(Γ.g.cm&& !v.2.isEmpty)
 |Γ,.gE f,e=>(uU e).any λv=>(v.2.1==f)&&z0n v.1&&(hG (λx=>Γ.g.xc.any λu=>u.1==x) v.1)&&(Γ.xf==Y f)
 |Γ,.lv o,e=>Γ.g.cm&&(jQ e).any λv=>(v.1==("list":U))&&dW Γ.g v.1&&(bT v.2).any λy=>(lZ y).any λm=>((m.2.1==("values":U))&&z0n m.1&&m.2.2.2)&&cR Γ o m.1&&m.2.2.1.isEmpty
 |Γ,.cnt o k,e=>(lZ e).any λv=>((v.2.1==("count":U))&&z0n v.1&&v.2.2.2)&&cR Γ o v.1&&(bT v.2.2.1).any λy=>!isStar y&&cR Γ k y
 |Γ,.gi j,e=>hG (λx=>lY Γ.g x&&(Γ.gi[j]?==Y x)) e
 |Γ,.gf j,e=>hG (λx=>lY Γ.g x&&(Γ.hf[j]?.any λu=>u.1==x)) e
 |Γ,.sx i j as,e=>(jQ e).any λv=>gR Γ.g i v.1&&(Γ.hf[j]?.any λu=>u.2==v.2.length)&&nH Γ as v.2&&(Γ.g.cm&& !v.2.isEmpty)
 |_,_,_=>Z6
def nH:Gw->W->List Expr->Bool
 |Γ,.nil,es=>es.isEmpty
 |Γ,.cons a r,es=>match es with|e::es=>!isStar e&&cR Γ a e&&nH Γ r es|_=>Z6
 |_,_,_=>Z6
def rg:Gw->W->Expr->Bool
 |Γ,.tp c,e=>fH Γ.g c e
 |Γ,.tc op a b,e=>(tQ e).any λv=>decide (v.2.1=[op])&&(bT v.2.2).any λr=>z2n op&& !(d5 op r)&&cR Γ a v.1&&cR Γ b r
 |Γ,.xU a,e=>plainT e&&cR Γ a e
 |Γ,.not a,e=>(wJ e).any λv=>decide (v.1=.Not)&&rg Γ a v.2
 |Γ,.z4 a b,e=>(uT e).any λv=>decide (v.1=.Or)&&uV (λx=>rg Γ a x) (λx=>rg Γ b x) .Or v.2.2 v.2.1
 |_,_,_=>Z6
end
structure Zok (Γ:Gw)(Z:Wc)(CX:CXT)(P:b9)(w:World)(K:Z5)(mg:U->Option Value)(base:Heap)(r:Nat):Prop where
 kk:Z.K=K
 mm:Z.mg=mg
 fn:∀(j:Nat) x n,Γ.fn[j]?=Y (x,n)->∃sp f fd ps k,Z.fn[j]?=Y sp/\k<=r/\FnOk P w K mg base CX k f fd ps sp/\mg x=Y (.ref f)/\Z2 K (.ref f)=J/\Binds K fd ps []
 me:∀(j:Nat) m n,Γ.me[j]?=Y (m,n)->∃C sp f fd ps k,Z.me[j]?=Y (C,m,sp)/\k<=r/\FnOk P w K mg base CX k f fd ps sp/\Cls K C/\Meth K C m f/\Binds K fd ps []
 cl:∀(j:Nat) x n,Γ.cl[j]?=Y (x,n)->∃C sp f fd ps k,Z.cl[j]?=Y (C,sp)/\k+1<=r/\FnOk P w K mg base CX k f fd ps sp/\Mk K C f/\mg x=Y (.ref C)/\Binds K fd ps []
 gi:∀(j:Nat) x,Γ.gi[j]?=Y x->∃n t,Z.gi[j]?=Y n/\mg x=Y (.int n t)
 hf:∀(j:Nat) x n,Γ.hf[j]?=Y (x,n)->∃sp f fd ps k,Z.hf[j]?=Y (f,sp)/\k<=r/\FnOk P w K mg base CX k f fd ps sp/\mg x=Y (.ref f)/\Z2 K (.ref f)=J/\Binds K fd ps []
 md:∀(j:Nat) m n,Γ.md[j]?=Y (m,n)->∃C sp f fd ps k,Z.md[j]?=Y (C,m,sp)/\k<=r/\FnOk P w K mg base CX k f fd ps sp/\Cls K C/\Meth K C m f/\Binds K fd ps [.none]
 mq:∀(j:Nat) m kn,Γ.mq[j]?=Y (m,kn)->∃C sp f fd ps k,Z.mq[j]?=Y (C,m,sp)/\k<=r/\FnOk P w K mg base CX k f fd ps sp/\Cls K C/\Meth K C m f/\sY K fd ps [kn] Jv Jv
structure Wok (Γ:Gw)(Z:Wc)(CX:CXT)(X:Cx)(r:Nat):Prop extends Zok Γ Z CX X.prog X.w X.K X.mg X.base r where
 ck:Cok Γ.g Z.Κ Z.Φ X r
 room:Γ.g.cm=J->Room r X.A
 px:z2r CX X Z.E
 xf:∀f,Γ.xf=Y f->∃v,Z.xf=Y v/\∀n c,Γ.g.xc=Y (n,c)->∀p q,z0n (.Name n p)=J->PE X (.Attribute (.Name n p) f q) (λ_ H Q=>Q v H)
 W7:∀outer H s e s',¬CX outer H s (λ_ _ _=>False) e s'
section
variable {X:Cx}
def z9w {C:Addr}(v:PE X o y)(c:Cls X.K C)(hm:Meth X.K C m f)
  (n:z0n o=J) (p:(es.all λe=>!isStar e)=J) (z:es.length<20) (g:(k.endLine==b.line)=J)
  (go:∀d s j H Q a,Inv X d j H s->(t j H λvs B=>sp (.ref a::(vs++dvs)) B Q E)->X['a'] (callWith b (.ref f) [.ref a] (ja b<|cx es X.env)<|m6 b<|ki [] X.env) (EP X d j Q) X.xe s):
  PE X (.Call (.Attribute o m k) es [] b) (rO C m sp dvs E y t):=by
 intro d s j H Q I h;rw[arm_eval_Call,kU n];refine aa<|aR (v d s j H _ I h) λu D ⟨x,F,r,G,a,dx,fs,ex,ZK,l,q⟩=>?_;subst ex;obtain rfl:u=ZR a:=G;refine aa<|i8 ?_;have i:methodCallForm (es.length+([]:List k4).length) (ja b<|cx es X.env) (m6 b<|ki [] X.env)=true:=z3m p z;unfold methodCall;rw[i];refine aa<|fz<|zat r ZK c hm l ?_;exact aa (wpAny_of_eq (by unfold methodCallPos;simp[g])<|go d D j F Q a r q)
variable {CX:CXT}{k:Nat}{f C:Addr}{fd:d6}{ps:List U}{sp:Sp}{E:XK}{m:U}{apos cpos:Pos}{o e:Expr}{es:List Expr}{ta:TE}{t:TA}
theorem zi1 (l:PE X o ta)(c:Cls X.K C)(hm:Meth X.K C m f)(F:FnOk X.prog X.w X.K X.mg X.base CX k f fd ps sp)(hr:Room k X.A)(n:Binds X.K fd ps [])(p:z2r CX X E)(u:PA X (e::es) t)
  (h:z0n o=J) (b:((e::es).all λe=>!isStar e)=J) (v:(e::es).length<20) (d:(apos.endLine==cpos.line)=J):
  PE X (.Call (.Attribute o m apos) (e::es) [] cpos) (rO C m sp [] E ta t):=
 z9w l c hm h b v d λg s x H Q a I q=>by rw[b8,aj]at b;refine W.callWith_K I.ok.mod.uI hm.kp (aR (u cpos g s x H _ I q) λz B ⟨i,D,j,r,y⟩=>{j.dM,?_}) (eK<|by simpa using b.1)<|mV b.2;exact z96 (vs:=.ref a::i) F hr n .nil p j (.cons rfl r) y
theorem zef (g:PE X o ta)(c:Cls X.K C)(hm:Meth X.K C m f)(F:FnOk X.prog X.w X.K X.mg X.base CX k f fd ps sp)(hr:Room k X.A)(h:Binds X.K fd ps [])(i:z2r CX X E)
  (d:z0n o=J) (b:(apos.endLine==cpos.line)=J):
  PE X (.Call (.Attribute o m apos) [] [] cpos) (rO C m sp [] E ta fF):=
 z9w g c hm d rfl dc b λe s j H Q a I q=>W.callWith_K0 I.dM hm.kp (z96 (vs:=[.ref a]) F hr h .nil i I (.cons rfl .nil) q)
end
section
variable {Γ:Gw}{Z:Wc}{CX:CXT}{X:Cx}{r:Nat}
structure We (w:W):Prop where
 E:∀(Γ:Gw) (Z:Wc) (CX:CXT) (X:Cx) (r:Nat) (e:Expr),Wok Γ Z CX X r->cR Γ w e=J->PE X e (wE Z w)
 A:∀(Γ:Gw) (Z:Wc) (CX:CXT) (X:Cx) (r:Nat) (es:List Expr),Wok Γ Z CX X r->nH Γ w es=J->PA X es (wA Z w)
 T:∀(Γ:Gw) (Z:Wc) (CX:CXT) (X:Cx) (r:Nat) (e:Expr),Wok Γ Z CX X r->rg Γ w e=J->PT X e (wT Z w)/\((∃o l p,e=.BoolOp o l p)->PW X e (wT Z w))
theorem We.x (h:∀Γ Z CX X r e,Wok Γ Z CX X r->cR Γ w e=J->PE X e (wE Z w))(a:∀Γ es,nH Γ w es=Z6)(b:∀Γ e,rg Γ w e=Z6):We w where
 E:=h
 A:=λΓ Z CX X r es k z=>ff (a Γ es) z
 T:=λΓ Z CX X r e k z=>ff (b Γ e) z
theorem We.t (h:∀Γ Z CX X r e,Wok Γ Z CX X r->rg Γ w e=J->PT X e (wT Z w)/\((∃o l p,e=.BoolOp o l p)->PW X e (wT Z w)))(a:∀Γ e,cR Γ w e=Z6)(b:∀Γ es,nH Γ w es=Z6):We w where
 E:=λΓ Z CX X r e k z=>ff (a Γ e) z
 A:=λΓ Z CX X r es k z=>ff (b Γ es) z
 T:=h
def zht {i:Nat}{g a}(hN:X.N[i]?=Y x)(m:Vis X.env.scope x)(hd:Xf x)(b:(x==("__classdict__":U))=Z6)(F:FnOk X.prog X.w X.K X.mg X.base CX k f fd ps sp)(n:Room k X.A)(hk:Z2 X.K (.ref f)=J)(o:Binds X.K fd ps g)(c:Vals a g)(y:z2r CX X E)
  (z:PA X (e::es) t) (B:cx (e::es) X.env=(Z6,eval e X.env)::cx es X.env) (d:(ja pos<|cx es X.env).any (·.1)=Z6):
  PE X (.Call (.Name x p) (e::es) [] pos) (λσ H Q=>σ[i]?=Y (Y<|.ref f)/\kS sp a E t σ H Q):=by
 intro pins s σ H Q I h;refine f9<|aR (pF hN m hd b pins s σ H (λv H'=>v=.ref f/\kS sp a E t σ H' Q) I {_,h.1,rfl,h.2}) λu s1 ⟨v,H1,j,r,C,h⟩=>?_;subst C;obtain rfl:u=ZR f:=r;refine W.callWith_K j.ok.mod.uI hk (aR (z pos pins s1 σ H1 _ j h) λus D ⟨vs,G,l,r,q⟩=>{l.dM,?_}) B d;exact z96 F n o c y l r q
theorem xV:∀{w:W} {es:List Expr},nH Γ w es=J->(es.all λe=> !isStar e)=J
 |.nil,es,h=>by cases fR h;rfl
 |.cons a r,[],h=>by ext h
 |.cons a r,e::es,h=>by let{b,_,c}:=aV h;rw[b8,b,xV c];rfl
theorem Wok.rm (k:Wok Γ Z CX X r)(a:Γ.g.cm=J)(h:j<=r):Room j X.A:=(k.room a).mono h
theorem eqB {c:Type} [BEq c] [LawfulBEq c] {a b:c}(h:(a==b)=J):a=b:=eq_of_beq h
def SX (h:((tQ e).any λv=>decide (v.2.1=[c])&&(bT v.2.2).any λr=>z2n c&& !(d5 c r)&&cR Γ a v.1&&cR Γ b r)=J):∃l r p,e=.Compare l [c] [r] p/\z2n c=J/\d5 c r=Z6/\cR Γ a l=J/\cR Γ b r=true:=by let{{l,o,rs},g,i}:=aL h;let{p,rfl}:=qT g;let{j,d}:=aD i;let{r,hr,f}:=aL d;cases qw j;cases fX hr;let{d,f,k,m}:=bN f;exact{l,r,p,rfl,d,cX f,k,m}
def D6 (h:cR Γ (.fT o j as) e=J):Γ.g.cm=J/\∃b m a es c,e=.Call (.Attribute b m a) es [] c/\(a.endLine==c.line)=J/\z0n b=J/\es.length<20/\Γ.me[j]?=Y (m,es.length)/\cR Γ o b=J/\nH Γ as es=true:=by let{d,h}:=aD h;let{{x,n,es,b},f,i}:=aL h;let{a,c,rfl,k}:=fK f;let{h0,l,p,q}:=bN i;let{r,s,t}:=aV h0;exact{d,x,n,a,es,c,rfl,k.symm.trans s,r,qw t,eqB l,p,q}
theorem SY (b:z0n o=J)(a:(!isStar e)=J)(c:(d.endLine==f.line)=J):M1 X o m d e f:={kU b,z3m (by rw[b8,a];rfl) (show 1<20 by decide),c,by rw[eK<|cX a];rfl}
def dQ (w:W):We w:=by
 induction w with
 |bA c=>exact We.x (λΓ Z CX X r e k h=>by show PE X e (tD Z.K<|aJ Z.Κ Z.Φ c);rw[k.kk];exact(all c).E Γ.g X r e k.ck h) (λ_ _=>rfl) λ_ _=>rfl
 |raw i=>exact We.x (λΓ Z CX X r e k h=>by let{x,p,rfl,h}:=gS h;let{d,B,G,D}:=k.ck.aU h;exact pF d B G D) (λ_ _=>rfl) λ_ _=>rfl
 |bin op a b M ZM=>exact We.x (λΓ Z CX X r e k h=>by let{v,ZK,L}:=aL h;let{p,rfl}:=ID ZK;let{d,B,G,D}:=bN L;cases qw d;show PE X _ (mR (qN Z.K<|cW _) _ _);rw[k.kk];exact Gs (Hj _ B) (M.E Γ Z CX X r _ k G)<|ZM.E Γ Z CX X r _ k D) (λ_ _=>rfl) λ_ _=>rfl
 |xT c a b ic M ZM=>exact We.x (λΓ Z CX X r e k h=>by let{v,ZK,L}:=aL h;let{p,rfl}:=QW ZK;let{d,B,G}:=aV L;exact Mw (ic.T Γ Z CX X r _ k d).1 (M.E Γ Z CX X r _ k B)<|ZM.E Γ Z CX X r _ k G) (λ_ _=>rfl) λ_ _=>rfl
 |tup xs M=>exact We.x (λΓ Z CX X r e k h=>by let{v,ZK,L}:=aL h;let{_,_,rfl}:=xq ZK;exact BK<|M.A Γ Z CX X r _ k L) (λ_ _=>rfl) λ_ _=>rfl
 |lst xs M=>exact We.x (λΓ Z CX X r e k h=>by let{v,ZK,L}:=aL h;let{_,rfl}:=IE ZK;exact GH<|M.A Γ Z CX X r _ k L) (λ_ _=>rfl) λ_ _=>rfl
 |iB=>exact We.x (λΓ Z CX X r e k h=>by let{{a,b},ZK,L}:=aL h;let{_,rfl}:=xr ZK;let{d,B}:=aD L;cases fR d;cases fR B;exact GR) (λ_ _=>rfl) λ_ _=>rfl
 |ix a b M ZM=>exact We.x (λΓ Z CX X r e k h=>by let{v,ZK,L}:=aL h;let{_,rfl}:=zR ZK;let{d,B,G}:=aV L;show PE X _ (mR (tX Z.K) _ _);rw[k.kk];exact G0 (Hw k.ck.hu) (M.E Γ Z CX X r _ k B) (ZM.E Γ Z CX X r _ k G)<|Hx d) (λ_ _=>rfl) λ_ _=>rfl
 |len a M=>exact We.x (λΓ Z CX X r e k h=>by let{{x,es},ZK,L}:=aL h;let{_,_,rfl}:=jR ZK;let{d,B,G}:=aV L;let{y,hy,D}:=aL G;cases fX hy;let{D,P}:=aD D;have d:=eqB d;subst d;let{ZL,g2,g3,g4}:=k.ck.blt B;show PE X _ (pZ (z68 Z.K<|gP "len") _);rw[k.kk];exact zt Hz g2 (show cy "len"=_ by decide+kernel) (dY (M.E Γ Z CX X r _ k P) kR<|cX D) (by rw[b8,D];rfl) ZL g4 g3) (λ_ _=>rfl) λ_ _=>rfl
 |get o y io iy=>exact We.x (λΓ Z CX X r e k h=>by let{{x,n,es,b},ZK,L}:=aL h;let{ap,cp,rfl,hb}:=fK ZK;let{h0,R,h7}:=aV L;let{d,B,G}:=aV h0;let{y,hy,D}:=aL h7;cases fX hy;let{D,P}:=aD D;have d:=eqB d;subst d;exact Nk (lj (n9 dc _) k.ck.hu) (io.E Γ Z CX X r _ k R) (iy.E Γ Z CX X r _ k P)<|SY B D<|hb.symm.trans G) (λ_ _=>rfl) λ_ _=>rfl
 |bO o f io=>exact We.x (λΓ Z CX X r e k h=>by let{{x,n,p},ZK,L}:=aL h;cases oO ZK;let{d,B,G}:=aV L;have d:=eqB d;subst d;show PE X _ (sU Z.K _ _);rw[k.kk];exact M9 (io.E Γ Z CX X r _ k G)<|kU B) (λ_ _=>rfl) λ_ _=>rfl
 |cI j O M=>exact We.x (λΓ Z CX X r e k h=>by
  let{{x,es},ZK,L}:=aL h;let{_,_,rfl}:=jR ZK;let{d,B,G,D}:=bN L;let{N,D}:=aD D;let{y,es,rfl}:=se D;let{ZL,g2}:=k.ck.gl d;let{sp,f,fd,ps,n,c1,c2,c3,c4,c5,c6}:=k.fn j _ _<|eqB B;let{s1,s2}:=b8.symm.trans (xV G) |> av.mp;have S:wE Z (.cI j O)=kS sp [] Z.E (wA Z O):=by show(match Z.fn[j]? with|some sp=>kS sp [] Z.E (wA Z O)|none=>eU)=_;rw[c1]
  rw[S];exact zdf c3 (k.rm N c2) ZL c4 c5 c6 .nil k.px (M.A Γ Z CX X r _ k G) g2 (eK<|cX s1)<|mV s2) (λ_ _=>rfl) λ_ _=>rfl
 |fT o j O io M=>exact We.x (λΓ Z CX X r e k h=>by
  let{N,b,m,ap,es,cp,rfl,d,B,G,D,P,R}:=D6 h;let{C,sp,f,fd,ps,n,c1,c2,c3,c4,c5,c6}:=k.me j _ _ D;have S:wE Z (.fT o j O)=rO C m sp [] Z.E (wE Z o) (wA Z O):=by show(match Z.me[j]? with|some r=>rO r.1 r.2.1 r.2.2 [] Z.E (wE Z o) (wA Z O)|none=>eU)=_;rw[c1]
  rw[S];have ho:=io.E Γ Z CX X r _ k P;cases es with
  |nil=>
   refine PE.imp (zef ho c4 c5 c3 (k.rm N c2) c6 k.px B d) λσ H Q q=>?_;have:wA Z O=fF:=by ext O<;>first|rfl|(ext R;done)
   rw[this]at q;exact q
  |cons y es=>exact zi1 ho c4 c5 c3 (k.rm N c2) c6 k.px (M.A Γ Z CX X r _ k R) B (xV R) G d) (λ_ _=>rfl) λ_ _=>rfl
 |mk j O M=>exact We.x (λΓ Z CX X r e k h=>by
  let{{x,es},ZK,L}:=aL h;let{_,_,rfl}:=jR ZK;let{d,B,G,D}:=bN L;let{N,D}:=aD D;let{y,es,rfl}:=se D;let{ZL,g2}:=k.ck.gl d;let{C,sp,f,fd,ps,n,c1,c2,c3,c4,c5,c6}:=k.cl j _ _<|eqB B;let{s1,s2}:=b8.symm.trans (xV G) |> av.mp;have S:wE Z (.mk j O)=uM C sp [] Z.E (wA Z O):=by show(match Z.cl[j]? with|some r=>uM r.1 r.2 [] Z.E (wA Z O)|none=>eU)=_;rw[c1]
  rw[S];exact znu c4 c3 ((k.room N).mono c2) ZL c5 c6 .nil k.px (M.A Γ Z CX X r _ k G) g2 (eK<|cX s1)<|mV s2) (λ_ _=>rfl) λ_ _=>rfl
 |tp c=>exact We.t (λΓ Z CX X r e k h=>by show PT X e (eA Z.K<|dP Z.Κ Z.Φ c)/\(_->PW X e (eA Z.K<|dP Z.Κ Z.Φ c));rw[k.kk];exact(all c).T Γ.g X r e k.ck h) (λ_ _=>rfl) λ_ _=>rfl
 |tc op a b M ZM=>exact We.t (λΓ Z CX X r e k h=>by let{_,_,_,rfl,B,G,D,P}:=SX h;refine{?_,λ⟨_,_,_,z⟩=>by ext z};show PT X _ (vY<|mR (nD Z.K<|mB<|cmpD _) _ _);rw[k.kk];exact Gv (tW k.ck.hu _ B) (M.E Γ Z CX X r _ k D) (ZM.E Γ Z CX X r _ k P) G) (λ_ _=>rfl) λ_ _=>rfl
 |xU a M=>exact We.t (λΓ Z CX X r e k h=>by let{d,B}:=aD h;refine{?_,λ⟨_,_,_,z⟩=>by subst z;ext d};show PT X _ (Jw Z.K _);rw[k.kk];exact z9a (M.E Γ Z CX X r _ k B)<|IG d _) (λ_ _=>rfl) λ_ _=>rfl
 |not a M=>exact We.t (λΓ Z CX X r e k h=>by let{{o,x},ZK,L}:=aL h;let{p,rfl}:=qS ZK;let{d,B}:=aD L;cases qw d;exact{F8 (M.T Γ Z CX X r _ k B).1,λ⟨_,_,_,z⟩=>by ext z}) (λ_ _=>rfl) λ_ _=>rfl
 |z4 a b M ZM=>exact We.t (λΓ Z CX X r e k h=>by
  let{{o,xs,p},ZK,L}:=aL h;cases oN ZK;let{d,B}:=aD L;cases qw d;rcases xy B with⟨x,y,rfl,G,D⟩|⟨x,y,z,t,rfl,G,D⟩
  .have w:=Bn (pos:=p) (M.T Γ Z CX X r _ k G).1<|F7 (ZM.T Γ Z CX X r _ k D).1;exact{w.pt,λ_=>w}
  .have w:=Bn (M.T Γ Z CX X r _ k G).1<|(ZM.T Γ Z CX X r _ k D).2 {_,_,_,rfl};exact{w.pt,λ_=>w}) (λ_ _=>rfl) λ_ _=>rfl
 |gE f=>exact We.x (λΓ Z CX X r e k h=>by
  let{{x,n,p},ZK,L}:=aL h;cases oO ZK;let{d,h0,B,G}:=bN L;have d:=eqB d;subst d;let{y,q,rfl,D}:=gS B;let{{m,c},P,R}:=aL D;have R:=eqB R;subst R;let{v,e1,e2}:=k.xf n<|eqB G;have S:wE Z (.gE n)=λ_ H Q=>Q v H:=by show(match Z.xf with|some v=>(λ_ H Q=>Q v H:TE)|none=>eU)=_;rw[e1]
  rw[S];exact e2 m c P _ _ h0) (λ_ _=>rfl) λ_ _=>rfl
 |lv o io=>exact We.x (λΓ Z CX X r e k h=>by let{N,h}:=aD h;let{{x,es},ZK,L}:=aL h;let{_,_,rfl}:=jR ZK;let{d,B,G}:=aV L;let{y,hy,D}:=aL G;cases fX hy;let{{b,n,es,l},hm,h8}:=aL D;let{ap,cp,rfl,hb}:=fK hm;let{h0,R,h7}:=aV h8;let{P,S0,S3}:=aV h0;cases fR h7;have P:=eqB P;subst P;have d:=eqB d;subst d;let{ZL,g2,g3,g4}:=k.ck.blt B;show PE X _ (pZ z3<|mT (tq Z.K "dict" zZ _) fF);rw[k.kk];exact B3 (SR<|k.ck.calm N) g2 (show cy "list"=_ by decide+kernel) (dY (z6x PySem.F.plainAttrs_dict PySem.F.slot_dict_values PySem.F.type_dict_values SQ (io.E Γ Z CX X r _ k R) (kU S0)<|hb.symm.trans S3) kR rfl) rfl ZL g4 g3) (λ_ _=>rfl) λ_ _=>rfl
 |cnt o y io iy=>exact We.x (λΓ Z CX X r e k h=>by let{{x,n,es,b},ZK,L}:=aL h;let{ap,cp,rfl,hb}:=fK ZK;let{h0,R,h7}:=aV L;let{d,B,G}:=aV h0;let{y,hy,D}:=aL h7;cases fX hy;let{D,P}:=aD D;have d:=eqB d;subst d;show PE X _ (wu Z.K "list" q9 _ _);rw[k.kk];exact zav PySem.F.plainAttrs_list PySem.F.slot_list_count PySem.F.type_list_count SW (io.E Γ Z CX X r _ k R) (dY (iy.E Γ Z CX X r _ k P) kR<|cX D) (kU B) (z3m (by rw[b8,D];rfl) (show 1<20 by decide)) (hb.symm.trans G) (eK<|cX D)<|mV rfl) (λ_ _=>rfl) λ_ _=>rfl
 |gi j=>exact We.x (λΓ Z CX X r e k h=>by
  let{x,p,rfl,d}:=gS h;let{B,G}:=aD d;let{ZL,g2}:=k.ck.gl B;let{n,t,e1,e2}:=k.gi j x<|eqB G;have S:wE Z (.gi j)=λ_ H Q=>Q (.int n) H:=by show(match Z.gi[j]? with|some n=>(λ_ H Q=>Q (.int n) H:TE)|none=>eU)=_;rw[e1]
  rw[S];exact λpins s σ H Q I h=>z2x I ZL e2 {.int n,H,I,{(t),rfl},h} g2) (λ_ _=>rfl) λ_ _=>rfl
 |gf j=>exact We.x (λΓ Z CX X r e k h=>by
  let{x,p,rfl,d}:=gS h;let{B,G}:=aD d;let{ZL,g2}:=k.ck.gl B;let{u,hu,D}:=aL G;let{sp,f,fd,ps,n,c1,c2,c3,c4,c5}:=k.hf j u.1 u.2 hu;cases q8 D;have S:wE Z (.gf j)=λ_ H Q=>Q (V.ref f) H:=by show(match Z.hf[j]? with|some r=>(λ_ H Q=>Q (.ref r.1) H:TE)|none=>eU)=_;rw[c1]
  rw[S];exact λpins s σ H Q I h=>z2x I ZL c4 {.ref f,H,I,rfl,h} g2) (λ_ _=>rfl) λ_ _=>rfl
 |sx i j O M=>exact We.x (λΓ Z CX X r e k h=>by
  let{{x,es},ZK,L}:=aL h;let{_,_,rfl}:=jR ZK;let{d,B,G,D}:=bN L;let{N,D}:=aD D;let{y,es,rfl}:=se D;let{v1,v2,v3,v4}:=k.ck.aU d;let{u,hu,P}:=aL B;let{sp,f,fd,ps,n,c1,c2,c3,c4,c5,c6}:=k.hf j u.1 u.2 hu;let{s1,s2}:=b8.symm.trans (xV G) |> av.mp;have S:wE Z (.sx i j O)=λσ H Q=>σ[i]?=Y (Y<|V.ref f)/\kS sp [] Z.E (wA Z O) σ H Q:=by show(match Z.hf[j]? with|some r=>(λσ H Q=>σ[i]?=Y (Y<|V.ref r.1)/\kS r.2 [] Z.E (wA Z O) σ H Q:TE)|none=>eU)=_;rw[c1]
  rw[S];exact zht v1 v2 v3 v4 c3 (k.rm N c2) c5 c6 .nil k.px (M.A Γ Z CX X r _ k G) (eK<|cX s1)<|mV s2) (λ_ _=>rfl) λ_ _=>rfl
 |nil=>exact{λ_ _ _ _ _ _ _ h=>ff rfl h,λΓ Z CX X r es k h=>by cases fR h;exact kR,λ_ _ _ _ _ _ _ h=>ff rfl h}
 |cons a q M iq=>exact⟨λ_ _ _ _ _ _ _ h=>ff rfl h,λΓ Z CX X r es k h=>by
  cases es with
  |nil=>ext h
  |cons e es=>let{d,B,G}:=aV h;exact dY (M.E Γ Z CX X r _ k B) (iq.A Γ Z CX X r _ k G)<|cX d,λ_ _ _ _ _ _ _ h=>ff rfl h⟩
end
theorem z5 (outer:List Env)(H:Hp)(s:aq)(e:Value)(a:aq):¬CXE P w base outer H s (λ_ _ _=>False) e a:=λz=>by let{_,_,_,_,_,_,z}:=z;exact z
def lC (X:Cx)(pn:List<|Addr×Obj)(E:Value->aq->Prop):Cx:={X with pn:=pn,xe:=E}
section
variable {X:Cx}{pins nO:List<|Addr×Obj}{σ:L2.St}{H:Hp}{s:aq}{E:Value->aq->Prop}{pn:List<|Addr×Obj}
theorem Jx (ok:X.Ok):(lC X pn E).Ok:={ok.mod,ok.kind,ok.glob,ok.blt,ok.above,ok.inj,ok.has,(ok.sP),ok.hd,ok.frames,ok.uJ,ok.gE,ok.bs,ok.mP,ok.jV,ok.jW,ok.dF,ok.pX,ok.zb}
theorem S4 (I:Inv X a b H s)(E:Value->aq->Prop):Inv (lC X (X.pn++a) E) [] b H s:={Jx I.ok,I.os,I.bare,I.base,I.loc,I.cell,I.free,I.bJ,λp c=>I.pin p (by simpa[Mi.lC]using c),I.hok,I.len,I.fx}
theorem D7 (ok:X.Ok)(I:Inv (lC X (X.pn++a) E) nO b H s):Inv X a b H s:={ok,I.os,I.bare,I.base,I.loc,I.cell,I.free,I.bJ,λp c=>I.pin p<|cq _ c,I.hok,I.len,I.fx}
theorem Jy (k:Cok a Κ Φ X r)(hx:a.xc=Z8)(pn:List<|Addr×Obj)(E:Value->aq->Prop):Cok a Κ Φ (lC X pn E) r:={k.hN,k.hs,k.nd,k.fn,k.kind,k.free,k.fns,k.cst,k.lB,k.room,k.calm,k.hu,k.mF,k.xv,λn c z=>(by rw[hx]at z;ext z),k.xk}
end
section
variable {P:b9}{w:World}{A:eh}{E:Value->aq->Prop}{h:Heap}{g:Array pv}{d:Drawn}{t:Nat}{os:ke}
variable {nm q:U}{C N:Addr}{bs bm bB:List Value}{hdct:Bool}{sn:List U}{sub:List Value}{ab:Bool}{col:Option Bool}{dd:Option Addr}{k0 k1 k2 k3 k5:Option Value}{B newId initId:String}{mN:U->Option Value}{us:List Value}{f:Addr}{o:Obj}
def zqt (F:ExcBaseFacts B newId initId bB)(T:nr h bB bm)(a:h.get? C=Y (lu nm q C N bs bm hdct sn sub ab col dd k0 k1 k2 k3 k5 newId))(hN:h.Ns N mN)(v:mN "__init__"=Y (.ref f))(hf:h.get? f=Y o)(hc:o.cls=.type "function")
  (go:∀n e,h.objs.size<=e->li h n e (.ref C) us->wpAny (model P w) A (call (.ref f) (.ref e::us)) (λr p=>r=.none/\Q (.done<|.ret<|.ref e) p) E {(n),g,d,t,os}) (x:us.length<=aw):
  wpAny (model P w) A (Builtin.«type.__call__» ⟨.ref C::us,[]⟩) Q E ⟨h,g,d,t,os⟩:=by
 repeat (first|(exists wpAny_madeBy_exc a ?_)|(exists bz a ?_)|wp_step)
 refine codeAny_call_builtin_code (Code.quiet_builtin _ F.quiet)<|wpAny_check_new_subT F T a<|codeAny_exc_new_subT F T a ?_ x;generalize s:({cls:=.type "tuple",data:=.seq us.toArray}:Obj)=i;generalize l:({cls:=.ref C,data:=.fields #[.ref h.objs.size,.none,.none,.none,.bool Z6,.none]}:Obj)=c;have keep:∀b u,h.get? b=Y u->((h.push i).push c).get? b=Y u:=λb u z=>af _<|af _ z;have j:((h.push i).push c).get? (h.objs.size+1)=Y c:=lw (by rw[m5]) (by rw[<-l];rfl);have m:((h.push i).push c).get? h.objs.size=Y i:=af _<|lw rfl (by rw[<-s];rfl);have k:c.cls=.ref C:=by rw[<-l]
 have self:(ZR C::bm).contains (.ref C)=true:=by simp
 repeat (first|(exists bz j ?_;rw[k])|(exists gv (keep _ _ a) ?_;rw[self])|wp_step)
 refine wpAny_typeLookup_tail (keep _ _ a) (hN.keeps keep) (T.keeps keep) F.mroIs F.init.lookup ?_;rw[v];apply fz;apply aa;refine aa<|wpAny_typeOf {o,keep _ _ hf,hc} ?_;have made:li h ((h.push i).push c) (h.objs.size+1) (.ref C) us:={keep,gp<|ij _,h.objs.size,by rw[j,<-l],gp<|ag _,by rw[m,<-s]};refine au<|aa<|il (go _ _ (ij _) made) (λr p z=>?_) λ_ _ z=>z;let{rfl,z}:=z
 wp_walk
 exact z
def zui (F:ExcBaseFacts B newId initId bB)(T:nr h bB bm)(a:h.get? C=Y (lu nm q C N bs bm hdct sn sub ab col dd k0 k1 k2 k3 k5 newId))(hN:h.Ns N mN)(c:mN "__init__"=Y (.ref f))(hf:h.get? f=Y o)(i:o.cls=.type "function")
  (go:∀b e,h.objs.size<=e->li h b e (.ref C) us->wpAny (model P w) (A.under<|.builtin "type.__call__" {.ref C::us,[]}) (call (.ref f) (.ref e::us)) (λr j=>r=.none/\Q (.ref e) j) E {(b),g,d,t,os}) (k:us.length<=aw):
  wpAny (model P w) A (call (.ref C) us) Q E {(h),g,d,t,os}:=by
 have l1:=tc_lookup;have l2:=tc_bind<|.ref C;apply oy;apply codeAny_of_tree
 repeat (any_goals (first|(exists bz a ?_)|assumption|wp_step))
 exact{rfl,codeAny_call_builtin_at (Code.quiet_builtin _ Z') entry_typeCall<|wpAny_check_type_call_sub a<|zqt F T a hN c hf i go k}
end
section
open Builtin
open Builtin.ObjectAttr
structure XF (K:Z5)(C:Addr)(f:U):Prop where
 ex:gI K C=J
 hd:∀dd cd sl,K.lookup C=Y {.type "type",dd,.cls cd,sl}->cd.hasDict=J
 sa:Z4 K (.ref C) "__setattr__"=Y (Y<|.builtin "object.__setattr__")
 nf:Z4 K (.ref C) f=Y Z8
 ga:Z4 K (.ref C) "__getattribute__"=Y (Y<|.builtin "BaseException.__getattribute__")
 gt:Z4 K (.ref C) "__getattr__"=Y Z8
 ob:ZZ K (.ref C) (.type "object")=Y J
 be:ZZ K (.ref C) (.type "BaseException")=Y J
theorem Jz:∀{l:List Value},nr h qR l->refuseLoop self what qR=pure ()->refuseLoop self what l=pure ()
 |_,.base,e=>e
 |_,.own _ _ _ T,e=>by rw[refuseLoop_ref];exact Jz T e
section
variable {prog:b9}{w:World}{A:eh}{E:Value->aq->Prop}{K:Z5}{h:Heap}{g:Array pv}{d:Drawn}{t:Nat}{os:ke}{C a:Addr}{ob:Obj}{vs:Array Value}{f:U}{u:Value}
def JA (h:Heap)(a:Addr)(ob:Obj)(f:U)(u:Value)(h':Heap):Prop:=∃dp,h.get? dp=Z8/\dp≠a/\h.objs.size<=dp/\h'.get? a=Y {ob with dict:=Y dp}/\h'.Ns1 dp (λy=>if y=f then Y u else Z8)/\∀b o,b≠a->h.get? b=Y o->h'.get? b=Y o
def zgc (X:K.In h)(x:XF K C f)(k:h.get? a=Y ob)(hc:ob.cls=.ref C)(hd:ob.dict=Z8)(da:ob.data=.fields vs)
  (go:∀l p,JA h a ob f u l->Q (.done<|.ret .none) {(l),g,d,p,os}):
  wpAny (model prog w) A (Builtin.«object.__setattr__» ⟨[.ref a,.str f vv9,u],[]⟩) Q E ⟨h,g,d,t,os⟩:=by
 let{bm,{N,nm,q,bs,j,ZM,sub,Z,H,dd,k0,k1,k2,k3,k5,mN,B,hN,T},_}:=XC.mk X x.ex;have I:j=true:=by let{ZK,cd,L,y0,y1,y2,y3,y5,D,_}:=vc x.ex;have O:=x.hd _ _ _ D;have F:=X _ _ D;rw[B]at F;ext F;exact O
 have c:=Jz (self:=.ref a) (what:="__setattr__") T (by kernel_rfl);have P:=Z3 (M:=model prog w) X x.nf
 repeat (first|rw[refuse_eq]|(rw[refuseLoop_ref,c])|(exists bz k ?_;rw[hc])|exists wpAny_mroOf_exc B ?_|exists P.at ?_|wp_step)
 rw[hd,qr (by simp[typeHasDict]),da];have g1:(h.push {cls:=.type "dict",data:=.dict #[]}).get? a=Y ob:=af _ k;have na:=cg<|bb k;refine aa<|wpAny_alloc'<|aa<|wpAny_update' g1<|au ?_;generalize hh:((h.push {cls:=.type "dict",data:=.dict #[]}).update a λo=>{cls:=o.cls,dict:=Y h.objs.size,data:=o.data,slots:=o.slots})=m;have gd:m.get? h.objs.size=Y {cls:=.type "dict",data:=.dict #[]}:=by rw[<-hh];exact(kx _ _ _ _<|Ne.symm na).trans (lw rfl rfl)
 have ga:m.get? a=Y {ob with dict:=Y h.objs.size}:=by rw[<-hh];refine ey _ g1 ?_;have fr:=(Heap.get?_some_iff.mp k).2;let{oc,od,r,R}:=ob;ext r<;>first|rfl|exact fr
 have keep:∀b o,b≠a->h.get? b=Y o->m.get? b=Y o:=λb o n e=>by rw[<-hh];exact(kx _ _ _ _ n).trans (af _ e)
 have nd:m.Ns h.objs.size (λ_=>Z8):={_,#[],_,gd,rfl,λe z=>absurd z ZO,λ_=>rfl}
 delta storeInDict newKeyGuard
 refine aa<|au<|aa<|wpAny_nsSet1 (o8 nd) λl n1 G=>?_;let{oD,S,ZL,s,BH,v}:=n1.count<|Within.cons f u Within.nil;have i:[f].length<=aw+1:=by rw[cf];exact(by decide:1<=16777216+1)
 have y:=bj v i;refine aa (wpAny_lookBehind s (BH▸pastItsLine_dict y) ?_)
 wp_walk
 refine go l _ {h.objs.size,gp<|ag _,Ne.symm na,ag _,(G.2 a na).trans ga,n1,λb o n e=>(G.2 b<|cg<|bb e).trans<|keep b o n e}
def zgd {M:Model}{b:Value}{Q:Unit->aq->Prop}(X:K.In h)(x:XF K C f)(c:h.get? a=Y ob)(e:ob.cls=.ref C)(i:Q () {(h),g,d,t,os}):
  wpAny M A (j8 "object.__setattr__" {[.ref a,b,u],[]}) Q E {(h),g,d,t,os}:=by
 have j:qb "object.__setattr__"=Y .slot:=by decide+kernel
 have k:splitId "object.__setattr__"=Y ("object","__setattr__"):=by decide+kernel
 have l:=W.looks_subIn (M:=M) X x.ob;have m:=PySem.F.args_object_setattr_3 (.ref a) b u;simp only[j8,j,k];refine aa ?_;unfold o5
 repeat (first|(exists bz c ?_;rw[e])|exists l.at ?_|wp_step)
 exact i
def zpd (X:K.In h)(x:XF K C f)(e:h.get? a=Y ob)(hc:ob.cls=.ref C)(hd:ob.dict=Z8)(da:ob.data=.fields vs)
  (go:∀c b,JA h a ob f u c->Q () {(c),g,d,b,os}):w['b'] (setAttr (.ref a) f u) Q E {(h),g,d,t,os}:=by
 have i:=PySem.F.slot_list_setattr.bind (.ref a)
 repeat (any_goals (first|assumption|(exists bz e ?_;rw[hc])|with_reducible refine(Z3 (M:=model prog w) X x.sa).at ?_|wp_step))
 refine jg PySem.F.slot_list_setattr.plain PySem.F.entry_object_setattr (zgd X x e hc<|zgc X x e hc hd da λc b p=>?_)
 repeat (any_goals (first|assumption|wp_step))
 exact go c b p
def zm3 (X:K.In h)(x:XF K C f)(c:h.get? a=Y ob)(hc:ob.cls=.ref C)(da:ob.data=.fields vs)(hd:ob.dict=Y dp)(hn:h.Ns dp k)(l:k f=Y u)
  (m:Q (.done<|.ret u) ⟨h,g,d,t,os⟩):wpAny (model prog w) A (Builtin.«object.__getattribute__» ⟨[.ref a,.str f y],[]⟩) Q E ⟨h,g,d,t,os⟩:=by
 let{bm,{N,nm,q,bs,b,z,sub,B,n,D,F,G,H,I,ZK,L,e,hN,T},_}:=XC.mk X x.ex;have o:b=true:=by let{p,cd,r,O,P,R,S,ZL,i,_}:=vc x.ex;have s:=x.hd _ _ _ i;have j:=X _ _ i;rw[e]at j;ext j;exact s
 have v:=Z3 (M:=model prog w) X x.nf
 repeat (first|(exists bz c ?_;rw[hc])|exists v.at ?_|wp_step)
 rw[da]
 repeat (first|(exists bz c ?_;rw[hc])|exists bz e ?_|wp_step)
 rw[hd]
 repeat (first|(exists wpAny_nsGet hn ?_;rw[l])|wp_step)
 exact m
def zng {b:Tok}{dp:Addr}{c:U->Option Value}{R:Result->aq->Prop}(X:K.In h)(x:XF K C f)(e:h.get? a=Y ob)(i:ob.cls=.ref C)(j:ob.data=.fields vs)(hd:ob.dict=Y dp)(hn:h.Ns dp c)(k:c f=Y u)
  (l:R (.ok<|.ret u) {(h),g,d,t,os}):jy (model prog w) A (.call (.builtin "BaseException.__getattribute__") {[.ref a,.str f b],[]}) R {(h),g,d,t,os}:=by
 refine jg F.excAttr_ValueError.ga.plain F.entry_bexc_ga ?_;have l1:=W.looks_subIn (M:=model prog w) X x.be;have o:=F.args_bexc_ga (.ref a)<|.str f b;have m:qb "BaseException.__getattribute__"=Y .slot:=by decide+kernel
 have n:splitId "BaseException.__getattribute__"=Y ("BaseException","__getattribute__"):=by decide+kernel
 simp only[j8,m,n];refine aa ?_;unfold o5
 repeat (first|(exists zm3 X x e i j hd hn k ?_;exact l)|(exists bz e ?_;rw[i])|exists l1.at ?_|wp_step)
def zu2 (X:K.In h)(x:XF K C f)(b:h.get? a=Y ob)(hc:ob.cls=.ref C)(da:ob.data=.fields vs)(hd:ob.dict=Y dp)(hn:h.Ns dp c)(e:c f=Y u)(hh:handedOut u=pure u)
  (i:Q u {(h),g,d,t,os}):w['b'] (getAttrBy (.ref a) (.str f j) J ex) Q E {(h),g,d,t,os}:=by
 have k:=F.excAttr_ValueError.ga.bind<|.ref a;have l:(ex&&onTheHeap (Value.builtin "BaseException.__getattribute__"))=false:=by ext ex<;>rfl
 repeat (any_goals (first|assumption|(exists bz b ?_;rw[hc])|with_reducible refine(Z3 (M:=model prog w) X x.ga).at ?_|with_reducible refine(Z3 (M:=model prog w) X x.gt).at ?_|wp_step))
 refine zng X x b hc da hd hn e ?_
 repeat' first|assumption|wp_step
def zr4 (X:K.In h)(x:XF K C f)(b:h.get? a=Y ob)(hc:ob.cls=.ref C)(da:ob.data=.fields vs)(hd:ob.dict=Y dp)(hn:h.Ns dp c)(e:c f=Y u)(hh:handedOut u=pure u)
  (i:Q u {h,g,d,t+1,os}):w['b'] (qo (.ref a) f ex) Q E {(h),g,d,t,os}:=by
 repeat (any_goals (first|assumption|with_reducible apply zu2 X x b hc da hd hn e hh|wp_step))
end
end
def exO (a:Addr)(ob:Obj):HO:=.ext λh=>h.get? a=Y ob
def xW:HO->Prop
 |.ext _=>True
 |.xd _=>True
 |_=>False
def kH (H:Hp)(a:Addr):Hp:=λb=>if b=a then Z8 else H b
def z6:kH H a a=none:=by unfold kH;rw[qq rfl]
def rh (h:b≠a):kH H a b=H b:=by unfold kH;rw[qr h]
section
variable {X:Cx}{pins:List<|Addr×Obj}{σ:L2.St}{H:Hp}{s:aq}{a C:Addr}{ob:Obj}{f:U}
theorem JB (I:Inv X b c H s)(h:H a=Y (exO a ob)):s.heap.get? a=Y ob:=(I.hok a _ h).1
theorem JC (e:h.get? a=Y ob):z1u P w H h a (exO a ob):={e,{_,e},λb c p k=>k _ p}
def Inv.kH (I:Inv X pins g H s)(h:H a=Y o)(i:xW o):Inv X pins g (kH H a) s:=by
 have ne:∀{b u},H b=Y u->(xW u->False)->b≠a:=λ{b u} e n z=>by subst z;rw[h]at e;ext e;exact n i
 have d:∀{b},H b=Z8->Mi.kH H a b=none:=λ{b} e=>by
  unfold Mi.kH;split
  .rfl
  .exact e
 refine{I.ok,I.os,I.bare,{I.base.keep,I.base.slot,λb o e n j=>d<|I.base.free b o e n j,I.base.there,λb f e=>?_,λb o u e=>?_,λb ps e=>?_},I.loc,I.cell,d I.free,λx c e=>d<|I.bJ x c e,λp k=>?_,λb o e=>?_,I.len,I.fx}
 .have e:=I.base.dD b f e;rw[rh<|ne e id];exact e
 .have e:=I.base.cY b o u e;rw[rh<|ne e id];exact e
 .let{m,e}:=I.base.dE b ps e;exact{m,by rw[rh<|ne e id];exact e}
 .let{l,r,t}:=I.pin p k;exact{l,d r,t}
 .have v:b≠a:=by rintro rfl;rw[z6]at e;ext e
  rw[rh v]at e;refine(I.hok b o e).stay (λ_ _ _ q=>q) (λc q=>?_) λc f q=>?_
  .rw[rh<|ne q id];exact q
  .rw[rh<|ne q id];exact q
def znb (I:Inv X pins σ H s)(p:H a=Y (exO a ob))(r:RelV y u)(h0:s.heap.get? dp=Z8)(t:s[?_]<=dp)(na:dp≠a)(ga:j.get? a=Y {ob with dict:=Y dp})(ns:j.Ns1 dp (fun g=>if g=f then Y u else Z8))(k:∀b o,b≠a->s.heap.get? b=Y o->j.get? b=Y o):
  H dp=Z8/\Inv X pins σ (upd (upd H dp<|.xd [(f,y)]) a<|exO a {ob with dict:=Y dp}) {s with heap:=j,toks:=tk}:=by
 have h:=I.hok.fresh t;have ne:∀{b u},H b=Y u->(u=exO a ob->False)->b≠a:=λ{b u} e n z=>by subst z;rw[p]at e;ext e;exact n rfl
 have nd:∀{b u},H b=Y u->b≠dp:=λ{b u} e z=>by subst z;rw[h]at e;ext e
 have up:∀{b u},H b=Y u->(u=exO a ob->False)->upd (upd H dp<|.xd [(f,y)]) a (exO a {ob with dict:=Y dp}) b=Y u:=λ{b u} e n=>by rw[aK<|ne e n,aK<|nd e];exact e
 have i:∀{b o},s.heap.get? b=Y o->H b=Z8->b≠a/\b≠dp:=λ{b o} e n=>{(by rintro rfl;rw[p]at n;ext n),(by rintro rfl;rw[h0]at e;ext e)};refine{h,I.un {λb o e n _ _=>k b o (i e n).1 e,λb o e n _ _=>{o.slots,k b o (i e n).1 e},λb o e n _=>?_,λb o e _=>?_,λb w e=>up e nofun,λb o u e=>up e nofun,λb ps e=>{#[],by rw[Array.append_empty];exact up e nofun}} λb o e=>?_}
 .rw[aK (i e n).1,aK (i e n).2];exact n
 .by_cases d:b=a
  .subst d;exact{_,ga}
  .exact{o,k b o d e}
 .by_cases d:b=a
  .subst d;rw[bH]at e;ext e;exact JC ga
  .rw[aK d]at e;by_cases hd:b=dp
   .subst hd;rw[bH]at e;ext e;refine{_,ns,λg=>?_};by_cases l:g=f
    .subst l;simp;exact r
    .have :(g==f)=false:=by simpa using l
     simp only[db,this,List.lookup_nil,qr l];exact True.intro
   .rw[aK hd]at e;refine(I.hok b o e).stay (λc v m q=>k c v ?_ q) (λc q=>up q nofun) λc w q=>up q nofun;rcases m with rfl|m
    .exact d
    .exact ne m nofun
def D8 (K:Z5)(ta tv:TE)(f:U):TS:=λD σ H=>tv σ H λy H1=>ta σ H1 λx H2=>∃a C ob vs,x=.ref a/\H2 a=Y (exO a ob)/\ob.cls=.ref C/\ob.dict=Z8/\ob.data=.fields vs/\XF K C f/\∀dp,H2 dp=Z8->dp≠a->D.nx σ (upd (upd H2 dp<|.xd [(f,y)]) a<|exO a {ob with dict:=Y dp})
def S5 (i:PE X o j)(l:PE X value tv)(hs:jh value (Y<|.Attribute o f c) pos.line X.env=pure Z6):PS X (.Assign [.Attribute o f c] value pos) (D8 X.K j tv f):=by intro b s d H D I h;refine j4 (aR (l b s d H _ I h) λu m ⟨y,n,p,r,q⟩=>aR (i b m d n _ p q) λov E ⟨x,F,e,t,a,C,ob,G,ex,g,hc,hd,da,xf,v⟩=>?_) hs;subst ex;obtain rfl:ov=ZR a:=t;refine zpd e.dM xf (JB e g) hc hd da λZK w ⟨dp,h0,na,z,ga,ns,k⟩=>?_;let{A,B}:=znb e g r h0 z na ga ns k;exact{d,_,B,v dp A na}
end
def mH (K:Z5)(f:U):Sp:=λvs H Q _=>∃a C ob ws y,vs=[.ref a,y]/\H a=Y (exO a ob)/\ob.cls=.ref C/\ob.dict=Z8/\ob.data=.fields ws/\XF K C f/\∀dp,H dp=Z8->dp≠a->Q .non (upd (upd H dp<|.xd [(f,y)]) a<|exO a {ob with dict:=Y dp})
structure XI (K:Z5)(C f:Addr):Prop where
 S6:∀dd cd sl,K.lookup C=Y {.type "type",dd,.cls cd,sl}->Z0 K cd.ns "__init__"=Y (Y<|.ref f)
 fn:W.isFn K (.ref f)=J
def S7 {K:Z5}(X:K.In h)(G:h.Ns N m)(e:Z0 K N n=Y (Y v)):m n=Y v:=by
 let{o,es,ep,a,hd,_,hf}:=G;unfold Z0 at e;split at e
 .rename_i q;have z:=X _ _ q;rw[a]at z;ext z;ext hd;split at e
  .rename_i b;ext e;rw[<-hf];unfold nsFind findBy;rw[<-ow,b];rfl
  .split at e<;>ext e
 .cases e
def XI.at {K:Z5}{C:Addr}(X:K.In h)(q:gI K C=J)(x:XI K C f):∃b N nm qn bs a n sub p c d e g k2 i j k o,h.get? C=Y (lu nm qn C N bs b a n sub p c d e g k2 i j "ValueError.__new__")/\h.Ns N k/\k "__init__"=Y (.ref f)/\nr h qR b/\h.get? f=Y o/\o.cls=.type "function":=by
 let{d,cd,b,e,g,k2,i,j,l,hm,hd,r,s}:=vc q;have hN:h.Ns cd.ns (h.nsMap cd.ns):=.of_isNs<|W.isNs_of_in X s;let{o,t,u}:=c7.mp<|q8 x.fn;refine{b,cd.ns,cd.name,cd.qualname,cd.bases,cd.hasDict,cd.slotNames,cd.subclasses,cd.abstract,cd.collection,d,e,g,k2,i,j,h.nsMap cd.ns,o,?_,hN,S7 X hN<|x.S6 _ _ _ l,W.tail_of_in X r,X _ _ t,u};have m:=X _ _ l;ext cd
 dsimp only at hm hd
 rw[hm,hd]at m;exact m
def z7 (X:Cx)(E:XK):Prop:=∀pins σ H s a C ob vs,Inv X pins σ H s->H a=Z8->(∃H1 s1,Inv X pins σ H1 s1/\s1.heap.get? a=Z8)->s.heap.get? a=Y ob->ob.cls=.ref C->ob.data=.fields vs->vs[1]?=Y .none->E (.ref C) ob.dict H->X.xe (.ref a) s
section
variable {X:Cx}{pos:Pos}
def zfz {M:Model}{A:eh}{E:Value->aq->Prop}{env:Env}{s:aq}{x:Sem Value}{Q:Flow->aq->Prop}{C:Addr}(hh:A.handled=Z8)
  (h:wpAny M A x (λv s1=>∃e ob t c,v=.ref e/\XC C s1.heap c/\s1.heap.get? e=Y ob/\ob.cls=.ref C/\ob.data=.fields #[.ref t,.none,.none,.none,.bool Z6,.none]/\E (.ref e) s1) E s):wpAny M A (raiseStmt env (Y x) Z8) Q E s:=by
 unfold raiseStmt;refine aa<|il h (λv s1 l=>?_) λ_ _ x=>x;let{e,ob,t,c,rfl,{N,nm,q,bs,i,o,sub,p,m,r,u,w,y,z,B,D,b,hN,T},j,k,f,n}:=l;have a:(ZR C::c).contains (.type "BaseException")=true:=by rw[lh,Iu T,mo]
 let{F,g,d,G,os}:=s1
 repeat (first|(exists bz j ?_;first|rw[k]|rw[f])|exists bz b ?_|(exists gv b ?_;rw[a])|wp_step)
 rw[f]
 repeat (first|(exists bz j ?_;first|rw[k]|rw[f])|exists bz b ?_|(exists gv b ?_;rw[a])|wp_step)
 exact n8 hh n
def zcx {C:Addr}(hr:Room (k+1) X.A)(hg:Gl X x)(hm:X.mg x=Y (.ref C))(Q:Xf x)(xf:XF X.K C fl)(xi:XI X.K C f)
  (F:FnOk X.prog X.w X.K X.mg X.base (CXE X.prog X.w X.base) k f fd ps<|mH X.K fl) (n:Binds X.K fd ps []) (he:PE X e te) (m:isStar e=Z6) (rs:z7 X E):
  PS X (.Raise (Y<|.Call (.Name x np) [e] [] cp) Z8 pos) (λ_ L H=>te L H λy h=>∀dp,h dp=Z8->E (.ref C) (Y dp) (upd h dp<|.xd [(fl,y)])):=by
 intro j s L H D I hq;have R:(ja cp<|cx [e] X.env).any (·.1)=false:=by rw[eK m];rfl
 refine aa<|i8<|zfz (C:=C) hr.hd<|aa<|il (wpAny_Call_ofName<|z2x I hg hm ?_ Q) (λv s3 h3=>aa<|i8<|au h3) λ_ _ z=>z;have p:=(dY he kR m) cp j s L H (λM h=>match M with| [y]=>∀dp,h dp=Z8->E (.ref C) (Y dp) (upd h dp<|.xd [(fl,y)])|_=>False) I hq;rw[eK m]at p R ⊢;refine aa<|fz<|kj<|aR p λus s1 zz=>aa<|i8 ?_;let{M,h,O,r,S}:=zz
 obtain⟨y,rfl⟩:∃y,M=[y]:=by
  rcases M with _|⟨y,_|⟨z,l⟩⟩
  .exact S.elim
  .exact{(y),rfl}
  .exact S.elim
 cases r with
 |cons ry rn=>
  ext rn;rename_i u;let{hp,g,d,t,os}:=s1;let{bm,N,nm,qn,bs,hdct,sn,sub,ab,col,dd,k0,k1,k2,k3,k5,mN,o,oC,hN,hi,T,hf,hc}:=xi.at O.dM xf.ex;refine aa<|wpAny_keeperOf_exc oC ?_;refine aa<|zui PySem.F.excBase_ValueError T oC hN hi hf hc (λh' a hz made=>?_) (show 1<=aw by rw[cf];decide);let{tp,ga,_,_}:=made.there;generalize c:({cls:=.ref C,data:=.fields #[.ref tp,.none,.none,.none,.bool Z6,.none]}:Obj)=ob at ga;have ZL:=O.laid (t':=t) made.keeps hz<|JC ga;have q:=O.hok.fresh hz
  let Q2:VK:=λv H3=>v=.non/\∃dp,h dp=Z8/\dp≠a/\H3=upd (upd (upd h a<|exO a ob) dp<|.xd [(fl,y)]) a (exO a {ob with dict:=Y dp})
  have B:mH X.K fl [.ref a,y] (upd h a<|exO a ob) Q2 (λ_ _ _=>False):={a,C,ob,#[.ref tp,.none,.none,.none,.bool Z6,.none],y,rfl,bH,by rw[<-c],by rw[<-c],by rw[<-c],xf,λdp P G=>{rfl,dp,by rw[aK G]at P;exact P,G,rfl}};have r2:Vals [V.ref a,y] [ZR a,u]:=.cons rfl<|.cons ry .nil;refine oy<|ji (F.run _ X.stack _ _ {[ZR a,u],[]} [ZR a,u] [V.ref a,y] Q2 (λ_ _ _=>False) (hr.make C [u] []) (ZL.sW.make C [u] []) (n {h',(g),d,t,os} [ZR a,u] ZL.dM (by rw[b7];exact(r2.length▸F.len _ _ _ _ B))) r2 B) λrr s' i=>?_;cases rr with
  |error e'=>let{_,_,_,_,_,_,z}:=i;exact z.elim
  |ok W=>
   cases W with
   |next=>exact i.elim
   |brk=>exact i.elim
   |cont=>exact i.elim
   |ret w=>
    let{v,H3,ZM,rv,rfl,dp,P,G,rfl}:=ZL.after i;refine{rv,aa<|fz<|wpAny_point<|au ?_};have ZK:=JB ZM bH;have I4:=Mi.Inv.kH ZM bH True.intro
    have eH:Mi.kH (upd (upd (upd h a<|exO a ob) dp<|.xd [(fl,y)]) a<|exO a {ob with dict:=Y dp}) a=upd h dp (.xd [(fl,y)]):=by
     funext b
     by_cases n:b=a
     .subst n;rw[z6,aK<|Ne.symm G,q]
     .rw[rh n,aK n];by_cases hd:b=dp
      .subst hd;rw[bH,bH]
      .rw[aK hd,aK hd,aK n]
    rw[eH]at I4;let{zQ,xc,_}:=XC.mk ZM.dM xf.ex;refine{a,_,tp,zQ,rfl,xc,ZK,by rw[<-c],by rw[<-c],rs j L _ s' a C _ _ I4 ?_ {h,_,O,made.new} ZK (by rw[<-c]) (by rw[<-c]) rfl<|S dp P};rw[aK<|Ne.symm G];exact q
def zoa {C:Addr}(m:X.fx=Y (n,.ref a))(o:X[!n]=Y .local)(hd:Xf n)(e:z0n (.Name n p)=J)(r:Xh X a i)(hc:i.cls=.ref C)(da:i.data=.fields F)(j:i.dict=Y dp)(x:Xh X dp od)(hm:∀h:Heap,h.get? dp=Y od->h.Ns dp y)(z:y f=Y u)(l:RelV v u)(xf:XF X.K C f):
  PE X (.Attribute (.Name n p) f q) (λ_ H Q=>Q v H):=by
 intro b s A H Q I h;refine zfa (kU e)<|aR (IC m o hd b s A H (λw k=>w=.ref a/\k=H) I {(rfl),rfl}) λw B D=>?_;let{G,k,c,E,rfl,rfl}:=D;obtain rfl:w=ZR a:=E;let{hh,g,d,t,os}:=B;exact zr4 c.dM xf (r _ _ _ _ c) hc da j (hm _<|x _ _ _ _ c) z (W.handedOut_of<|GF l) {v,k,c.tok<|t+1,l,h}
def zlz {C D:Addr}(I:Inv X c M H1 s1)(P:Fly X.prog X.w X.base X.stack H1 s1 C a Q s'<|Y dp)(hy:Q dp=Y (.xd [(fl,y)]))(hs:X.stack=X.env::X.outer)(hf:X.env.frame=Y X.env.locals)(hx:X.fx=Z8)(nd:X.N.Nodup)(hi:X.N[i]?=Y n)(hv:X.env.scope.names.lookup ("":U)=Z8)(hl:X[!n]=Y .local)
  (hB:X.mg B=Y (.ref D)) (xC:gI X.K C=J) (xD:gI X.K D=J) (sb:ZZ X.K (.ref C) (.ref D)=Y J) (R:Gl X B) (S:Xf B)
  (ZL:∀od O u t ws,(∀h:Heap,h.get? dp=Y od->h.Ns dp O)->O fl=Y u->RelV y u->t.cls=.ref C->t.dict=Y dp->t.data=.fields ws->PSs (kF (lC X ((dp,od)::X.pn) X.xe) i n a t) (b0::jF) T) (q:T {λbM xX=>Dn.nx (bM.set i Z8) xX,Dn.rt,λ_ _=>False,λ_ _=>False} (bq M.length Z8)<|kH Q dp):
  X['a'] (i9 (.ref a) X.env) (λ_ E=>X['a'] (ju (.ref a) Z8) (λ_ s3=>X['a'] (nh (.ref a) X.env [.ExceptHandler (Y<|.Name B np) (Y n) (b0::jF) x]) (SP X c Dn) X.xe s3) X.xe E) X.xe s':=by
 let{B0,Dh,F,xm,w0}:=P.hh;have l:=w0;rw[hs]at l;let{O,G,rel}:=F dp _ hy;let{od,es,ep,m,H,JD}:=id G;have rf:=rel fl;simp at rf;let{u,hu,ru}:=cT.some_of rf
 have e0:(bq M.length (Z8:Option V)).set i Z8=bq M.length none:=by
  apply ls;intro j;rw[dm];split
  .rename_i h;subst h;split<;>simp_all
  .rfl
 have back:∀{p2:List<|Addr×Obj} {d:L2.St} {k:Hp} {E:aq},Inv (lC X ((dp,od)::X.pn) X.xe) c d k E->Inv X c d k E:=λ{p2 d k E} ZK=>{I.ok,ZK.os,ZK.bare,ZK.base,ZK.loc,ZK.cell,ZK.free,ZK.bJ,λp x=>ZK.pin p (by exact ao _ x),ZK.hok,ZK.len,ZK.fx};refine zc0 (pins:=c) (X:=lC X ((dp,od)::X.pn) X.xe) (λh6 w6 up=>?_) l ?_ hs hf hx nd hi hv hl hB (λA=>xn (X:=lC X ((dp,od)::X.pn) X.xe) xC xD sb A) R S (λf s h=>?_) (λt ws h1 h2 h3=>ZL od O u t ws (λh e=>(G.at (h':=h) λo z=>by rw[m]at z;ext z;exact e).ns) hu ru h1 h2 h3) (e0▸q)
 .have ZK:=Fly.land I P Dh F xm (hs▸w6) up;have g:Inv X c (bq M.length Z8) (kH Q dp) {s' with heap:=h6}:=(Mi.Inv.kH ZK hy True.intro).weak (by rw[cz]) λj v e=>by rw[cu]at e;split at e<;>ext e
  refine{Jx g.ok,g.os,g.bare,g.base,g.loc,g.cell,g.free,g.bJ,λp x=>?_,g.hok,g.len,g.fx};rcases ak.mp x with rfl|x
  .have L:∀b∈(X.env::X.outer).filterMap (·.frame),dp≠b:=fun b hb z=>by
    have:=(l.2.2.1.mem hb).1;rw[<-z,m]at this;ext this
   refine{(w6.1 _ _ m),z6,L _ ?_,λz=>L dp ?_ rfl,λv z=>?_}
   .rw[cv,hf];exact ar
   .rw[cv,hf];exact ao _ z
   .have z:od.data=.cell v:=z;rw[H]at z;ext z
  .exact g.pin p x
 .have :=IB P;by_cases e:a=dp
  .rw[e];exact z6
  .rw[rh e];exact this
 .cases f with
  |next=>let{d,k,ZK,z}:=h;exact{d,k,back (p2:=c) ZK,z}
  |brk=>let{d,k,ZK,z}:=h;exact{d,k,back (p2:=c) ZK,z}
  |cont=>let{d,k,ZK,z}:=h;exact{d,k,back (p2:=c) ZK,z}
  |ret u=>let{v,d,k,ZK,r,z}:=h;exact{v,d,k,back (p2:=c) ZK,r,z}
end
inductive WS where
 |nil|seq (a b:WS)|asg (i:Nat) (e:W)|fld (o:W) (f:U) (e:W)|put (o k v:W)|exp (e:W)|app (o v:W)|ret (e:W)|bW (c:W) (a b:WS)|xY (c:W) (b:WS)|cV (t:Tg) (it:C) (b:WS)|ud (s:S)|z8 (o:W) (f:U) (e:W)|ri (c fl:U) (e:W)|oR (t:Tg) (it:W) (b:WS)|vj (b hs:WS) (i n:Nat)|hn (c:U) (f:Option U) (h rest:WS)
 deriving Inhabited
def D9:W->Bool
 |.bA c=>!l' c
 |_=>Z6
def S8 (k:Cok f Κ Φ X r)(A:jC f i x=J)(hn:l' c=Z6)(a:chkE f c v=J):PS X (.Assign [.Name x px] v pos) (lJ (tD X.K<|aJ Κ Φ c)<|uL i):=by
 let{h,l2,l3}:=k.loc A;have nd:X.N.Nodup:=k.hN▸k.nd;cases hc:mW v with
 |false=>exact tE nd h l2 ((all c).E f X r _ k a) hc l3
 |true=>
  ext v<;>first|(ext hc;done)|skip
  .rename_i el I s p;cases g:(X.env.blockKind==.function&&X.env.kindOf x==Y .local&&px.line==p.line&& !(s.names.any λ(n,k)=>n==x&&(k==.local||k==.cell)))with
   |false=>exact za8 nd h l2 ((all c).E f X r _ k a) (by rw[zU,g]) l3
   |true=>
    let{ZK,L,M,O,it,b,j,rfl}:=IP hn a;let{B,t,P,C,l,m,e,o,h0,u,w,y,z,hs,d}:=sC (all it) (all b) (all j) k a;cases e;have F:X[!x]=Y .local:=by simp at g;exact g.1.1.2
    exact PS.imp (zah (k.calm d) nd h F o u w y z (by rw[zU,g]) hs) λD G H q=>(ze8 (pos:=p) (k.calm d) o h0 u w y z hs).2 G H _ q
  .exact(IQ a).elim
  .exact(IS a).elim
def rz:WS->Bool
 |.seq a b=>rz a||rz b
 |.ri _ _ _=>J
 |.bW _ a b=>rz a||rz b
 |.xY _ _=>J
 |.cV _ _ _=>J
 |.oR _ _ _=>J
 |.ud _=>J
 |_=>Z6
mutual
def wS:Wc->WS->TS
 |_,.nil=>Gb
 |Z,.seq a b=>vS (wS Z a) (wS Z b)
 |Z,.asg i e=>lJ (wE Z e) (uL i)
 |Z,.fld o f e=>sV Z.K (wE Z o) (wE Z e) f
 |Z,.put o k v=>xb (wE Z o) (wE Z k) (wE Z v)
 |Z,.exp e=>vT (wE Z e)
 |Z,.app o v=>vT (wu Z.K "list" zm (wE Z o)<|mT (wE Z v) fF)
 |Z,.ret e=>vU (wE Z e)
 |Z,.bW c a b=>vV (wT Z c) (wS Z a) (wS Z b)
 |Z,.xY c b=>Gj (wT Z c) (wS Z b)
 |Z,.cV t it b=>jX (tDW Z.K<|evW Z.Κ Z.Φ it) (tDG Z.K t) (wS Z b)
 |Z,.ud s=>tDS Z.K (aH Z.Κ Z.Φ s)
 |Z,.z8 o f e=>D8 Z.K (wE Z o) (wE Z e) f
 |Z,.ri c fl e=>λ_ σ H=>∀C,Z.mg c=Y (.ref C)->wE Z e σ H λy H1=>∀dp,H1 dp=Z8->Z.E (.ref C) (Y dp) (upd H1 dp<|.xd [(fl,y)])
 |Z,.oR t it b=>jX (vX Z.K<|wE Z it) (tDG Z.K t) (wS Z b)
 |Z,.vj b hs i n=>λD σ H=>wS {Z with E:=wX Z hs D i n} b {D.nx,D.rt,λ_ _=>False,λ_ _=>False} σ H
 |_,.hn _ _ _ _=>λ_ _ _=>False
def wX:Wc->WS->Ends->Nat->Nat->XK
 |Z,.hn c f h rest,D,i,n=>fun v dd H'=>(∃C,Z.mg c=Y (.ref C)/\v=.ref C/\match f with
   |none=>wS {Z with E:=λ_ _ _=>False,xf:=Z8} h {λbM xX=>D.nx (bM.set i Z8) xX,D.rt,λ_ _=>False,λ_ _=>False} (bq n Z8) H'
   |some fl=>∃dp y,dd=Y dp/\H' dp=Y (.xd [(fl,y)])/\wS {Z with E:=λ_ _ _=>False,xf:=Y y} h {λbM xX=>D.nx (bM.set i Z8) xX,D.rt,λ_ _=>False,λ_ _=>False} (bq n Z8) (kH H' dp))
  \/wX Z rest D i n v dd H'
 |_,_,_,_,_=>λ_ _ _=>False
end
def Ea:Stmt->Option (List Stmt×U×U×List Stmt)
 |.Try b [h] [] [] _=>(Cs h).map λu=>(b,u)
 |_=>Z8
def Eb (e:Ea s=Y v):∃a b pos,s=.Try v.1 [.ExceptHandler (Y<|.Name v.2.1 a) (Y v.2.2.1) v.2.2.2 b] [] [] pos:=by
 unfold Ea at e;split at e
 .let{x,c,rfl}:=c7.mp e;let{a,b,rfl}:=Dy c;exact{_,_,_,rfl}
 .cases e
def Ec (Γ:Gw)(i:Nat)(nm c:U)(f:Option U):Gw:={Γ with g:={Γ.g with N:=Γ.g.N.set i "",cm:=Z6,xc:=Y (nm,c),fns:=[]},xf:=f}
mutual
def z9:Gw->WS->Stmt->Bool
 |Γ,.asg i e,s=>(rZ s).any λu=>(bT u.1).any λx=>tS Γ.g (.nm i) x&&(!mW u.2||D9 e)&&cR Γ e u.2
 |Γ,.fld o f e,s=>(rZ s).any λu=>(bT u.1).any λx=>(uU x).any λv=>(v.2.1==f)&& !mW u.2&&cR Γ o v.1&&cR Γ e u.2
 |Γ,.put o k v,s=>(rZ s).any λu=>(bT u.1).any λx=>(oE x).any λw=>!mW u.2&&cR Γ o w.1&&cR Γ k w.2&&cR Γ v u.2
 |Γ,.exp e,s=>(wR s).any λv=>!mW v&&cR Γ e v
 |Γ,.app o e,s=>(wR s).any λc=>(lZ c).any λv=>((v.2.1==("append":U))&&z0n v.1&&v.2.2.2)&&cR Γ o v.1&&(bT v.2.2.1).any λy=>!isStar y&&cR Γ e y
 |Γ,.ret e,s=>(Co s).any λo=>o.any λv=>cR Γ e v
 |Γ,.bW c a b,s=>(Cp s).any λv=>rg Γ c v.1&&wkL Γ a v.2.1&&wkL Γ b v.2.2
 |Γ,.xY c b,s=>(Cq s).any λv=>rg Γ c v.1&&wkL Γ b v.2.1&&v.2.2.isEmpty
 |Γ,.cV t it b,s=>Γ.g.cm&&(zy s).any λv=>(tS Γ.g t v.1&&zx it v.1&&uS v.2.1)&&kB Γ.g it v.2.1&&wkL Γ b v.2.2.1&&v.2.2.2.isEmpty
 |Γ,.ud x,s=>qL Γ.g x s
 |Γ,.z8 o f e,s=>(rZ s).any λu=>(bT u.1).any λx=>(uU x).any λv=>(v.2.1==f)&& !mW u.2&&cR Γ o v.1&&cR Γ e u.2
 |Γ,.ri c fl e,s=>(Cr s).any λv=>(v.1==c)&&lY Γ.g c&&Γ.fld.contains (c,fl)&&Γ.g.cm&&(bT v.2).any λy=>!isStar y&&cR Γ e y
 |Γ,.oR t it b,s=>Γ.g.cm&&(zy s).any λv=>(tS Γ.g t v.1&&uS v.2.1)&&cR Γ it v.2.1&&wkL Γ b v.2.2.1&&v.2.2.2.isEmpty
 |Γ,.vj b hs i n,s=>decide (Γ.g.N.length=n)&&(Ea s).any λv=>(Γ.g.cm&&(Γ.g.xc.isNone&& !Γ.g.blk)&&(Γ.g.N[i]?==Y v.2.2.1)&&(Γ.g.sc.names.lookup v.2.2.1==Y .local)&&decide (Γ.g.N.set i "").Nodup)&&((Γ.g.sc.names.lookup ("":U)).isNone&&lY Γ.g v.2.1&& !rz b&&wkL Γ b v.1&&Γ.xf.isNone)&&(!v.2.2.2.isEmpty&& !(v.2.2.1==("__debug__":U))&&wkH Γ hs i v.2.2.1 v.2.1 v.2.2.2)
 |_,_,_=>Z6
def wkH:Gw->WS->Nat->U->U->List Stmt->Bool
 |_,.nil,_,_,_,_=>J
 |Γ,.hn c f h rest,i,nm,B,su=>Γ.g.gH.contains (c,B)&&(match f with|none=>J|some fl=>Γ.fld.contains (c,fl))&&wkL (Ec Γ i nm c f) h su&&wkH Γ rest i nm B su
 |_,_,_,_,_,_=>Z6
def wkL:Gw->WS->List Stmt->Bool
 |_,.nil,l=>l.isEmpty
 |Γ,.seq a b,l=>match l with|s::l=>z9 Γ a s&&wkL Γ b l|_=>Z6
 |_,_,_=>Z6
end
def Wfk (Γ:Gw)(X:Cx)(r:Nat):Prop:=∀c fl,Γ.fld.contains (c,fl)=J->∃C f fd ps k,X.mg c=Y (.ref C)/\XF X.K C fl/\XI X.K C f/\k+1<=r/\FnOk X.prog X.w X.K X.mg X.base (CXE X.prog X.w X.base) k f fd ps (mH X.K fl)/\Binds X.K fd ps []
structure Wz (s:WS):Prop where
 R:∀(Γ:Gw) (Z:Wc) (X:Cx) (r:Nat) (st:Stmt),Wok Γ Z (CXE X.prog X.w X.base) X r->Wfk Γ X r->(rz s=J->e9 (model X.prog X.w) X.A X.env X.xe)->(rz s=J->z7 X Z.E)->z9 Γ s st=J->PS X st (wS Z s)
 L:∀(Γ:Gw) (Z:Wc) (X:Cx) (r:Nat) (st:List Stmt),Wok Γ Z (CXE X.prog X.w X.base) X r->Wfk Γ X r->(rz s=J->e9 (model X.prog X.w) X.A X.env X.xe)->(rz s=J->z7 X Z.E)->wkL Γ s st=J->PSs X st (wS Z s)
 H:∀(Γ:Gw) (Z:Wc) (X:Cx) (r i:Nat) (nm B:U) (b0:Stmt) (su:List Stmt) (np hp:Pos) (pins:List<|Addr×Obj) (Dn:Ends),Wok Γ Z (CXE X.prog X.w X.base) X r->Wfk Γ X r->Γ.g.xc=Z8->X.stack=X.env::X.outer->X.env.frame=Y X.env.locals->X.N[i]?=Y nm->X.env.scope.names.lookup ("":U)=Z8->X[!nm]=Y .local->Xf nm->(Γ.g.N.set i "").Nodup->Gl X B->Xf B->wkH Γ s i nm B (b0::su)=J->∀σ H1 s1 C a H' s' dd,Inv X pins σ H1 s1->Fly X.prog X.w X.base X.stack H1 s1 C a H' s' dd->wX Z s Dn i σ.length (.ref C) dd H'->X['a'] (i9 (.ref a) X.env) (λ_ s2=>X['a'] (ju (.ref a) Z8) (λ_ s3=>X['a'] (nh (.ref a) X.env [.ExceptHandler (Y<|.Name B np) (Y nm) (b0::su) hp]) (SP X pins Dn) X.xe s3) X.xe s2) X.xe s'
theorem Wz.x (h:∀Γ Z X r st,Wok Γ Z (CXE X.prog X.w X.base) X r->Wfk Γ X r->(rz s=J->e9 (model X.prog X.w) X.A X.env X.xe)->(rz s=J->z7 X Z.E)->z9 Γ s st=J->PS X st (wS Z s))(d:∀Γ st,wkL Γ s st=Z6)(e:∀Z D i n v dd b,¬wX Z s D i n v dd b):Wz s:={h,λΓ Z X r st k f g hr z=>ff (d Γ st) z,λΓ Z X r i nm B m o p g c q k f a1 a2 a3 a4 t u y F G j l H ZK K C a b L dd I fl z=>(e _ _ _ _ _ _ _ z).elim}
def rj (h:a=J):(a||b)=true:=by rw[h];rfl
def ro (h:b=J):(a||b)=true:=by rw[h,mo]
def zkh {C D:Addr}(I:Inv X b f x y)(g:Fly X.prog X.w X.base X.stack x y C a E F dd)(hs:X.stack=X.env::X.outer)(hf:X.env.frame=Y X.env.locals)(G:X.fx=Z8)(nd:X.N.Nodup)(H:X.N[i]?=Y n)(ZK:X.env.scope.names.lookup ("":U)=Z8)(L:X[!n]=Y .local)
  (M:X.mg B=Y (.ref D)) (O:gI X.K C=J) (P:gI X.K D=J) (Q:ZZ X.K (.ref C) (.ref D)=Y J) (k:Gl X B) (l:Xf B)
  (m:∀d,d.cls=.ref C->PSs (kF X i n a d) (R::jF) T) (q:T {λo p=>u.nx (o.set i Z8) p,u.rt,λ_ _=>False,λ_ _=>False} (bq f.length Z8) E):
  X['a'] (i9 (.ref a) X.env) (λ_ S=>X['a'] (ju (.ref a) Z8) (λ_ ZL=>X['a'] (nh (.ref a) X.env [.ExceptHandler (Y<|.Name B np) (Y n) (R::jF) hp]) (SP X b u) X.xe ZL) X.xe S) X.xe F:=by
 let{B0,r,s,t,ZM}:=g.hh;have c:=ZM;rw[hs]at c
 have e0:(bq f.length (Z8:Option V)).set i Z8=bq f.length none:=by
  apply ls;intro j;rw[dm];split
  .rename_i h;subst h;split<;>simp_all
  .rfl
 refine zc0 (λh6 w6 up=>?_) c (IB g) hs hf G nd H ZK L M (xn O P Q) k l (λ_ _ z=>z) (λd ws h1 h2 h3=>m d h1)<|e0▸q;exact(Fly.land I g r s t (hs▸w6) up).weak (by rw[cz]) λj v e=>by rw[cu]at e;split at e<;>ext e
def w_hn {rest:WS}(ih:Wz h)(ir:Wz rest):∀d Z X r i nm B t v S T b x,Wok d Z (CXE X.prog X.w X.base) X r->Wfk d X r->d.g.xc=Z8->X.stack=X.env::X.outer->X.env.frame=Y X.env.locals->X.N[i]?=Y nm->X.env.scope.names.lookup ("":U)=Z8->X[!nm]=Y .local->Xf nm->(d.g.N.set i "").Nodup->Gl X B->Xf B->wkH d (.hn c f h rest) i nm B (t::v)=J->
  ∀E F G C a K M O,Inv X b E F G->Fly X.prog X.w X.base X.stack F G C a K M O->wX Z (.hn c f h rest) x i E.length (.ref C) O K->X['a'] (i9 (.ref a) X.env) (λ_ s2=>X['a'] (ju (.ref a) Z8) (λ_ s3=>X['a'] (nh (.ref a) X.env [.ExceptHandler (Y<|.Name B S) (Y nm) (t::v) T]) (SP X b x) X.xe s3) X.xe s2) X.xe M:=by
 intro d Z X r i nm B t v S T b x k P j hs hf ZL V Q n gH l m W E F G C a K M O I ZM z;let{c1,c2,c3,c4}:=bN W;rcases z with⟨C0,m0,e0,z⟩|z
 .cases e0;let{C',D,R,m2,x1,x2,sb}:=k.ck.xk.gH c B c1;rw[k.mm,R]at m0;ext m0;have o:X.N.Nodup:=k.ck.hN▸k.ck.nd;have hx:=k.ck.xv j;cases f with
  |none=>refine zkh I ZM hs hf hx o ZL V Q m2 x1 x2 sb l m (λs hc=>?_) z;exact ih.L (Ec d i nm c Z8) _ (kF X i nm a s) r _ {{(k.kk),k.mm,k.fn,k.me,k.cl,k.gi,k.hf,k.md,k.mq},k.ck.kF gH hc R,nofun,(λ_ _ _ _ _ _ _ z=>by let{_,_,_,_,_,_,z}:=z;exact z),nofun,z5} P (λ_=>PassesOwn.never) (λ_ _ _ _ _ _ _ _ _ _ _ _ _ _ _ _ z=>z.elim) c3
  |some fl=>let{dp,y,rfl,hy,z}:=z;let{C2,f2,fd2,W8,k2,n1,xf,_}:=P c fl c2;rw[R]at n1;ext n1;refine zlz I ZM hy hs hf hx o ZL V Q m2 x1 x2 sb l m (λod mA u s ws q1 q2 q3 q4 q5 q6=>?_) z;refine ih.L (Ec d i nm c<|Y fl) _ (kF (lC X ((dp,od)::X.pn) X.xe) i nm a s) r _ {{(k.kk),k.mm,k.fn,k.me,k.cl,k.gi,k.hf,k.md,k.mq},(Jy k.ck j ((dp,od)::X.pn) X.xe).kF gH q4 R,nofun,(λ_ _ _ _ _ _ _ z=>by let{_,_,_,_,_,_,z}:=z;exact z),(λf z=>?_),z5} P (λ_=>PassesOwn.never) (λ_ _ _ _ _ _ _ _ _ _ _ _ _ _ _ _ z=>z.elim) c3;ext z;refine{y,rfl,λn' c' e p q S9=>?_};ext e;exact zoa (X:=kF (lC X ((dp,od)::X.pn) X.xe) i nm a s) rfl Q n S9 (λ_ _ _ _ ZK=>(ZK.pin (a,s)<|cq _ ar).1) q4 q6 q5 (λ_ _ _ _ ZK=>(ZK.pin (dp,od)<|cq _<|ao _ ar).1) q1 q2 q3 xf
 .exact ir.H d Z X r i nm B t v S T b x k P j hs hf ZL V Q n gH l m c4 E F G C a K M O I ZM z
def S' {st:Stmt}(R:Wz b)(S:Wz hs)(k:Wok m Z (CXE X.prog X.w X.base) X r)(N:Wfk m X r)(h:z9 m (.vj b hs i n) st=J):PS X st (wS Z<|.vj b hs i n):=by
 let{hn,h}:=aD h;let{{bd,B,nm,F},T,ZL}:=aL h;let{O,o,pos,rfl}:=Eb T;let{V,g,h3}:=aV ZL;let{a1,a2,a3,a4,a5}:=fJ V;let{b1,b2,b3,b4,b5}:=fJ g;let{c1,c2,c3}:=aV h3;let{a6,a7}:=aD a2;let{P,F,rfl}:=se c1;let{g3,g4}:=k.ck.gl b2;let{s1,Q}:=k.ck.mF<|cX a7;have p:=eu.mp a6;have t:=cX b3;intro c s σ H j I hq;refine wpAny_Try_except ?_;generalize hE:(λe x=>X['a'] (i9 e X.env) (λ_ y=>X['a'] (ju e Z8) (λ_ C=>X['a'] (nh e X.env [.ExceptHandler (Y<|.Name B O) (Y nm) (P::F) o]) (SP X c j) X.xe C) X.xe y) X.xe x)=E
 have px:z2r (CXE X.prog X.w X.base) (lC X (X.pn++c) E) (wX Z hs j i n):=λG d H1 ZK e s' I1 zz=>by
  let{a,C',dd,D,rfl,fl,q}:=zz;rw[<-hE];have l:=D7 I.ok I1;have K:n=d.length:=by rw[l.len,k.ck.hN];simp_all
  rw[K]at q;exact S.H m Z X r i nm B P F O o c j k N p s1 Q (k.ck.hN▸q8 a3) (k.ck.hs▸eu.mp b1) (k.ck.hs▸q8 a4) (cX c2) (qw a5) g3 g4 c3 d H1 ZK C' a D s' dd l fl q
 have wk:Wok m {Z with E:=wX Z hs j i n} (CXE X.prog X.w X.base) (lC X (X.pn++c) E) r:={{(k.kk),k.mm,k.fn,k.me,k.cl,k.gi,k.hf,k.md,k.mq},Jy k.ck p _ E,k.room,px,(λf z=>by rw[eu.mp b5]at z;ext z),z5};refine aR ((R.L m _ (lC X (X.pn++c) E) r bd wk N (λz=>by rw[t]at z;ext z) (λz=>by rw[t]at z;ext z) b4) [] s σ H {j.nx,j.rt,λ_ _=>False,λ_ _=>False} (S4 I E) hq) λM Q g=>?_;cases M with
 |next=>let{d,D,l,z}:=g;exact kr {d,D,D7 I.ok l,z}
 |brk=>let{_,_,_,z}:=g;exact z.elim
 |cont=>let{_,_,_,z}:=g;exact z.elim
 |ret u=>let{v,d,D,l,rv,z}:=g;exact{v,d,D,D7 I.ok l,rv,z}
def Ta (s:WS):Wz s:=by
 induction s with
 |nil=>exact{λ_ _ _ _ _ _ _ _ _ h=>ff rfl h,λd Z X r st k u l hr h=>by cases fR h;exact Ge,λd Z X r i nm B b0 su np l ZM Dn k u a1 a2 a3 a4 a5 a6 a7 a8 a9 Tb Tc σ H1 s1 C a H' s' dd I fl z=>z.elim}
 |seq a b ia O=>exact⟨λ_ _ _ _ _ _ _ _ _ h=>ff rfl h,λd Z X r st k u l hr h=>by
  cases st with
  |nil=>ext h
  |cons s st=>let{j,m}:=aD h;exact Gf (ia.R d Z X r _ k u (λz=>l<|rj z) (λz=>hr<|rj z) j)<|O.L d Z X r _ k u (λz=>l<|ro z) (λz=>hr<|ro z) m,λd Z X r i nm B b0 su np l ZM Dn k u a1 a2 a3 a4 a5 a6 a7 a8 a9 Tb Tc σ H1 s1 C a H' s' dd I fl z=>z.elim⟩
 |asg i e=>exact Wz.x (λd Z X r st k u l hr h=>by
  let{{ts,v},A,G}:=aL h;let{p,rfl}:=kG A;let{x,S,P}:=aL G;cases fX S;let{j,m,ZK}:=aV P;let{y,q,rfl,Q}:=gS j;let{l1,l2,l3}:=k.ck.loc Q;cases hc:mW v with
  |false=>exact tE (k.ck.hN▸k.ck.nd) l1 l2 ((dQ e).E d Z _ X r _ k ZK) hc l3
  |true=>
   have m:=m;rw[hc]at m;ext e<;>first|(ext m;done)|skip
   rename_i c Td;have hn:l' c=false:=cX m;show PS X _ (lJ (tD Z.K<|aJ Z.Κ Z.Φ c)<|uL i);rw[k.kk];exact S8 k.ck Q hn ZK) (λ_ _=>rfl) λ_ _ _ _ _ _ _ z=>z
 |fld o f e=>exact Wz.x (λd Z X r st k u l hr h=>by let{{ts,v},A,G}:=aL h;let{p,rfl}:=kG A;let{x,S,P}:=aL G;cases fX S;let{{o',f',p'},ho,N}:=aL P;cases oO ho;let{j,m,ZK,M}:=bN N;have j:=eqB j;subst j;show PS X _ (sV Z.K _ _ _);rw[k.kk];exact M' ((dQ o).E d Z _ X r _ k ZK) ((dQ e).E d Z _ X r _ k M)<|rT (cX m) _ _ _) (λ_ _=>rfl) λ_ _ _ _ _ _ _ z=>z
 |put o y v=>exact Wz.x (λd Z X r st k u l hr h=>by let{{ts,v},A,G}:=aL h;let{p,rfl}:=kG A;let{x,S,P}:=aL G;cases fX S;let{w,ho,N}:=aL P;let{_,rfl}:=zR ho;let{j,m,ZK,M}:=bN N;exact Qc (lj (n9 ZP _) k.ck.hu) ((dQ o).E d Z _ X r _ k m) ((dQ y).E d Z _ X r _ k ZK) ((dQ _).E d Z _ X r _ k M)<|rT (cX j) _ _ _) (λ_ _=>rfl) λ_ _ _ _ _ _ _ z=>z
 |exp e=>exact Wz.x (λd Z X r st k u l hr h=>by let{v,A,G}:=aL h;let{p,rfl}:=qU A;let{j,m}:=aD G;exact qC ((dQ e).E d Z _ X r _ k m)<|cX j) (λ_ _=>rfl) λ_ _ _ _ _ _ _ z=>z
 |app o e=>exact Wz.x (λd Z X r st k u l hr h=>by let{c,A,G}:=aL h;let{p,rfl}:=qU A;let{{x,n,es,b},hm,P}:=aL G;let{ap,cp,rfl,hb}:=fK hm;let{h0,ZL,N}:=aV P;let{j,m,ZK}:=aV h0;let{y,hy,M}:=aL N;cases fX hy;let{M,Q}:=aD M;have j:=eqB j;subst j;show PS X _ (vT<|wu Z.K "list" zm _ _);rw[k.kk];exact qC (zav PySem.F.plainAttrs_list PySem.F.slot_list_append PySem.F.type_list_append zo ((dQ o).E d Z _ X r _ k ZL) (dY ((dQ e).E d Z _ X r _ k Q) kR<|cX M) (kU m) (z3m (by rw[b8,M];rfl) (show 1<20 by decide)) (hb.symm.trans ZK) (eK<|cX M)<|mV rfl) rfl) (λ_ _=>rfl) λ_ _ _ _ _ _ _ z=>z
 |ret e=>exact Wz.x (λd Z X r st k u l hr h=>by let{o,A,G}:=aL h;let{p,rfl}:=xE A;let{v,rfl,P}:=aL G;exact Br<|(dQ e).E d Z _ X r _ k P) (λ_ _=>rfl) λ_ _ _ _ _ _ _ z=>z
 |bW c a b ia O=>exact Wz.x (λd Z X r st k u l hr h=>by let{v,A,G}:=aL h;let{p,rfl}:=xF A;let{j,m,ZK}:=aV G;exact Gh ((dQ c).T d Z _ X r _ k j).1 (ia.L d Z X r _ k u (λz=>l<|rj z) (λz=>hr<|rj z) m)<|O.L d Z X r _ k u (λz=>l<|ro z) (λz=>hr<|ro z) ZK) (λ_ _=>rfl) λ_ _ _ _ _ _ _ z=>z
 |xY c b O=>exact Wz.x (λd Z X r st k u l hr h=>by let{{t,B,o},A,G}:=aL h;let{p,rfl}:=xG A;let{j,m,ZK}:=aV G;cases fR ZK;exact Gk (l rfl) ((dQ c).T d Z _ X r _ k j).1<|O.L d Z X r _ k u (λ_=>l rfl) (λ_=>hr rfl) m) (λ_ _=>rfl) λ_ _ _ _ _ _ _ z=>z
 |cV t it b O=>exact Wz.x (λd Z X r st k u l hr h=>by let{V,h}:=aD h;let{{t',i,B,o},A,G}:=aL h;let{p,rfl}:=t5 A;let{j,m,ZK,M}:=bN G;let{Q,ZL,N}:=aV j;cases fR M;show PS X _ (jX (tDW Z.K _) (tDG Z.K _) _);rw[k.kk];exact zec (l rfl) (k.ck.calm V) ((all it).W d.g X r _ _ k.ck ZL m) (xw k.ck Q) (O.L d Z X r _ k u (λ_=>l rfl) (λ_=>hr rfl) ZK)<|zT N _) (λ_ _=>rfl) λ_ _ _ _ _ _ _ z=>z
 |ud s=>exact Wz.x (λd Z X r st k u l hr h=>by show PS X _ (tDS Z.K _);rw[k.kk];exact(IT s).R d.g X r st k.ck (l rfl) h) (λ_ _=>rfl) λ_ _ _ _ _ _ _ z=>z
 |z8 o f e=>exact Wz.x (λd Z X r st k u l hr h=>by let{{ts,v},A,G}:=aL h;let{p,rfl}:=kG A;let{x,S,P}:=aL G;cases fX S;let{{o',f',p'},ho,N}:=aL P;cases oO ho;let{j,m,ZK,M}:=bN N;have j:=eqB j;subst j;show PS X _ (D8 Z.K _ _ _);rw[k.kk];exact S5 ((dQ o).E d Z _ X r _ k ZK) ((dQ e).E d Z _ X r _ k M)<|rT (cX m) _ _ _) (λ_ _=>rfl) λ_ _ _ _ _ _ _ z=>z
 |ri c fl e=>exact Wz.x (λd Z X r st k u l hr h=>by let{{x,es},A,G}:=aL h;let{np,cp,pos,rfl}:=Dz A;let{j,m,ZK,M,Q}:=fJ G;let{y,hy,ZL}:=aL Q;cases fX hy;let{ZL,N}:=aD ZL;cases q8 j;let{g1,g2}:=k.ck.gl m;let{C,f,fd,ps,n,m1,xf,xi,hn,F,hb}:=u _ _ ZK;exact PS.imp (zcx ((k.room M).mono hn) g1 m1 g2 xf xi F hb ((dQ e).E d Z _ X r _ k N) (cX ZL)<|hr rfl) λD σ H q=>q C<|k.mm▸m1) (λ_ _=>rfl) λ_ _ _ _ _ _ _ z=>z
 |oR t it b O=>exact Wz.x (λd Z X r st k u l hr h=>by let{V,h}:=aD h;let{{t',i,B,o},A,G}:=aL h;let{p,rfl}:=t5 A;let{j,m,ZK,M}:=bN G;let{Q,N}:=aD j;cases fR M;show PS X _ (jX (vX Z.K _) (tDG Z.K _) _);rw[k.kk];exact zec (l rfl) (k.ck.calm V) (MF<|(dQ it).E d Z _ X r _ k m) (xw k.ck Q) (O.L d Z X r _ k u (λ_=>l rfl) (λ_=>hr rfl) ZK)<|zT N _) (λ_ _=>rfl) λ_ _ _ _ _ _ _ z=>z
 |vj b hs i n O ih=>exact Wz.x (λd Z X r st k u l hr h=>S' O ih k u h) (λ_ _=>rfl) λ_ _ _ _ _ _ _ z=>z
 |hn c f h rest ih ir=>exact{λ_ _ _ _ _ _ _ _ _ h=>ff rfl h,λ_ _ _ _ _ _ _ _ _ h=>ff rfl h,w_hn ih ir}
section
variable {P:b9}{w:World}{K:Z5}{mg:U->Option Value}{base:Heap}
def zxo {Z:Wc}{st:Stmt}(M:∃B oc od kV j D an d ct l,fd=W.fnOf x h (z1d st) (z0m st) (z0c st) B kV j D an d ct/\K.lookup f=Y {oc,od,.func fd,l}/\W.codeIn K d h=J)(p:FnScope b.g.N ps<|z0c st)(hs:b.g.sc=z0c st)(r:b.g.xc=Z8)(m:Dok b.g Z.Κ Z.Φ P w K mg base k)(O:∀E,Zok b {Z with E:=E} (CXE P w base) P w K mg base k)(t:b.xf=Z8)(kf:b.fld=[]\/∀X,X.prog=P->X.w=w->X.K=K->X.mg=mg->X.base=base->Wfk b X k)(hc:wkL b s (z0m st)=J)
  (len:∀i H Q E,sp i H Q E->i.length=ps.length) (run:∀i H Q E,sp i H Q E->wS {Z with E:=E} s {nx:=λ_ u=>Q .non u,rt:=Q} (start b.g.N i) H):
  FnOk P w K mg base (CXE P w base) (k+1) f fd ps sp:=by
 let{B,oc,od,kV,j,D,an,d,ct,l,rfl,R,v}:=M;refine zm8 R v p len λA outer F H i Q E hr y=>{_,(Ta s).L b {Z with E:=E} (jA (CXE P w base) P w K mg base b.g.N h (z0c st) f d A outer F H E) k _ {O E,{rfl,hs.symm,p.nd,λ_ _=>rfl,by rw[hs];exact p.kind,m.free,m.fns,m.cst,m.lB,λ_=>hr,λ_=>rfl,hr.units,λ_=>{(rfl),rfl},λ_=>rfl,λ_ _ z=>(by rw[r]at z;ext z),m.xk},λ_=>hr,λn S G T e s' I ZL=>?_,(λf z=>by rw[t]at z;ext z),z5} (kf.elim (λe c fl z=>by rw[e]at z;ext z) λg=>g _ rfl rfl rfl rfl rfl) (λ_=>PassesOwn.leaving) (λ_ n S G T a C ob i I V q2 q3 q4 q5 q6 q7=>?_) hc,run i H Q E y}
 .let{a,C,dd,u,rfl,fl,q}:=ZL;exact fl.leave (outer:=[]) I rfl rfl rfl λs3 fl=>{(a),C,dd,u,rfl,fl,q}
 .let{H2,s4,I2,n2}:=q2;refine zf3 I ?_ V q3 q4 q5 q6 rfl rfl rfl λs3 fl=>{(a),C,ob.dict,G,rfl,fl,q7};cases e:(jA (CXE P w base) P w K mg base b.g.N h (z0c st) f d A outer F H E).s₀.heap.get? a with
  |none=>rfl
  |some o=>let{o',ZK}:=I2.base.there a o e (by show a∉ [];simp);rw[n2]at ZK;ext ZK
theorem w_fn {Z:Wc}{st:Stmt}(e:Fun K x d st f fd)(h:FnScope Γ.g.N ps<|z0c st)(hs:Γ.g.sc=z0c st)(b:Γ.g.xc=Z8)(i:Dok Γ.g Z.Κ Z.Φ P w K mg base k)(j:∀E,Zok Γ {Z with E:=E} (CXE P w base) P w K mg base k)(c:Γ.xf=Z8)(kf:Γ.fld=[]\/∀X,X.prog=P->X.w=w->X.K=K->X.mg=mg->X.base=base->Wfk Γ X k)(hc:wkL Γ s (z0m st)=J)
 (len:∀a H Q E,sp a H Q E->a.length=ps.length) (run:∀a H Q E,sp a H Q E->wS {Z with E:=E} s {nx:=λ_ l=>Q .non l,rt:=Q} (start Γ.g.N a) H):
 FnOk P w K mg base (CXE P w base) (k+1) f fd ps sp:=zxo {_,e.ex} h hs b i j c kf hc len run
end
abbrev aQ:Ad->Prop:=λ_=>True
abbrev F0 (H:Hp):Fm:={H,λ_=>True,λ_=>Z8,True}
section
variable {K:Z5}{H H':Hp}
theorem Rep.old (r:Rep K H B v d):Rep K H (gQ<|F0 H) v d:=(Rep.there _ r).weak λa h=>by
 cases a with
 |none=>exact trivial
 |some a=>exact{λz=>h.2 z,trivial}
theorem lD (f:b.length=c.length)(h:∀(i:Nat) g (d:D),c[i]?=Y (Y (g,d))->g=G.od/\∃v B,b[i]?=Y (Y v)/\Rep K H B v d):StOk K (F0 H) H b c where
 ext:=Same.refl H
 aU:=λ_ _=>trivial
 own:=λa i e=>by ext e
 len:=f
 sl:=λi g d e=>by let{rfl,v,B,j,r}:=h i g d e;exact{(v),j,r.old}
def Ab:D->Bool
 |.str _=>J
 |_=>Z6
end
section
variable {Z:Wc}{H:Hp}{σ:L2.St}{CC x dx d:Addr}{kvs:List<|Key×V}{es:eM}
theorem Te {x:V}{dx:D}(c:Rep Z.K H B x dx)(d:Rep Z.K H e y<|.dict es)(f:rV dx=J)(q:∀a,Same H a->Q (.bl (iA es dx).isSome) a):nD Z.K (mB<|cmpD .In) x y H Q:={B,e,dx,.dict es,.bool (iA es dx).isSome,c,d,by show((if rV dx=J then Res.ok (iA es dx).isSome else Res.no)>>=λb=>Res.ok<|ZS b)=_;rw[qq f];rfl,λw a s r=>by ext r;exact q a s}
def Tf (h:a[i]?=Y (Y (.od,c))):aJ Κ Φ (.eI (.var i) ["str"]) a=.ok (.fr,.bool<|Ab c):=by show(tI a[i]?>>=λx=>Res.ok (G.fr,ZS<|["str"].any λT=>jZ (iE x.2) T))=_;rw[h];ext c<;>rfl
def vk {C:Addr}(h:Z.me[j]?=Y (C,m,a)):wE Z (.fT o j as)=rO C m a [] Z.E (wE Z o) (wA Z as):=by show(match Z.me[j]? with|some r=>rO r.1 r.2.1 r.2.2 [] Z.E (wE Z o) (wA Z as)|none=>eU)=_;rw[h]
end
namespace Rd
abbrev PL:W:=.bO (.raw 0) "place"
abbrev WD:W:=.bO (.raw 0) "words"
abbrev NB:W:=.bO (.raw 0) "number"
abbrev KD:W:=.bO (.raw 0) "kinds"
abbrev SD:W:=.bO (.raw 0) "said"
abbrev RN:WS:=.seq (.ri "NoRow" "row" NB) .nil
def init:WS:=.seq (.fld (.raw 0) "number"<|.raw 1) (.seq (.fld (.raw 0) "words"<|.bA<|.lP (.var 2)<|.str " ")<|.seq (.fld (.raw 0) "place"<|.bA<|.int 0)<|.seq (.fld (.raw 0) "kinds"<|.raw 3)<|.seq (.fld (.raw 0) "said"<|.lst .nil) .nil)
def peek:WS:=.seq (.ret<|.xT (.tc .Lt PL<|.len WD) (.ix WD PL)<|.bA<|.str "") .nil
def take:WS:=.seq (.asg 1<|.fT (.raw 0) 0 .nil) (.seq (.fld (.raw 0) "place"<|.bin .Add PL<|.bA<|.int 1)<|.seq (.ret<|.raw 1) .nil)
def takeWord:WS:=.seq (.bW (.tc .NotEq (.fT (.raw 0) 1 .nil)<|.raw 1) RN .nil) .nil
def jH:WS:=.seq (.asg 1<|.fT (.raw 0) 1 .nil) (.seq (.bW (.not<|.tp<|.tv<|.call 0 "is_name"<|.cons (.var 1) .nil) RN .nil)<|.seq (.ret<|.raw 1) .nil)
def takeEnd:WS:=.seq (.bW (.tc .Lt PL<|.len WD) RN .nil) .nil
end Rd
def fM (n:Int)(wl:Addr)(p:Nat)(kd sl:Addr):List (U×V):=[("number",.int n),("words",.ref wl),("place",.int p),("kinds",.ref kd),("said",.ref sl)]
def okS (s:U):Prop:=ZY s=J/\s.length<=LIM
structure Rw (K:Z5)(CR:Addr)(H:Hp)(x dx wl kd sl:Addr)(n:Int)(ws:List U)(p:Nat):Prop where
 ins:H x=Y (.ins CR dx<|fM n wl p kd sl)
 ue:H wl=Y (.lst<|ws.map V.str)
 eR:∀s∈ws,okS s
structure RowK (K:Z5)(CR:Addr):Prop where
 cls:Cls K CR
 na:∀f∈(["number","words","place","kinds","said"]:List U),z3l K CR f
section
variable {K:Z5}{H H':Hp}{CR x dx wl kd sl:Addr}{n:Int}{ws:List U}{p:Nat}
theorem Rw.same (r:Rw K CR H x dx wl kd sl n ws p)(s:Same H H'):Rw K CR H' x dx wl kd sl n ws p:={s _ _ r.ins,s _ _ r.ue,r.eR}
theorem Ac:∀{a:List U},(∀s∈a,ZY s=J)->Reps K H B (a.map V.str) (a.map ZX)
 | [],_=>rfl
 |s::a,h=>{_,_,rfl,{rfl,h s ar},Ac λt b=>h t<|ao _ b}
theorem Rw.xZ (r:Rw K CR H x dx wl kd sl n ws p):Rep K H aQ (.ref wl) (.list<|ws.map ZX):={wl,_,rfl,.inl {(r.ue),trivial},Ac λs h=>(r.eR s h).1}
theorem Rw.move (r:Rw K CR H x dx wl kd sl n ws p)(k:∀b o,b≠x->H b=Y o->H' b=Y o)(e:H' x=Y (.ins CR dx<|fM n wl a kd sl)):Rw K CR H' x dx wl kd sl n ws a:={e,k _ _ (λz=>by have:=r.ins;rw[<-z,r.ue]at this;ext this) r.ue,r.eR}
end
section
variable {Z:Wc}{H:Hp}{σ:L2.St}{CR x dx wl kd sl:Addr}{n:Int}{ws:List U}{p:Nat}
theorem nI (a:RowK Z.K CR)(r:Rw Z.K CR H x dx wl kd sl n ws p)(h0:σ[0]?=Y (Y<|.ref x))(hf:f∈(["number","words","place","kinds","said"]:List U))(b:(fM n wl p kd sl).lookup f=Y v)(q:Q v H):wE Z (.bO (.raw 0) f) σ H Q:={.ref x,h0,x,CR,dx,_,v,rfl,r.ins,a.cls,a.na f hf,b,q}
def JE (f:RowK Z.K CR)(r:Rw Z.K CR H x dx wl kd sl n ws p)(h0:σ[0]?=Y (Y<|.ref x))(q:∀d,Same H d->Q (decide (p<ws.length)) d):wT Z (.tc .Lt Rd.PL<|.len Rd.WD) σ H Q:=by
 refine nI (Q:=λa e=>(wE Z<|.len Rd.WD) σ e λb c=>nD Z.K (mB<|cmpD .Lt) a b c _) f r h0 ZP rfl<|nI (Q:=λa e=>z68 Z.K (gP "len") [a] e λb c=>nD Z.K (mB<|cmpD .Lt) (.int p) b c λx d=>∃k,x=V.bl k/\Q k d) f r h0 ZP rfl<|{aQ,[.list<|ws.map ZX],.int ws.length,{_,_,rfl,r.xZ,rfl},by show Res.ok (ZU _)=_;simp,λw e g h=>?_};ext h;refine{aQ,aQ,.int p,.int ws.length,.bool (decide (p<ws.length)),rfl,rfl,?_,λw c i j=>?_}
 .show Res.ok (ZS _)=_;simp
 .cases j;exact{_,rfl,q c<|g.trans i}
def Th {a:List U}(h:p<a.length):iC (.list<|a.map ZX) (.int p)=.ok (.str<|a.getD p ""):=by
 show Res.gF (cN (a.map ZX) p)=_;have:cN (a.map ZX) p=Y (.str<|a.getD p ""):=by unfold cN kT;simp[h]
 rw[this];rfl
theorem gU {K:Z5}:StOk K (F0 H) H σ (bq σ.length Z8):=lD (by rw[cz]) λi g a e=>by rw[cu]at e;split at e<;>ext e
def pk (ws:List U)(p:Nat):U:=ws.getD p ""
def eE (h:∀s∈ws,okS s):okS (pk ws p):=by
 unfold pk;by_cases e:p<ws.length
 .rw[ah,bn e];simp_all
 .rw[ah,gh ZQ];exact{by decide+kernel,by decide+kernel}
def z1n (K:Z5)(CR:Addr):Sp:=λvs H Q _=>∃x dx wl kd sl n ws p,vs=[.ref x]/\Rw K CR H x dx wl kd sl n ws p/\∀H',Same H H'->Q (.str<|pk ws p) H'
def Ti (b:RowK Z.K CR)(r:Rw Z.K CR H x dx wl kd sl n ws p)(q:∀c,Same H c->f.rt (.str<|pk ws p) c):wS Z Rd.peek f [Y<|.ref x] H:=by
 refine JE b r rfl λd a=>?_;by_cases e:p<ws.length
 .rw[qx e];refine bD ?_;show mR _ _ _ _ _ _;refine nI b (r.same a) rfl ZP rfl<|nI b (r.same a) rfl ZP rfl {aQ,aQ,_,.int p,.str<|pk ws p,(r.same a).xZ,rfl,Th e,λw rw=>?_};let{rfl,_}:=rw;exact q d a
 .rw[qy e];refine aY {_,F0 d,_,gU,rfl,λv g h i=>?_};have j:pk ws p="":=by unfold pk;rw[ah,gh ZQ];rfl
  rw[j]at q;let{rfl,_}:=i;exact q g (a.trans h)
def z1i (K:Z5)(CR:Addr):Sp:=λvs H Q _=>∃x dx wl kd sl n ws p,vs=[.ref x]/\Rw K CR H x dx wl kd sl n ws p/\∀H',(∀b o,b≠x->H b=Y o->H' b=Y o)->H' x=Y (.ins CR dx<|fM n wl (p+1) kd sl)->Q (.str<|pk ws p) H'
def Tj (c:RowK Z.K CR)(hm:Z.me[0]?=Y (CR,("peek":U),z1n Z.K CR))(r:Rw Z.K CR H x dx wl kd sl n ws p)(q:∀d,(∀b o,b≠x->H b=Y o->d b=Y o)->d x=Y (.ins CR dx<|fM n wl (p+1) kd sl)->l.rt (.str<|pk ws p) d):wS Z Rd.take l [Y<|.ref x,Z8] H:=by show wE Z (.fT _ 0 _) _ _ _;rw[vk hm];refine{.ref x,rfl,x,dx,_,rfl,r.ins,rfl,x,dx,wl,kd,sl,n,ws,p,rfl,r,λm f=>?_};have g:=r.same f;refine nI (Q:=λa h=>(wE Z<|.bA<|.int 1) _ h λb i=>qN Z.K (cW .Add) a b i _) c g rfl ZP rfl {_,F0 m,_,gU,rfl,λv h j s=>?_};ext s;refine{aQ,aQ,.int p,.int 1,.int<|p+1,rfl,rfl,rfl,λw i k t _=>?_};ext t;refine{.ref x,rfl,x,CR,dx,_,rfl,((g.same j).same k).ins,c.cls,c.na _ ZP,(show 5<1000 by decide),?_};refine{.str<|pk ws p,rfl,q _ (λb o u e=>by rw[aK u];exact k b o<|j b o<|f b o e) ?_};rw[bH];rfl
def rp (mg:U->Option Value)(c fl:U)(y:V)(x:Addr)(H:Hp)(E:XK):Prop:=∀C H' dp,mg c=Y (.ref C)->H dp=Z8->H' dp=Y (.xd [(fl,y)])->(∀b o,b≠x->H b=Y o->H' b=Y o)->E (.ref C) (Y dp) H'
def Ae (c:RowK Z.K CR)(r:Rw Z.K CR a x dx wl kd sl n ws p)(h0:σ[0]?=Y (Y<|.ref x))(k:∀b o,b≠x->H b=Y o->a b=Y o)(ex:rp Z.mg "NoRow" "row" (.int n) x H Z.E):wS Z Rd.RN g σ a:=by
 intro C d;refine nI c r h0 ZP rfl λdp hd=>?_
 have h0:H dp=none:=by
  cases e:H dp with
  |none=>rfl
  |some o=>rw[k dp o (by rintro rfl;rw[r.ins]at hd;ext hd) e]at hd;ext hd
 exact ex C _ dp d h0 bH λb o f e=>by rw[aK (by rintro rfl;rw[h0]at e;ext e)];exact k b o f e
def Ed (hm:Z.me[1]?=Y (CR,("take":U),z1i Z.K CR))(r:Rw Z.K CR H x dx wl kd sl n ws p)(h0:σ[0]?=Y (Y<|.ref x))(q:∀a,(∀b o,b≠x->H b=Y o->a b=Y o)->a x=Y (.ins CR dx<|fM n wl (p+1) kd sl)->Q (.str<|pk ws p) a):wE Z (.fT (.raw 0) 1 .nil) σ H Q:=by rw[vk hm];exact{.ref x,h0,x,dx,_,rfl,r.ins,rfl,x,dx,wl,kd,sl,n,ws,p,rfl,r,q}
def iV (a b:U):bX (.str a) (.str b)=decide (a=b):=by
 show(a==b)=_;by_cases h:a=b
 .subst h;simp
 .rw[qy h];simpa using h
def spTW (K:Z5)(CR:Addr)(mg:U->Option Value):Sp:=λvs H Q E=>∃x dx wl kd sl n ws p w,vs=[.ref x,.str w]/\Rw K CR H x dx wl kd sl n ws p/\ZY w=J/\if pk ws p=w then ∀H',(∀b o,b≠x->H b=Y o->H' b=Y o)->H' x=Y (.ins CR dx<|fM n wl (p+1) kd sl)->Q .non H' else rp mg "NoRow" "row" (.int n) x H E
def zor (h:RowK Z.K CR)(hm:Z.me[1]?=Y (CR,("take":U),z1i Z.K CR))(r:Rw Z.K CR H x dx wl kd sl n ws p)(i:ZY w=J)
  (q:if pk ws p=w then ∀c,(∀b o,b≠x->H b=Y o->c b=Y o)->c x=Y (.ins CR dx<|fM n wl (p+1) kd sl)->j.nx [Y<|.ref x,Y<|.str w] c else rp Z.mg "NoRow" "row" (.int n) x H Z.E):wS Z Rd.takeWord j [Y<|.ref x,Y<|.str w] H:=by
 refine Ed hm r rfl λm d k=>{.str w,rfl,aQ,aQ,.str<|pk ws p,.str w,.bool<|!decide (pk ws p=w),{rfl,(eE r.eR).1},{rfl,(i)},?_,λv l f a=>?_}
 .show(Res.ok (!bX (.str<|pk ws p) (.str w))>>=λb=>Res.ok<|ZS b)=_;rw[iV];rfl
 ext a;refine{_,rfl,?_};have a:=(r.move d k).same f;by_cases e:pk ws p=w
 .rw[qq e]at q;rw[qx e];exact aY (q l (λb o g z=>f b o<|d b o g z) a.ins)
 .rw[qr e]at q;rw[qy e];refine bD (Ae h a rfl (λb o g z=>f b o<|d b o g z) q)
def NmOk (Z:Wc)(j:Nat)(nb:U->Bool):Prop:=∃m,Z.Φ[j]?=Y m/\∀s,okS s->m [.str s]=.ok (.fr,.bool<|nb s)
def spTN (K:Z5)(CR:Addr)(mg:U->Option Value)(nb:U->Bool):Sp:=λvs H Q E=>∃x dx wl kd sl n ws p,vs=[.ref x]/\Rw K CR H x dx wl kd sl n ws p/\if nb (pk ws p)=J then ∀H',(∀b o,b≠x->H b=Y o->H' b=Y o)->H' x=Y (.ins CR dx<|fM n wl (p+1) kd sl)->Q (.str<|pk ws p) H' else rp mg "NoRow" "row" (.int n) x H E
def zqq (k:RowK Z.K CR)(hm:Z.me[1]?=Y (CR,("take":U),z1i Z.K CR))(hn:NmOk Z 0 nb)(r:Rw Z.K CR H x dx wl kd sl n ws p)
  (q:if nb (pk ws p)=J then ∀c,(∀b o,b≠x->H b=Y o->c b=Y o)->c x=Y (.ins CR dx<|fM n wl (p+1) kd sl)->l.rt (.str<|pk ws p) c else rp Z.mg "NoRow" "row" (.int n) x H Z.E):wS Z Rd.jH l [Y<|.ref x,Z8] H:=by
 refine Ed hm r rfl λs d t=>?_;have ok:=eE (p:=p) r.eR;let{m,f,hn}:=hn;refine{[Z8,Y (.od,.str<|pk ws p)],F0 s,nb<|pk ws p,lD rfl λi g v e=>?_,?_,λu h=>?_}
 .rcases i with _|_|i<;>ext e;exact⟨rfl,_,aQ,rfl,rfl,ok.1⟩
 .show(((match Z.Φ[0]? with|some m=>m [.str<|pk ws p]>>=λr=>Res.ok (gJ r.2<|jB r.1,r.2)|none=>.no):Res GD)>>=λx=>hF x.2)=_;rw[f];show((m [.str<|pk ws p]>>=λr=>Res.ok (gJ r.2<|jB r.1,r.2))>>=λx=>hF x.2)=_;rw[hn _ ok];rfl
 have j:=(r.move d t).same h;cases a:nb (pk ws p)with
 |true=>rw[qq a]at q;exact aY {.str<|pk ws p,rfl,q u (λb o a z=>h b o<|d b o a z) j.ins}
 |false=>rw[qr (by rw[a];decide)]at q;exact bD (Ae k j rfl (λb o a z=>h b o<|d b o a z) q)
def Af (K:Z5)(CR:Addr)(mg:U->Option Value):Sp:=λvs H Q E=>∃x dx wl kd sl n ws p,vs=[.ref x]/\Rw K CR H x dx wl kd sl n ws p/\if p<ws.length then rp mg "NoRow" "row" (.int n) x H E else ∀H',Same H H'->Q .non H'
def Tn (a:RowK Z.K CR)(r:Rw Z.K CR H x dx wl kd sl n ws p)(q:if p<ws.length then rp Z.mg "NoRow" "row" (.int n) x H Z.E else ∀H',Same H H'->c.nx [Y<|.ref x] H'):wS Z Rd.takeEnd c [Y<|.ref x] H:=by
 refine JE a r rfl λH1 s1=>?_;by_cases e:p<ws.length
 .rw[qq e]at q;rw[qx e];exact bD (Ae a (r.same s1) rfl (λb o _ z=>s1 b o z) q)
 .rw[qr e]at q;rw[qy e];exact aY (q H1 s1)
theorem JF:∀d,∀l∈aX c d,l.length<=d.length
 | [],l,h=>by rw[ai.mp h];simp_all
 |a::r,l,h=>by
  have b:=JF (c:=c) r;unfold aX at h;by_cases e:a=c
  .rw[qq e]at h;rcases ak.mp h with rfl|h
   .exact c9 _
   .exact bj (b l h) (ij _)
  .rw[qr e]at h;cases hs:aX c r with
   |nil=>rw[hs]at h;rw[ai.mp h];simp_all
   |cons q t=>
    rw[hs]at h b;rcases ak.mp h with rfl|h
    .exact ee (b q ar)
    .exact bj (b l<|ao _ h) (ij _)
def spW (c:Nat)(t:U):List U:=(aX c t[[]]).map toS
theorem Ee:∀s∈spW c t,s.length<=t.length:=λs h=>by let{l,a,rfl}:=ci.mp h;exact JF _ l a
theorem JG {K:Z5}:∀{a:List U} {b:List V},Reps K H B b (a.map ZX)->b=a.map V.str/\∀s∈a,ZY s=J
 | [],b,r=>{r,λ_ h=>nomatch h}
 |s::a,b,r=>by let{v,t,rfl,{rfl,ok},r}:=r;let{rfl,h}:=JG r;exact{rfl,λu hu=>(ak.mp hu).elim (λe=>e▸ok)<|h u}
def To (k:c={#[a]})(hi:σ[i]?=Y (Y<|.str t))(ok:okS t)(q:∀H' l,Same H H'->H l=Z8->H' l=Y (.lst<|(spW a t).map V.str)->(∀s∈spW a t,okS s)->Q (.ref l) H'):wE Z (.bA<|.lP (.var i)<|.str c) σ H Q:=by
 subst k;have b:=(az.mp hi).1;refine{(bq σ.length Z8).set i<|Y (.od,.str t),F0 H,(.fr,.list<|(spW a t).map ZX),lD ZO λj g d e=>?_,?_,λv H1 s1 m=>?_}
 .by_cases h:i=j
  .subst h;rw[ce<|by simpa using b]at e;ext e;exact{rfl,_,aQ,hi,rfl,ok.1}
  .rw[bw h,cu]at e;split at e<;>ext e
 .show((tI _>>=λx=>Res.ok (G.fr,ZX {#[a]})>>=λy=>fG x.2 y.2>>=λd=>Res.ok (G.fr,d)):Res GD)=_;rw[ce<|by simpa using b];show(fG (.str t) (.str {#[a]})>>=λd=>Res.ok (G.fr,d))=_;have:fG (.str t) (.str {#[a]})=.ok (.list<|(spW a t).map ZX):=by show(if decide (t.length<=LIM)=J then Res.ok (ZW<|(aX a t[[]]).map λl=>ZX<|toS l)else .no)=_;rw[qq<|qx ok.2];unfold spW;rw[dw];rfl
  rw[this];rfl
 .let{l,vs,rfl,f,rs}:=m;let{rfl,oks}:=JG rs;rcases f with⟨f,hn⟩|⟨_,hn⟩
  .exact q H1 l s1 hn f λs h=>{oks s h,bj (Ee s h) ok.2}
  .exact hn.elim
def spRI (K:Z5)(CR:Addr):Sp:=λvs H Q _=>∃x dx kd n t,vs=[.ref x,.int n,.str t,.ref kd]/\H x=Y (.ins CR dx [])/\okS t/\∀H' wl sl,(∀b o,b≠x->H b=Y o->H' b=Y o)->Rw K CR H' x dx wl kd sl n (spW 32 t) 0->H' sl=Y (.lst [])->H sl=Z8->wl≠sl->Q .non H'
def zst (rk:RowK Z.K CR)(hx:H x=Y (.ins CR dx []))(ok:okS t)(q:∀H' wl sl,(∀b o,b≠x->H b=Y o->H' b=Y o)->Rw Z.K CR H' x dx wl kd sl n (spW 32 t) 0->H' sl=Y (.lst [])->H sl=Z8->wl≠sl->D0.nx [Y<|.ref x,Y<|.int n,Y<|.str t,Y<|.ref kd] H'):
  wS Z Rd.init D0 [Y<|.ref x,Y<|.int n,Y<|.str t,Y<|.ref kd] H:=by
 refine{.int n,rfl,.ref x,rfl,x,CR,dx,_,rfl,hx,rk.cls,rk.na _ ZP,by decide,?_};refine To (a:=32) Z' rfl ok λH2 wl s2 hn2 hw eR=>?_;have uf:wl≠x:=by rintro rfl;rw[bH]at hn2;ext hn2
 refine{.ref x,rfl,x,CR,dx,_,rfl,s2 _ _ bH,rk.cls,rk.na _ ZP,(show 1<1000 by decide),?_};refine{_,F0 _,_,gU,rfl,λv H4 s4 r4=>?_};ext r4;refine{.ref x,rfl,x,CR,dx,_,rfl,s4 _ _ bH,rk.cls,rk.na _ ZP,(show 2<1000 by decide),?_};refine{.ref kd,rfl,.ref x,rfl,x,CR,dx,_,rfl,bH,rk.cls,rk.na _ ZP,(show 3<1000 by decide),?_};refine{c9 _,λsl rq=>?_};have vm:sl≠x:=by rintro rfl;rw[bH]at rq;ext rq
 refine{.ref x,rfl,x,CR,dx,[("number",.int n),("words",.ref wl),("place",.int 0),("kinds",.ref kd)],rfl,(aK<|Ne.symm vm).trans bH,rk.cls,rk.na _ ZP,(show 4<1000 by decide),?_}
 have Ag:wl≠sl:=by
  rintro rfl
  rw[aK uf,aK uf]at rq;rw[s4 _ _ (by rw[aK uf];exact hw)]at rq;ext rq
 have Ah:H sl=none:=by
  cases e:H sl with
  |none=>rfl
  |some o=>have e4:=s4 sl o<|aK vm▸s2 sl o (aK vm▸e);rw[aK vm,aK vm,e4]at rq;ext rq
 refine q _ wl sl (λb o hb e=>?_) {?_,?_,eR} ?_ Ah Ag
 .have e4:H4 b=Y o:=s4 b o (aK hb▸s2 b o (aK hb▸e))
  have nb:b≠sl:=by
   rintro rfl
   rw[aK hb,aK hb,e4]at rq;ext rq
  rw[aK hb,aK nb,aK hb,aK hb];exact e4
 .rw[bH];rfl
 .rw[aK uf,aK Ag,aK uf,aK uf];exact s4 _ _ (aK uf▸hw)
 .rw[aK vm,bH]
end
namespace Rd
abbrev TK:W:=.fT (.raw 0) 1 .nil
abbrev TN:W:=.fT (.raw 0) 3 .nil
def fY:WS:=.seq (.bW (.tc .In (.raw 1) KD) (.seq (.ri "Twice" "name"<|.raw 1) .nil) .nil) (.seq (.oR (.tp [2,3]) SD<|.seq (.bW (.tc .NotIn (.get KD<|.raw 2)<|.raw 3) (.seq (.ri "Unknown" "name"<|.raw 2) .nil) .nil) .nil) .nil)
def readRow:WS:=.seq (.asg 1 TK)
 (.seq (.bW (.tc .Eq (.raw 1)<|.bA<|.str "fact") (.seq (.asg 2<|.tup<|.cons (.bA<|.str "fact")<|.cons TN .nil) .nil)
  (.seq (.bW (.tc .Eq (.raw 1)<|.bA<|.str "open") (.seq (.asg 2<|.cI 0<|.cons (.raw 0) .nil) .nil)
   (.seq (.bW (.tc .Eq (.raw 1)<|.bA<|.str "word") (.seq (.asg 2<|.tup<|.cons (.bA<|.str "word")<|.cons (.cI 1<|.cons (.raw 0) .nil)<|.cons (.cI 2<|.cons (.raw 0)<|.cons (.gi 2) .nil) .nil) .nil)
    (.seq (.bW (.tc .Eq (.raw 1)<|.bA<|.str "claim") (.seq (.asg 2<|.tup<|.cons (.bA<|.str "claim")<|.cons (.cI 1<|.cons (.raw 0) .nil)<|.cons (.cI 3<|.cons (.raw 0)<|.cons (.gi 2) .nil) .nil) .nil) RN) .nil)) .nil)) .nil))
 (.seq (.exp<|.fT (.raw 0) 4 .nil)<|.seq (.ret<|.raw 2) .nil))
def jI:WS:=.seq (.asg 1 TN) (.seq (.exp<|.fT (.raw 0) 2<|.cons (.bA<|.str "if") .nil)<|.seq (.ret<|.raw 1) .nil)
def readOpen:WS:=.seq (.bW (.tc .Eq (.cnt (.lv KD)<|.bA<|.str "open")<|.gi 1) RN .nil)
 (.seq (.asg 1 TN) (.seq (.exp<|.fT (.raw 0) 2<|.cons (.bA<|.str "for") .nil) (.seq (.asg 2<|.cI 0<|.cons (.raw 0) .nil) (.seq (.exp<|.fT (.raw 0) 2<|.cons (.bA<|.str "against") .nil)
 (.seq (.ret<|.tup<|.cons (.bA<|.str "open")<|.cons (.raw 1)<|.cons (.raw 2)<|.cons (.cI 0<|.cons (.raw 0) .nil) .nil) .nil)))))
def readBody:WS:=.seq (.bW (.tc .Eq (.raw 3)<|.gi 0) (.seq (.ri "NoRow" "row"<|.raw 3) .nil) .nil)
 (.seq (.asg 5<|.mk 0<|.cons (.raw 3)<|.cons (.raw 4)<|.cons (.raw 2) .nil)
 (.seq (.asg 6<|.cI 0<|.cons (.raw 5) .nil)
 (.seq (.exp<|.cI 1<|.cons (.raw 5)<|.cons (.ix (.raw 6)<|.bA<|.int 1) .nil)
 (.seq (.put (.raw 2) (.ix (.raw 6)<|.bA<|.int 1)<|.ix (.raw 6)<|.bA<|.int 0)
 (.seq (.app (.raw 1)<|.raw 6) .nil)))))
def readAct:WS:=.seq (.bW (.not<|.tp<|.tv<|.eI (.var 0) ["str"]) (.seq (.ri "NoRow" "row"<|.bA<|.int 0) .nil) .nil) (.seq (.asg 1<|.lst .nil)<|.seq (.asg 2 .iB)<|.seq (.cV (.tp [3,4]) (.enum<|.lP (.var 0)<|.str "\n") readBody)<|.seq (.ret<|.raw 1) .nil)
end Rd
def Tq (a b:U):eqK (.str a) (.str b)=decide (a=b):=by
 show(a==b)=_;by_cases h:a=b
 .subst h;simp
 .rw[qy h];simpa using h
section
variable {Z:Wc}{H:Hp}{σ:L2.St}{CR x dx wl kd sl:Addr}{n:Int}{ws:List U}{p:Nat}{ns:List U}{nb:U->Bool}
def zru (hm:Z.me[3]?=Y (CR,("take_name":U),spTN Z.K CR Z.mg nb))(r:Rw Z.K CR H x dx wl kd sl n ws p)(h0:σ[0]?=Y (Y<|.ref x))
  (q:if nb (pk ws p)=J then ∀a,(∀b o,b≠x->H b=Y o->a b=Y o)->a x=Y (.ins CR dx<|fM n wl (p+1) kd sl)->Q (.str<|pk ws p) a else rp Z.mg "NoRow" "row" (.int n) x H Z.E):wE Z Rd.TN σ H Q:=by
 rw[vk hm];exact{.ref x,h0,x,dx,_,rfl,r.ins,rfl,x,dx,wl,kd,sl,n,ws,p,rfl,r,q}
def mI (h:Z.fn[j]?=Y sp):wE Z (.cI j a)=kS sp [] Z.E (wA Z a):=by show(match Z.fn[j]? with|some sp=>kS sp [] Z.E (wA Z a)|none=>eU)=_;rw[h]
def x4 (hi:σ[i]?=Y (Y<|.str a))(c:ZY a=J)(q:∀H',Same H H'->Q (decide (a=b)) H'):wT Z (.tc .Eq (.raw i)<|.bA<|.str b) σ H Q:=by
 refine{.str a,hi,_,F0 H,_,gU,rfl,λv H1 s1 d=>?_};refine{aQ,_,.str a,.str b,.bool (decide (a=b)),{rfl,(c)},d,?_,λw e f g=>?_}
 .show(Res.ok (bX (.str a)<|.str b)>>=λb=>Res.ok<|ZS b)=_;rw[iV];rfl
 .cases g;exact{_,rfl,q e<|s1.trans f}
end
def mJ (mg:U->Option Value)(c fl:U)(y:V)(H:Hp)(E:XK):Prop:=∀C H' dp,mg c=Y (.ref C)->H dp=Z8->H' dp=Y (.xd [(fl,y)])->Same H H'->E (.ref C) (Y dp) H'
theorem JH:∀a (k i:Nat),(z1e k a)[i]?=(a[i]?).map λx=>.tuple [.int ((k+i:Nat):Int),x]
 | [],_,i=>by simp[z1e]
 |x::a,k,0=>by simp[z1e]
 |x::a,k,i+1=>by
  unfold z1e;rw[fj,JH a (k+1) i,fj]
  congr 2
  funext y
  have:k+1+i=k+(i+1):=by omega
  rw[this]
theorem JI:∀a k,(z1e k a).length=a.length
 | [],_=>rfl
 |_::a,k=>by unfold z1e;rw[ay,ay,JI a]
section
variable {Z:Wc}{H:Hp}{σ:L2.St}{CR:Addr}{nb:U->Bool}
def Ts {C:Addr}(h:Z.cl[j]?=Y (C,sp)):wE Z (.mk j a)=uM C sp [] Z.E (wA Z a):=by show(match Z.cl[j]? with|some r=>uM r.1 r.2 [] Z.E (wA Z a)|none=>eU)=_;rw[h]
def Ai (a b:Int):bX (.int a) (.int b)=decide (a=b):=by
 show(a==b)=_;by_cases h:a=b
 .subst h;simp
 .rw[qy h];simpa using h
theorem JJ {C:Addr}(ex:mJ Z.mg c fl y H Z.E)(s:Same H H1)(a:Z.mg c=Y (.ref C))(hd:H1 dp=Z8):Z.E (.ref C) (Y dp) (upd H1 dp<|.xd [(fl,y)]):=ex C _ dp a (s.none hd) bH (s.trans<|Same.upd hd)
def Tu (h:l.length=7):∃a b c d e f g,l=[a,b,c,d,e,f,g]:=by rcases l with _|⟨a,_|⟨b,_|⟨c,_|⟨d,_|⟨e,_|⟨f,_|⟨g,_|⟨i,l⟩⟩⟩⟩⟩⟩⟩⟩<;>first|exact⟨_,_,_,_,_,_,_,rfl⟩|(simp at h;done)|(simp at h;omega)
def Tv (ok:okS t)(b:(spW 10 t).length<=1000)(h0:ρ[0]?=Y (Y (.od,.str t))):evW Z.Κ Z.Φ (.enum<|.lP (.var 0)<|.str "\n") ρ=.ok (.al,z1e 0<|(spW 10 t).map ZX):=by
 show(((tI ρ[0]?>>=λx=>Res.ok (G.fr,ZX "\n")>>=λy=>fG x.2 y.2>>=λd=>Res.ok (G.fr,d)):Res GD)>>=λx=>seqR x.2>>=λa=>Res.ok (G.al,z1e 0 a))=_;rw[h0];show((fG (.str t) (.str "\n")>>=λd=>Res.ok (G.fr,d))>>=λx=>seqR x.2>>=λa=>Res.ok (G.al,z1e 0 a))=_;have:fG (.str t) (.str "\n")=.ok (.list<|(spW 10 t).map ZX):=by show(if decide (t.length<=LIM)=J then Res.ok (ZW<|(aX 10 t[[]]).map λl=>ZX<|toS l)else .no)=_;rw[qq<|qx ok.2];unfold spW;rw[dw];rfl
 rw[this];show(seqR (.list<|(spW 10 t).map ZX)>>=λa=>Res.ok (G.al,z1e 0 a))=_;have:seqR (.list<|(spW 10 t).map ZX)=.ok ((spW 10 t).map ZX):=by show(if decide (((spW 10 t).map ZX).length<=LIM)=J then _ else _)=_;rw[qq<|qx (by rw[am];unfold LIM;omega)]
 rw[this];rfl
end
namespace Rd
abbrev PE:W:=.fT (.raw 0) 0 .nil
abbrev OF:W:=.bA (.glob 0 "OF_A_THING")
abbrev RM:W:=.bin .Sub (.raw 1) (.bA<|.int 1)
def Tw:WS:=.seq (.asg 2 TK) (.seq (.bW (.tc .In (.raw 2)<|.raw 1) RN .nil)<|.seq (.app (.raw 1)<|.raw 2)<|.seq (.app SD<|.tup<|.cons (.raw 2)<|.cons OF .nil) .nil)
def readNames:WS:=.seq (.asg 1<|.lst .nil) (.seq (.xY (.xU<|.cI 0<|.cons PE .nil) Tw)<|.seq (.ret<|.bA<|.pI "tuple"<|.tv<|.var 1) .nil)
def lE:WS:=.seq (.asg 2 TN)
 (.seq (.bW (.tc .Eq PE<|.bA<|.str ">=") (.seq (.ret<|.tup<|.cons (.bA<|.str "at")<|.cons (.raw 2)<|.cons (.cI 2<|.cons (.raw 0)<|.cons (.raw 2) .nil) .nil) .nil) .nil)
 (.seq (.app SD<|.tup<|.cons (.raw 2)<|.cons OF .nil)
 (.seq (.ret<|.xT (.tc .Eq (.get KD<|.raw 2)<|.bA<|.str "fact") (.tup<|.cons (.bA<|.str "at")<|.cons (.raw 2)<|.cons (.bA<|.int 1) .nil)<|.tup<|.cons (.bA<|.str "is")<|.cons (.raw 2) .nil) .nil)))
def fZ:WS:=.seq (.bW (.tc .Lt (.raw 1)<|.bA<|.int 1) RN .nil)
 (.seq (.bW (.tc .Eq PE<|.bA<|.str "not") (.seq (.exp TK)<|.seq (.ret<|.tup<|.cons (.bA<|.str "not")<|.cons (.cI 0<|.cons (.raw 0)<|.cons RM .nil) .nil) .nil) .nil)
 (.seq (.bW (.tc .Eq PE<|.bA<|.str "(") (.seq (.ret<|.cI 1<|.cons (.raw 0)<|.cons (.gf 0)<|.cons RM .nil) .nil) .nil) lE))
def gA:WS:=.seq (.bW (.tc .Lt (.raw 1)<|.bA<|.int 1) RN .nil)
 (.seq (.bW (.tc .Eq PE<|.bA<|.str "(") (.seq (.ret<|.cI 1<|.cons (.raw 0)<|.cons (.gf 0)<|.cons RM .nil) .nil) .nil)
 (.seq (.asg 2 TK)
 (.seq (.bW (.tc .Eq (.raw 2)<|.bA<|.str "not") (.seq (.ret<|.tup<|.cons (.bA<|.str "not")<|.cons (.cI 0<|.cons (.raw 0)<|.cons RM .nil) .nil) .nil) .nil)
 (.seq (.bW (.tc .NotIn (.raw 2)<|.bA<|.tup<|.cons (.str "some")<|.cons (.str "all") .nil) RN .nil)
 (.seq (.ret<|.tup<|.cons (.raw 2)<|.cons (.cI 2<|.cons (.raw 0)<|.cons RM .nil) .nil) .nil)))))
def gB:WS:=.seq (.exp<|.fT (.raw 0) 2<|.cons (.bA<|.str "(") .nil)
 (.seq (.asg 3<|.sx 1 0<|.cons (.raw 0)<|.cons (.raw 2) .nil)
 (.seq (.asg 4 TK)
 (.seq (.bW (.tc .NotIn (.raw 4)<|.bA<|.tup<|.cons (.str "and")<|.cons (.str "or") .nil) RN .nil)
 (.seq (.asg 5<|.sx 1 0<|.cons (.raw 0)<|.cons (.raw 2) .nil)
 (.seq (.exp<|.fT (.raw 0) 2<|.cons (.bA<|.str ")") .nil)
 (.seq (.ret<|.tup<|.cons (.raw 4)<|.cons (.raw 3)<|.cons (.raw 5) .nil) .nil))))))
def readBound:WS:=.seq (.exp<|.fT (.raw 0) 2<|.cons (.bA<|.str ">=") .nil)
 (.seq (.asg 2<|.cI 0<|.cons TK .nil)
 (.seq (.bW (.tp<|.or (.tv<|.nW Z6<|.var 2)<|.not<|.tv<|.chain .LtE .LtE (.int 1) (.var 2)<|.bin .Pow (.int 10)<|.int 30) RN .nil)
 (.seq (.app SD<|.tup<|.cons (.raw 1)<|.cons (.bA<|.tup<|.cons (.str "fact") .nil) .nil)
 (.seq (.ret<|.raw 2) .nil))))
end Rd
def iI (ks:List<|U×U):List (Key×V):=ks.map λy=>(.inr y.1,V.str y.2)
def Aj (ks:List<|U×U):eM:=ks.map λy=>(ZX y.1,ZX y.2)
theorem JK {K:Z5}:∀{ks:List<|U×U},(∀y∈ks,ZY y.1=J/\ZY y.2=J)->bV K H B (iI ks) (Aj ks)
 | [],_=>rfl
 |y::ks,h=>{.inr y.1,.str y.2,iI ks,rfl,rfl,(h y ar).1,{rfl,(h y ar).2},JK λt a=>h t<|ao _ a}
def Fr (x sl:Addr)(H H':Hp):Prop:=∀b o,b≠x->b≠sl->H b=Y o->H' b=Y o
theorem Fr.of_same (s:Same H a):Fr x sl H a:=λb o _ _ e=>s b o e
theorem Fr.trans (f:Fr x sl H H1)(g:Fr x sl H1 d):Fr x sl H d:=λb o a c e=>g b o a c (f b o a c e)
theorem Fr.gW (k:∀b o,b≠x->H b=Y o->a b=Y o):Fr x sl H a:=λb o h _ e=>k b o h e
def x5 (d:D):Prop:=∃(nm:U) (ts:List U),d=.tuple [.str nm,.tuple<|ts.map ZX]
structure Rg (K:Z5)(CR:Addr)(H:Hp)(x dx wl kd sl:Addr)(n:Int)(ws:List U)(ks:List<|U×U)(p:Nat)(sd:List D):Prop where
 rw:Rw K CR H x dx wl kd sl n ws p
 kk:H kd=Y (.dK<|iI ks)
 nJ:∀y∈ks,ZY y.1=J/\ZY y.2=J
 sq:∃vs,H sl=Y (.lst vs)/\Reps K H aQ vs sd
 im:imms sd=J
 wf:∀d∈sd,x5 d
 ne:wl≠sl
 len:sd.length<=p
 pP:ws.length<=LIM
section
variable {K:Z5}{H H':Hp}{CR x dx wl kd sl:Addr}{n:Int}{ws:List U}{ks:List<|U×U}{p:Nat}{sd:List D}
def Rg.same (r:Rg K CR H^^^p sd)(s:Same H H'):Rg K CR H'^^^p sd:=by let{vs,a,b}:=r.sq;exact{r.rw.same s,s _ _ r.kk,r.nJ,{vs,s _ _ a,b.same s λ_ h=>h},r.im,r.wf,r.ne,r.len,r.pP}
def Rg.nx (r:Rg K CR H^^^p sd):kd≠x/\sl≠x/\kd≠sl:=by
 let{vs,a,_}:=r.sq;refine{?_,?_,?_}
 .rintro rfl;have:=r.rw.ins;rw[r.kk]at this;ext this
 .rintro rfl;have:=r.rw.ins;rw[a]at this;ext this
 .rintro rfl;have:=r.kk;rw[a]at this;ext this
def Rg.move (r:Rg K CR H^^^p sd)(k:∀b o,b≠x->H b=Y o->H' b=Y o)(e:H' x=Y (.ins CR dx<|fM n wl d kd sl))(f:p<=d):Rg K CR H'^^^d sd:=by let{vs,g,h}:=r.sq;let{i,j,_}:=r.nx;exact{r.rw.move k e,k _ _ i r.kk,r.nJ,{vs,k _ _ j g,Reps.cC (λa o c fx=>k a o (by rintro rfl;rw[r.rw.ins]at c;ext c;exact fx.elim) c) _ r.im h},r.im,r.wf,r.ne,bj r.len f,r.pP}
def Rg.say (r:Rg K CR H^^^p sd)(i:H sl=Y (.lst f))(j:Reps K H aQ f sd)(k:Rep K H aQ v d)(c:imm d=J)(l:x5 d)(m:sd.length<p):Rg K CR (upd H sl<|.lst<|f++[v])^^^p (sd++[d]):=by
 let{C,q,s}:=r.nx;have fx:∀a o,H a=Y o->Fix o->upd H sl (.lst<|f++[v]) a=Y o:=λa o e fx=>by rw[aK (by rintro rfl;rw[i]at e;ext e;exact fx.elim)];exact e
 have g:∀a b,imms a=J->imms b=J->imms (a++b)=true:=λa b t u=>by
  induction a with
  |nil=>exact u
  |cons y a w=>let{z,A}:=aD t;show(imm y&&imms (a++b))=J;rw[z,w A];rfl
 refine{{?_,?_,r.rw.eR},?_,r.nJ,{f++[v],bH,?_},g sd [d] r.im (by show(imm d&&J)=J;rw[c];rfl),(λe B=>(bg.mp B).elim (r.wf e) λh=>ai.mp h▸l),r.ne,by rw[ax];exact m,r.pP}
 .rw[aK<|Ne.symm q];exact r.rw.ins
 .rw[aK r.ne];exact r.rw.ue
 .rw[aK s];exact r.kk
 .exact(Reps.cC fx _ r.im j).append {v,[],rfl,Rep.cC fx _ c k,rfl}
theorem Rg.fx (r:Rg K CR H^^^p sd)(f:Fr x sl H H'):∀a o,H a=Y o->Fix o->H' a=Y o:=λa o e fx=>by let{vs,b,_}:=r.sq;exact f a o (by rintro rfl;rw[r.rw.ins]at e;ext e;exact fx.elim) (by rintro rfl;rw[b]at e;ext e;exact fx.elim) e
theorem jG:∀(ns:List U),imms (ns.map ZX)=J
 | []=>rfl
 |s::ns=>by show(imm (.str s)&&imms (ns.map ZX))=J;rw[jG ns];rfl
theorem Ef (ns:List U):imm (.tuple (ns.map ZX):D)=true:=jG ns
def jJ (mg:U->Option Value)(c fl:U)(y:V)(x sl:Addr)(H:Hp)(E:XK):Prop:=∀C H' dp,mg c=Y (.ref C)->H dp=Z8->H' dp=Y (.xd [(fl,y)])->Fr x sl H H'->E (.ref C) (Y dp) H'
theorem Tx (ex:jJ mg c fl y x sl H E)(k:Fr x sl H H1)(d:H1 x≠Z8)(hs:H1 sl≠Z8):jJ mg c fl y x sl H1 E:=λC H' dp f a hd k2=>by
 refine ex C H' dp f ?_ hd<|k.trans k2;cases e:H dp with
 |none=>rfl
 |some o=>
  by_cases z:dp=x
  .subst z;exact absurd a d
  .by_cases b:dp=sl
   .subst b;exact absurd a hs
   .rw[k dp o z b e]at a;ext a
theorem x6 (ex:jJ mg c fl y x sl H E):rp mg c fl y x H E:=λC H' dp a b hd k=>ex C H' dp a b hd (Fr.gW k)
def Rg.hP (r:Rg K CR H^^^p sd)(ex:jJ mg c fl y x sl H0 E)(k:Fr x sl H0 H):jJ mg c fl y x sl H E:=by let{vs,a,_}:=r.sq;exact Tx ex k (by rw[r.rw.ins];nofun) (by rw[a];nofun)
end
section
variable {Z:Wc}{H H0:Hp}{σ:L2.St}{CR x dx wl kd sl:Addr}{n:Int}{ws:List U}{ks:List<|U×U}{p:Nat}{sd:List D}{nb:U->Bool}
def JL (m0:Z.me[0]?=Y (CR,("peek":U),z1n Z.K CR))(r:Rg Z.K CR H^^^p sd)(h0:σ[0]?=Y (Y<|.ref x))(q:∀a,Same H a->Q (.str<|pk ws p) a):wE Z Rd.PE σ H Q:=by rw[vk m0];exact{.ref x,h0,x,dx,_,rfl,r.rw.ins,rfl,x,dx,wl,kd,sl,n,ws,p,rfl,r.rw,q}
def Al (m0:Z.me[0]?=Y (CR,("peek":U),z1n Z.K CR))(r:Rg Z.K CR H^^^p sd)(h0:σ[0]?=Y (Y<|.ref x))(q:∀c,Same H c->Q (decide (pk ws p=b)) c):wT Z (.tc .Eq Rd.PE<|.bA<|.str b) σ H Q:=by
 refine JL (Q:=λa e=>(wE Z<|.bA<|.str b) σ e λf d=>nD Z.K (mB<|cmpD .Eq) a f d λx c=>∃k,x=V.bl k/\Q k c) m0 r h0 λH0 g=>{_,F0 H0,_,gU,rfl,λv e h i=>?_};refine{aQ,_,.str<|pk ws p,.str b,.bool (decide (pk ws p=b)),{rfl,(eE r.rw.eR).1},i,?_,λw d j l=>?_}
 .show(Res.ok (bX (.str<|pk ws p)<|.str b)>>=λb=>Res.ok<|ZS b)=_;rw[iV];rfl
 .cases l;exact{_,rfl,q d<|(g.trans h).trans j}
theorem vn (m1:Z.me[1]?=Y (CR,("take":U),z1i Z.K CR))(r:Rg Z.K CR H^^^p sd)(h0:σ[0]?=Y (Y<|.ref x))(q:∀a,(∀b o,b≠x->H b=Y o->a b=Y o)->Rg Z.K CR a^^^(p+1) sd->Q (.str<|pk ws p) a):wE Z Rd.TK σ H Q:=Ed m1 r.rw h0 λa k e=>q a k (r.move k e<|ij p)
theorem rA (a:RowK Z.K CR)(r:Rg Z.K CR H^^^p sd)(h0:σ[0]?=Y (Y<|.ref x))(k:Fr x sl H0 H)(ex:jJ Z.mg "NoRow" "row" (.int n) x sl H0 Z.E):wS Z Rd.RN b σ H:=Ae a r.rw h0 (λ_ _ _ e=>e) (x6<|r.hP ex k)
def ze4 (z:RowK Z.K CR)(r:Rg Z.K CR H^^^p sd)(h0:σ[0]?=Y (Y<|.ref x))(A:σ[i]?=Y (Y<|.str nm))(f:ZY nm=J)(B:sd.length<p)(C:p<=LIM)(g:imm d=J)(hd:∃j:List U,d=.tuple (j.map ZX))
  (D:∀H Q,(∀v a,Same H a->Rep Z.K a aQ v d->Q v a)->wE Z e σ H Q)
  (q:∀a,Fr x sl H a->Rg Z.K CR a^^^p (sd++[.tuple [.str nm,d]])->u.nx σ a):wS Z (.app Rd.SD<|.tup<|.cons (.raw i)<|.cons e .nil) u σ H:=by
 let{E,k,w}:=r.sq;have go:∀Q,Q (.ref sl) H->wE Z Rd.SD σ H Q:=λQ q=>nI z r.rw h0 ZP rfl q;show wE Z Rd.SD σ H λl m=>tyV Z.K "list" l m/\(mT (wE Z<|.tup<|.cons (.raw i)<|.cons e .nil) fF) σ m λF G=>zm l F G λ_ a=>u.nx σ a;refine go _ {.inl {rfl,_,.inl<|.inl k},?_};refine{.str nm,A,D H _ λv m I ZK=>{(show 2<=aw by rw[cf];decide),λt y=>?_}};have c:=I.trans<|Same.upd (o:=.tup [.str nm,v]) y;refine{sl,E,.ref t,rfl,rfl,c _ _ k,?_,?_}
 .have:=w.length;rw[cf];unfold LIM at C;omega
 .exact q _ (λb o L s e=>by rw[aK s];exact c b o e) ((r.same c).say (c _ _ k) (w.same c λ_ h=>h) ({t,_,rfl,.inl<|.inl bH,_,_,rfl,{rfl,(f)},_,_,rfl,ZK.same (Same.upd y)<|λ_ h=>h,rfl}) (by show(J&&(imm d&&J))=J;rw[g];rfl) (by let{j,rfl}:=hd;exact{nm,(j),rfl}) B)
end
def OFT:D:=.tuple [.str "fact",.str "open",.str "word"]
def eS (nm:U)(t:D):D:=.tuple [.str nm,t]
def ug (nb:U->Bool)(ws:List U):Nat->Nat->List U->List D->Option (List U×Nat×List D)
 |0,p,ns,sd=>Y (ns,p,sd)
 |k+1,p,ns,sd=>if nb (pk ws p)=J then(if pk ws p∈ns then Z8 else ug nb ws k (p+1) (ns++[pk ws p])<|sd++[eS (pk ws p) OFT])else Y (ns,p,sd)
def z1l (nb:U->Bool)(ws:List U)(p:Nat)(sd:List D):Option (List U×Nat×List D):=ug nb ws (ws.length-p) p [] sd
def Eg (h:ws.length<=p):pk ws p="":=by unfold pk;rw[ah,gh h];rfl
def OfK (Z:Wc):Prop:=Z.Κ[0]?=Y OFT
def x8 (K:Z5)(CR:Addr)(mg:U->Option Value)(x dx wl kd sl:Addr)(n:Int)(ws:List U)(ks:List<|U×U)(H:Hp)(Q:VK)(E:XK):Option (List U×Nat×List D)->Prop
 |some (ns,p',x9)=>∀H' v,Fr x sl H H'->Rg K CR H'^^^p' x9->Rep K H' aQ v (.tuple<|ns.map .str)->Q v H'
 |none=>jJ mg "NoRow" "row" (.int n) x sl H E
def spNs (K:Z5)(CR:Addr)(mg:U->Option Value)(nb:U->Bool):Sp:=λvs H Q E=>∃x dx wl kd sl n ws ks p sd,vs=[.ref x]/\Rg K CR H^^^p sd/\nb ""=Z6/\x8 K CR mg^^^H Q E (z1l nb ws p sd)
def NmSp (Z:Wc)(j:Nat)(nb:U->Bool):Prop:=∃m,Z.fn[j]?=Y (spD Z.K 1 m)/\∀s,okS s->m [.str s]=.ok (.fr,.bool<|nb s)
section
variable {Z:Wc}{H H0:Hp}{σ:L2.St}{CR x dx wl kd sl:Addr}{n:Int}{ws:List U}{ks:List<|U×U}{p:Nat}{sd:List D}{nb:U->Bool}
def Tz (m0:Z.me[0]?=Y (CR,("peek":U),z1n Z.K CR))(hn:NmSp Z 0 nb)(r:Rg Z.K CR H^^^p sd)(h0:σ[0]?=Y (Y<|.ref x))(q:∀H',Same H H'->Q (nb<|pk ws p) H'):wT Z (.xU<|.cI 0<|.cons Rd.PE .nil) σ H Q:=by let{m,hm,hn}:=hn;show wE Z (.cI 0<|.cons Rd.PE .nil) σ H _;rw[mI hm];refine JL m0 r h0 λH1 s1=>?_;have ok:=eE (p:=p) r.rw.eR;refine{aQ,[.str<|pk ws p],(.fr,.bool<|nb<|pk ws p),rfl,{_,_,rfl,{(rfl),ok.1},rfl},hn _ ok,λv a b c=>?_};ext c;exact{_,rfl,q a<|s1.trans b}
theorem Eh:∀(ns:List U),jP 40 (ns.map ZX)=J
 | []=>rfl
 |s::ns=>by show(cO 40 (.str s)&&jP 40 (ns.map ZX))=J;rw[Eh ns];rfl
theorem JM (s:U):∀(ns:List U),((ns.map ZX).any λy=>bX y<|.str s)=decide (s∈ns)
 | []=>by simp
 |t::ns=>by
  rw[bu,gu,JM s ns,iV];by_cases h:t=s
  .subst h;simp
  .rw[qy h];have:s≠t:=λz=>h z.symm;simp[this]
def TB (s:U)(ns:List U):inD (.str s) (.list<|ns.map ZX)=.ok (decide (s∈ns)):=by show(if(cO 40 (.str s)&&jP 40 (ns.map ZX))=J then Res.ok ((ns.map ZX).any λy=>bX y<|.str s)else .no)=_;rw[Eh,JM];rfl
def z83 (hk:OfK Z)(H:Hp)(Q:VK)(q:∀v a,Same H a->Rep Z.K a aQ v OFT->Q v a):wE Z Rd.OF σ H Q:=by refine{_,F0 H,(.fr,OFT),gU,?_,λv b c e=>q v b c<|Rep.weak (λ_ _=>trivial) e};show((match Z.Κ[0]? with|some d=>if imm d=J then Res.ok (G.fr,d)else .no|none=>.no):Res GD)=_;rw[hk];rfl
def zrj (rk:RowK Z.K CR)(m0:Z.me[0]?=Y (CR,("peek":U),z1n Z.K CR))(m1:Z.me[1]?=Y (CR,("take":U),z1i Z.K CR))(hn:NmSp Z 0 nb)(hk:OfK Z)(n0:nb ""=Z6)(r:Rg Z.K CR H^^^p sd)
  (q:x8 Z.K CR Z.mg^^^H D0.rt Z.E (z1l nb ws p sd)):wS Z Rd.readNames D0 [Y<|.ref x,Z8,Z8] H:=by
 refine{c9 _,λj d=>?_};let{W9,ZL,_}:=r.sq;have F:j≠sl:=by rintro rfl;rw[ZL]at d;ext d
 have B:j≠x:=by rintro rfl;rw[r.rw.ins]at d;ext d
 have s0:Same H (upd H j<|.lst []):=Same.upd d;refine{λm G R=>∃c ns l I,m=ws.length-c/\G=[Y<|.ref x,Y<|.ref j,I]/\Rg Z.K CR R^^^c l/\R j=Y (.lst<|ns.map V.str)/\(∀s∈ns,ZY s=J)/\ns.length<=c/\Fr x sl H R/\ug nb ws (ws.length-c) c ns l=z1l nb ws p sd,{_,p,[],sd,Z8,rfl,rfl,r.same s0,bH,nofun,c9 _,Fr.of_same s0,rfl},?_}
 rintro m G R ⟨c,ns,l,I,rfl,rfl,r',hl,oks,ZK,fr,A⟩
 refine Tz m0 hn r' rfl λH1 S=>?_;have W:=r'.same S;have L:=fr.trans<|Fr.of_same S;cases T:nb (pk ws c)with
 |false=>
  refine aY ?_
  have e:z1l nb ws p sd=Y (ns,c,l):=by
   rw[<-A];cases hk:ws.length-c with
   |zero=>rfl
   |succ k=>show(if nb (pk ws c)=J then _ else _)=_;rw[qr (by rw[T];decide)]
  rw[e]at q;refine{[Z8,Y (.od,.list<|ns.map ZX),Z8],F0 H1,(gJ (.tuple<|ns.map ZX) (if imms (ns.map ZX)then .fr else agG .od),.tuple<|ns.map ZX),lD rfl λi g d' e=>?_,rfl,λv C s2 M=>q C v (L.trans<|Fr.of_same s2) (W.same s2)<|Rep.weak (λ_ _=>trivial) M};rcases i with _|_|_|i<;>ext e;exact⟨rfl,_,aQ,rfl,j,_,rfl,.inl ⟨S _ _ hl,trivial⟩,Ac oks⟩
 |true=>
  refine bD ?_
  have JN:c<ws.length:=by
   cases p3 c ws.length with
   |inl h=>exact h
   |inr h=>rw[Eg h,n0]at T;ext T
  have e:z1l nb ws p sd=if pk ws c∈ns then Z8 else ug nb ws (ws.length-(c+1)) (c+1) (ns++[pk ws c]) (l++[eS (pk ws c) OFT]):=by
   rw[<-A];have:ws.length-c=(ws.length-(c+1))+1:=by omega
   rw[this];show(if nb (pk ws c)=J then _ else _)=_;rw[qq T]
  have D:=(eE (p:=c) r.rw.eR).1;refine{λN C=>∃I,∃t,N=[Y<|.ref x,Y<|.ref j,I]/\Rg Z.K CR C^^^(c+1) t/\C j=Y (.lst<|(ns++[pk ws c]).map V.str)/\Fr x sl H C/\ug nb ws (ws.length-(c+1)) (c+1) (ns++[pk ws c]) t=z1l nb ws p sd,?_,?_}
  .rintro N C ⟨b3,t,rfl,M,u,X,O⟩
   refine{ws.length-(c+1),by omega,c+1,_,t,b3,rfl,rfl,M,u,λs hs=>?_,by rw[ax];exact ee ZK,X,O};rcases bg.mp hs with h|h
   .exact oks s h
   .cases ai.mp h;exact D
  .show wE Z Rd.TK [Y<|.ref x,Y<|.ref j,I] H1 _;refine vn m1 W rfl λC k2 M=>?_;have u:=k2 _ _ B<|S _ _ hl;refine{.str<|pk ws c,rfl,.ref j,rfl,aQ,aQ,.str<|pk ws c,.list<|ns.map ZX,.bool (decide (pk ws c∈ns)),{rfl,(D)},{j,_,rfl,.inl {(u),trivial},Ac oks},?_,λw H3 ZM f=>?_}
   .show(inD (.str<|pk ws c) (.list<|ns.map ZX)>>=λb=>Res.ok<|ZS b)=_;rw[TB];rfl
   ext f;refine{_,rfl,?_};have f:=M.same ZM;have P:=(L.trans<|Fr.gW k2).trans<|Fr.of_same ZM;by_cases y:pk ws c∈ns
   .rw[qq y]at e;rw[e]at q;rw[qx y];exact bD (rA rk f rfl P q)
   .rw[qr y]at e;rw[qy y];refine aY ?_;have z:=ZM _ _ u;refine{.ref j,rfl,.inl {rfl,_,.inl<|.inl z},.str<|pk ws c,rfl,j,_,.str<|pk ws c,rfl,rfl,z,?_,?_}
    .rw[am,cf];have:=r.pP;unfold LIM at this;omega
    have r4:Rg Z.K CR (upd H3 j<|.lst<|ns.map V.str++[.str<|pk ws c])^^^(c+1) l:=by let{vs,h1,h2}:=f.sq;exact{{by rw[aK<|Ne.symm B];exact f.rw.ins,by rw[aK<|Ne.symm (by rintro rfl;rw[r.rw.ue]at d;ext d)];exact f.rw.ue,f.rw.eR},by rw[aK (by rintro rfl;have:=f.kk;rw[z]at this;ext this)];exact f.kk,f.nJ,{vs,by rw[aK<|Ne.symm F];exact h1,Reps.cC (λa o O fx=>by rw[aK (by rintro rfl;rw[z]at O;ext O;exact fx.elim)];exact O) _ f.im h2},f.im,f.wf,f.ne,f.len,f.pP}
    refine ze4 rk r4 rfl rfl D ?_ ?_ rfl {["fact","open","word"],rfl} (z83 hk) λH5 Q r5=>?_
    .have:=W.len;omega
    .have:=r.pP;omega
    refine{Y<|.str<|pk ws c,_,rfl,r5,?_,?_,e.symm}
    .rw[Q j (.lst<|ns.map V.str++[.str<|pk ws c]) B F bH,cr];rfl
    .refine Fr.trans (λb o h1 h2 e=>?_) Q;rw[aK (by rintro rfl;rw[d]at e;ext e)];exact P b o h1 h2 e
end
abbrev Ro:=Option (D×Nat×List D)
def lkG (ks:List<|U×U)(nm:U):Option U:=(ks.find? λy=>decide (y.1=nm)).map (·.2)
def kI (nf:U->Option Int)(ws:List U)(nm:U)(p:Nat)(sd:List D):Ro:=
 if pk ws p=">="then match nf (pk ws<|p+1)with
  |some k=>if 1<=k/\k<=10 ^ 30 then Y (.int k,p+2,sd++[eS nm<|.tuple [.str "fact"]])else Z8
  |none=>Z8
 else Z8
def kJ (ws:List U)(f:Nat->List D->Ro)(p:Nat)(sd:List D):Ro:=
 if pk ws p="("then match f (p+1) sd with
  |none=>Z8
  |some (d1,p1,s1)=>if pk ws p1="and"\/pk ws p1="or"then match f (p1+1) s1 with
    |none=>Z8
    |some (d2,p2,s2)=>if pk ws p2=")"then Y (.tuple [.str<|pk ws p1,d1,d2],p2+1,s2)else Z8
   else Z8
 else Z8
def fN (s:U):Ro->Ro
 |some (d,p,sd)=>Y (.tuple [.str s,d],p,sd)
 |none=>Z8
def inT3 (s t:U):Ro->Ro
 |some (d,p,sd)=>Y (.tuple [.str s,.str t,d],p,sd)
 |none=>Z8
def iJ (nb:U->Bool)(nf:U->Option Int)(ws:List U)(ks:List<|U×U)(p:Nat)(sd:List D):Ro:=
 if nb (pk ws p)=J then(if pk ws (p+1)=">="then inT3 "at" (pk ws p) (kI nf ws (pk ws p) (p+1) sd) else Y (if lkG ks (pk ws p)=Y ("fact":U)then .tuple [.str "at",.str<|pk ws p,.int 1]else .tuple [.str "is",.str<|pk ws p],p+1,sd++[eS (pk ws p) OFT]))
 else Z8
def z18 (nb:U->Bool)(nf:U->Option Int)(ws:List U)(ks:List<|U×U):Nat->Nat->List D->Ro
 |0,_,_=>Z8
 |r+1,p,sd=>if pk ws p="not"then fN "not" (z18 nb nf ws ks r (p+1) sd)
  else if pk ws p="("then kJ ws (z18 nb nf ws ks r) p sd
  else iJ nb nf ws ks p sd
def z1p (nb:U->Bool)(nf:U->Option Int)(ws:List U)(ks:List<|U×U):Nat->Nat->List D->Ro
 |0,_,_=>Z8
 |r+1,p,sd=>if pk ws p="("then kJ ws (z1p nb nf ws ks r) p sd
  else if pk ws p="not"then fN "not" (z1p nb nf ws ks r (p+1) sd)
  else if pk ws p="some"\/pk ws p="all"then fN (pk ws p) (z18 nb nf ws ks r (p+1) sd)
  else Z8
def RdOk (K:Z5)(CR:Addr)(mg:U->Option Value)(x dx wl kd sl:Addr)(n:Int)(ws:List U)(ks:List<|U×U)(H:Hp)(Q:VK)(E:XK):Ro->Prop
 |some (d,p',x9)=>∀H' v,Fr x sl H H'->Rg K CR H'^^^p' x9->Rep K H' aQ v d->imm d=J->Q v H'
 |none=>jJ mg "NoRow" "row" (.int n) x sl H E
def spR (K:Z5)(CR:Addr)(mg:U->Option Value)(r:Nat)(f:List U->List (U×U)->Nat->List D->Ro):Sp:=λvs H Q E=>∃x dx wl kd sl n ws ks p sd,vs=[.ref x,.int r]/\Rg K CR H^^^p sd/\RdOk K CR mg^^^H Q E (f ws ks p sd)
def kK (K:Z5)(CR:Addr)(mg:U->Option Value)(fa:Addr)(r:Nat)(f:List U->List (U×U)->Nat->List D->Ro):Sp:=λvs H Q E=>∃x dx wl kd sl n ws ks p sd,vs=[.ref x,.ref fa,.int r]/\Rg K CR H^^^p sd/\RdOk K CR mg^^^H Q E (kJ ws (f ws ks) p sd)
def spBd (K:Z5)(CR:Addr)(mg:U->Option Value)(nf:U->Option Int):Sp:=λvs H Q E=>∃x dx wl kd sl n ws ks p sd nm,vs=[.ref x,.str nm]/\Rg K CR H^^^p sd/\ZY nm=J/\RdOk K CR mg^^^H Q E (kI nf ws nm p sd)
section
variable {Z:Wc}{H H0:Hp}{σ:L2.St}{CR x dx wl kd sl:Addr}{n:Int}{ws:List U}{ks:List<|U×U}{p:Nat}{sd:List D}{nb:U->Bool}
def RdOk.up {K:Z5}(q:RdOk K CR mg^^^H Q E o)(fr:Fr x sl H H1)(r:Rg K CR H1^^^d a):RdOk K CR mg^^^H1 Q E o:=by
 cases o with
 |none=>exact r.hP q fr
 |some z=>exact λH' v f2 b c im=>q H' v (fr.trans f2) b c im
def z59 (b:Z.me[2]?=Y (CR,("take_word":U),spTW Z.K CR Z.mg))(r:Rg Z.K CR H^^^p sd)(h0:σ[0]?=Y (Y<|.ref x))(c:ZY w=J)
  (q:if pk ws p=w then ∀H',Fr x sl H H'->Rg Z.K CR H'^^^(p+1) sd->Q .non H' else jJ Z.mg "NoRow" "row" (.int n) x sl H Z.E):wE Z (.fT (.raw 0) 2<|.cons (.bA<|.str w) .nil) σ H Q:=by
 rw[vk b];refine{.ref x,h0,x,dx,_,rfl,r.rw.ins,rfl,_,F0 H,_,gU,rfl,λv H1 s1 a=>?_};let{rfl,_}:=a;have a:=r.same s1;refine{x,dx,wl,kd,sl,n,ws,p,w,rfl,a.rw,c,?_};by_cases h:pk ws p=w
 .rw[qq h]at q ⊢;exact λH' k e=>q H' ((Fr.of_same s1).trans<|Fr.gW k) (a.move k e<|ij p)
 .rw[qr h]at q ⊢;exact x6 (a.hP q<|Fr.of_same s1)
def JO (hi:σ[i]?=Y (Y<|.str a))(e:ZY a=J)(q:∀H',Same H H'->Q (!decide (a=c\/a=d)) H'):wT Z (.tc .NotIn (.raw i)<|.bA<|.tup<|.cons (.str c)<|.cons (.str d) .nil) σ H Q:=by
 refine{.str a,hi,_,F0 H,_,gU,rfl,λv H1 s1 h=>?_};refine{aQ,_,.str a,.tuple [.str c,.str d],.bool<|!decide (a=c\/a=d),{rfl,(e)},h,?_,λw j k l=>?_}
 .show((Res.ok (bX (.str c) (.str a)||(bX (.str d) (.str a)||Z6))>>=λb=>Res.ok<|!b)>>=λb=>Res.ok<|ZS b)=_;rw[iV,iV]
  have:(decide (c=a)||(decide (d=a)||Z6))=decide (a=c\/a=d):=by
   by_cases f:a=c
   .subst f;simp
   .by_cases g:a=d
    .subst g;simp
    .have m:c≠a:=λz=>f z.symm;have n:d≠a:=λz=>g z.symm;simp[f,g,m,n]
  rw[this];rfl
 .cases l;exact{_,rfl,q j<|s1.trans k}
def zdn (hf:Z.hf[0]?=Y (fa,spR Z.K CR Z.mg r f))(g:Rg Z.K CR H^^^p sd)(h0:σ[0]?=Y (Y<|.ref x))(a:σ[1]?=Y (Y<|.ref fa))(b:σ[2]?=Y (Y<|.int r))
  (q:RdOk Z.K CR Z.mg^^^H Q Z.E (f ws ks p sd)):wE Z (.sx 1 0<|.cons (.raw 0)<|.cons (.raw 2) .nil) σ H Q:=by
 have e:wE Z (.sx 1 0<|.cons (.raw 0)<|.cons (.raw 2) .nil)=λσ H Q=>σ[1]?=Y (Y<|V.ref fa)/\kS (spR Z.K CR Z.mg r f) [] Z.E (wA Z<|.cons (.raw 0)<|.cons (.raw 2) .nil) σ H Q:=by show(match Z.hf[0]? with|some r=>(λσ H Q=>σ[1]?=Y (Y<|V.ref r.1)/\kS r.2 [] Z.E (wA Z<|.cons (.raw 0)<|.cons (.raw 2) .nil) σ H Q:TE)|none=>eU)=_;rw[hf]
 rw[e];exact{a,.ref x,h0,.int r,b,x,dx,wl,kd,sl,n,ws,ks,p,sd,rfl,g,q}
def zgu (W:RowK Z.K CR)(m1:Z.me[1]?=Y (CR,("take":U),z1i Z.K CR))(N:Z.me[2]?=Y (CR,("take_word":U),spTW Z.K CR Z.mg))(hf:Z.hf[0]?=Y (X,spR Z.K CR Z.mg r f))(g:Rg Z.K CR H^^^p sd)
  (q:RdOk Z.K CR Z.mg^^^H m.rt Z.E (kJ ws (f ws ks) p sd)):wS Z Rd.gB m [Y<|.ref x,Y<|.ref X,Y<|.int r,Z8,Z8,Z8] H:=by
 refine z59 N g rfl Z' ?_;by_cases h:¬(pk ws p="(")
 .unfold kJ at q;rw[qr h]at q ⊢;exact q
 have h:=qv h;unfold kJ at q;rw[qq h]at q ⊢;intro H1 f1 O;refine zdn hf O rfl rfl rfl ?_;cases P:f ws ks (p+1) sd with
 |none=>rw[P]at q;exact O.hP q f1
 |some z=>
 let{d,p1,Q}:=z;rw[P]at q;intro H2 s f2 g2 A b;refine vn m1 g2 rfl λZM R g3=>?_;have B:Rep Z.K ZM aQ s d:=Rep.cC (λa o e fx=>R a o (by rintro rfl;rw[g2.rw.ins]at e;ext e;exact fx.elim) e) _ b A;have i:=(eE (p:=p1) g.rw.eR).1;refine JO rfl i λH4 C=>?_;have j:=g3.same C;have u:=((f1.trans f2).trans<|Fr.gW R).trans<|Fr.of_same C;by_cases c:¬(pk ws p1="and"\/pk ws p1="or")
 .rw[qy c];have q:RdOk Z.K CR Z.mg^^^H m.rt Z.E none:=by simpa only[qr c]using q
  exact bD (rA W j rfl u q)
 have c:=qv c;rw[qx c];refine aY (zdn hf j rfl rfl rfl ?_)
 have q:RdOk Z.K CR Z.mg^^^H m.rt Z.E (match f ws ks (p1+1) Q with
  |none=>Z8
  |some (v,p2,D)=>if pk ws p2=")"then Y (.tuple [.str<|pk ws p1,d,v],p2+1,D)else Z8):=by simpa only[qq c]using q
 cases S:f ws ks (p1+1) Q with
 |none=>rw[S]at q;exact j.hP q u
 |some z=>
 let{v,p2,D}:=z;rw[S]at q;have q:RdOk Z.K CR Z.mg^^^H m.rt Z.E (if pk ws p2=")"then Y (.tuple [.str<|pk ws p1,d,v],p2+1,D)else Z8):=q;intro F T G w I k
 have ZK:∀a o,H4 a=Y o->Fix o->F a=Y o:=λa o e fx=>G a o (by rintro rfl;rw[j.rw.ins]at e;ext e;exact fx.elim) (by
  let{vs,hs,_}:=j.sq
  rintro rfl;rw[hs]at e;ext e;exact fx.elim) e
 have L:Rep Z.K F aQ s d:=Rep.cC ZK _ b<|B.same C λ_ h=>h;refine z59 N w rfl Z' ?_;by_cases ZL:¬(pk ws p2=")")
 .rw[qr ZL]at q ⊢;exact w.hP q (u.trans G)
 rw[qq<|qv ZL]at q ⊢;intro M V g6
 have l:∀a o,F a=Y o->Fix o->M a=Y o:=λa o e fx=>V a o (by rintro rfl;rw[w.rw.ins]at e;ext e;exact fx.elim) (by
  let{vs,hs,_}:=w.sq
  rintro rfl;rw[hs]at e;ext e;exact fx.elim) e
 refine{.str<|pk ws p1,rfl,s,rfl,T,rfl,(show 3<=aw by rw[cf];decide),λt ht=>?_};have y:Same M (upd M t<|.tup [.str<|pk ws p1,s,T]):=Same.upd ht;refine q _ _ (((u.trans G).trans V).trans<|Fr.of_same y) (g6.same y) {t,_,rfl,.inl<|.inl bH,_,_,rfl,{rfl,(i)},_,_,rfl,(Rep.cC l _ b L).same y<|λ_ h=>h,_,_,rfl,(Rep.cC l _ k I).same y<|λ_ h=>h,rfl} ?_;show(J&&(imm d&&(imm v&&J)))=J;rw[b,k];rfl
end
def optD:Option Int->D
 |some k=>.int k
 |none=>.none
def NfSp (Z:Wc)(j:Nat)(nf:U->Option Int):Prop:=∃m,Z.fn[j]?=Y (spD Z.K 1 m)/\∀s,okS s->m [.str s]=.ok (.fr,optD<|nf s)
section
variable {Z:Wc}{H H0:Hp}{σ:L2.St}{CR x dx wl kd sl:Addr}{n:Int}{ws:List U}{ks:List<|U×U}{p:Nat}{sd:List D}{nb:U->Bool}{nf:U->Option Int}
def TC (k:Int):dP Κ Φ (.or (.tv<|.nW Z6<|.var 2)<|.not<|.tv<|.chain .LtE .LtE (.int 1) (.var 2)<|.bin .Pow (.int 10)<|.int 30) [Z8,Z8,Y (.od,.int k)]=.ok (!(decide (1<=k)&&decide (k<=10 ^ 30))):=by
 show(((Res.ok (decide (1<=k))>>=λc=>if c=J then aJ Κ Φ (.bin .Pow (.int 10)<|.int 30) [Z8,Z8,Y (.od,.int k)]>>=λz=>cmpD .LtE (.int k) z.2>>=λa=>Res.ok (G.fr,ZS a)else Res.ok (G.fr,ZS Z6))>>=λx=>hF x.2)>>=λc=>Res.ok<|!c)=_;by_cases h:1<=k
 .rw[qx h];rfl
 .rw[qy h];rfl
def zqx (c:RowK Z.K CR)(m1:Z.me[1]?=Y (CR,("take":U),z1i Z.K CR))(u:Z.me[2]?=Y (CR,("take_word":U),spTW Z.K CR Z.mg))(hn:NfSp Z 0 nf)(w:nf ""=Z8)(g:Rg Z.K CR H^^^p sd)(d:ZY nm=J)
  (q:RdOk Z.K CR Z.mg^^^H j.rt Z.E (kI nf ws nm p sd)):wS Z Rd.readBound j [Y<|.ref x,Y<|.str nm,Z8] H:=by
 refine z59 u g rfl Z' ?_;unfold kI at q;by_cases h:¬(pk ws p=">=")
 .rw[qr h]at q ⊢;exact q
 have h:=qv h;rw[qq h]at q ⊢;intro f f1 y;let{m,hm,hn}:=hn;show wE Z (.cI 0<|.cons Rd.TK .nil) [Y<|.ref x,Y<|.str nm,Z8] f _;rw[mI hm];refine vn m1 y rfl λZK z g2=>?_;have ok:=eE (p:=p+1) g.rw.eR;refine{aQ,[.str<|pk ws<|p+1],(.fr,optD<|nf<|pk ws<|p+1),rfl,{_,_,rfl,{(rfl),ok.1},rfl},hn _ ok,λv l o b=>?_};have r:=g2.same o;have f3:=(f1.trans<|Fr.gW z).trans<|Fr.of_same o;cases hf:nf (pk ws<|p+1)with
 |none=>
  rw[hf]at q b;subst b;refine{[Z8,Z8,Y (.od,.none)],F0 l,J,lD rfl λi g A e=>?_,rfl,λB a=>?_}
  .rcases i with _|_|_|i<;>ext e;exact⟨rfl,_,aQ,rfl,rfl⟩
  exact bD (rA c (r.same a) rfl (f3.trans<|Fr.of_same a) q)
 |some k=>
  rw[hf]at q b;subst b;have q:RdOk Z.K CR Z.mg^^^H j.rt Z.E (if 1<=k/\k<=10 ^ 30 then Y (.int k,p+2,sd++[eS nm<|.tuple [.str "fact"]])else Z8):=q;refine{[Z8,Z8,Y (.od,.int k)],F0 l,!(decide (1<=k)&&decide (k<=10 ^ 30)),lD rfl λi g A e=>?_,?_,λB a=>?_}
  .rcases i with _|_|_|i<;>ext e;exact⟨rfl,_,aQ,rfl,rfl⟩
  .exact TC k
  have s:=r.same a;have t:=f3.trans<|Fr.of_same a;by_cases hk:¬(1<=k/\k<=10 ^ 30)
  .rw[qr hk]at q;have:(!(decide (1<=k)&&decide (k<=10 ^ 30)))=true:=by rw[<-Bool.decide_and,qy hk];rfl
   rw[this];exact bD (rA c s rfl t q)
  have hk:=qv hk;rw[qq hk]at q;have:(!(decide (1<=k)&&decide (k<=10 ^ 30)))=false:=by rw[<-Bool.decide_and,qx hk];rfl
  rw[this];refine aY ?_
  have L:p+1<ws.length:=by
   cases p3 (p+1) ws.length with
   |inl h=>exact h
   |inr h=>rw[Eg h,w]at hf;ext hf
  refine ze4 (e:=.bA<|.tup<|.cons (.str "fact") .nil) c s rfl rfl d ?_ ?_ rfl {["fact"],rfl} (λH Q q=>{_,F0 H,_,gU,rfl,λv f C D=>q v f C<|Rep.weak (λ_ _=>trivial) D}) λF G I=>?_
  .have:=g.len;omega
  .have:=g.pP;omega
  exact{.int k,rfl,q F _ (t.trans G) I rfl rfl}
def JP {r:Nat}(a:σ[1]?=Y (Y<|.int r))(q:∀H',Same H H'->Q (decide (r<1)) H'):wT Z (.tc .Lt (.raw 1)<|.bA<|.int 1) σ H Q:=by
 refine{.int r,a,_,F0 H,_,gU,rfl,λv H1 s1 b=>?_};ext b;refine{aQ,aQ,.int r,.int 1,.bool (decide (r<1)),rfl,rfl,?_,λw c d e=>?_}
 .show Res.ok (ZS (decide ((r:Int)<1)))=_
  have:decide ((r:Int)<1)=decide (r<1):=by
   by_cases h:r<1
   .rw[qx h,qx ZQ]
   .rw[qy h,qy ZQ]
  rw[this]
 .cases e;exact{_,rfl,q c<|s1.trans d}
def JQ {r:Nat}(a:σ[1]?=Y (Y<|.int (r+1:Nat)))(q:∀H',Same H H'->Q (.int r) H'):wE Z Rd.RM σ H Q:=by
 refine{_,a,_,F0 H,_,gU,rfl,λv H1 s1 b=>?_};ext b;refine{aQ,aQ,.int (r+1:Nat),.int 1,.int r,rfl,rfl,?_,λw c d e _=>?_}
 .show Res.ok (ZU<|((r+1:Nat):Int)-1)=_;have:((r+1:Nat):Int)-1=r:=by omega
  rw[this]
 .cases e;exact q c (s1.trans d)
def JR:cZ (iI ks) (.inr nm)=(lkG ks nm).map V.str:=by
 unfold cZ lkG iI
 induction ks with
 |nil=>rfl
 |cons y ks a=>
  rw[bu,dt,dt];by_cases h:y.1=nm
  .have :(Sum.inr y.1:Key)=.inr nm:=by rw[h]
   rw[qx h,qx this];rfl
  .have :¬(Sum.inr y.1:Key)=.inr nm:=λz=>h<|Sum.inr.inj z;rw[qy h,qy this];exact a
def JS (h:∀y∈ks,ZY y.1=J/\ZY y.2=J)(e:lkG ks nm=Y s):ZY s=true:=by let{y,a,rfl}:=c7.mp e;exact(h y<|List.mem_of_find?_eq_some a).2
def TF (j:RowK Z.K CR)(r:Rg Z.K CR H^^^p sd)(h0:σ[0]?=Y (Y<|.ref x))(hi:σ[i]?=Y (Y<|.str nm))(q:∀H',Same H H'->Q (decide (lkG ks nm=Y s)) H'):wT Z (.tc .Eq (.get Rd.KD<|.raw i)<|.bA<|.str s) σ H Q:=by
 show wE Z Rd.KD σ H λx H1=>∃a,x=.ref a/\IsD H1 a/\(wE Z<|.raw i) σ H1 λy c=>∃o,DGet c a y o/\(wE Z<|.bA<|.str s) σ c λl m=>nD Z.K (mB<|cmpD .Eq) (o.getD .non) l m λx H'=>∃k,x=V.bl k/\Q k H';refine nI j r.rw h0 dc rfl {kd,rfl,.inl {_,.inl r.kk},.str nm,hi,_,.inl {_,.inr nm,.inl r.kk,rfl,rfl},?_};rw[JR];refine{_,F0 H,_,gU,rfl,λv H1 s1 g=>?_};cases e:lkG ks nm with
 |none=>rw[e]at q;refine{aQ,_,.none,.str s,.bool Z6,rfl,g,rfl,λw c d f=>?_};ext f;exact{_,rfl,q c<|s1.trans d}
 |some t=>
  rw[e]at q;refine{aQ,_,.str t,.str s,.bool (decide (t=s)),{rfl,JS r.nJ e},g,?_,λw c d f=>?_}
  .show(Res.ok (bX (.str t)<|.str s)>>=λb=>Res.ok<|ZS b)=_;rw[iV];rfl
  ext f
  have:decide (Y t=Y s)=decide (t=s):=by
   by_cases h:t=s
   .subst h;simp
   .rw[qy h,qy<|λz=>h<|qt z]
  rw[this]at q;exact{_,rfl,q c<|s1.trans d}
def zkz (oks:ZY s=J)(hs:∀H Q,(∀a,Same H a->Q (.str s) a)->wE Z i σ H Q)(r:Rg Z.K CR H^^^p sd)
  (j:∀a Q,Same H a->RdOk Z.K CR Z.mg^^^a Q Z.E f->wE Z e σ a Q)
  (q:RdOk Z.K CR Z.mg^^^H k.rt Z.E (fN s f)):wS Z (.seq (.ret<|.tup<|.cons i<|.cons e .nil) .nil) k σ H:=by
 refine hs H _ λl b=>j l _ b ?_;cases f with
 |none=>exact(r.same b).hP q (Fr.of_same b)
 |some z=>let{d,y,m}:=z;intro g v f2 o u im;refine{(show 2<=aw by rw[cf];decide),λt w=>?_};have c:Same g (upd g t<|.tup [.str s,v]):=Same.upd w;refine q _ _ (((Fr.of_same b).trans f2).trans<|Fr.of_same c) (o.same c) {t,_,rfl,.inl<|.inl bH,_,_,rfl,{(rfl),oks},_,_,rfl,u.same c<|λ_ h=>h,rfl} ?_;show(J&&(imm d&&J))=J;rw[im];rfl
theorem sA (H:Hp)(Q:VK)(q:∀H',Same H H'->Q (.str s) H'):wE Z (.bA<|.str s) σ H Q:={_,F0 H,_,gU,rfl,λv H1 s1 a=>by let{rfl,_}:=a;exact q H1 s1}
def Ei (a:Z.fn[j]?=Y (spR Z.K CR Z.mg r f))(g:Rg Z.K CR H^^^p sd)(h0:σ[0]?=Y (Y<|.ref x))(b:σ[1]?=Y (Y<|.int (r+1:Nat)))(q:RdOk Z.K CR Z.mg^^^H Q Z.E (f ws ks p sd)):wE Z (.cI j<|.cons (.raw 0)<|.cons Rd.RM .nil) σ H Q:=by rw[mI a];exact{.ref x,h0,JQ b λH1 s1=>{x,dx,wl,kd,sl,n,ws,ks,p,sd,rfl,g.same s1,q.up (Fr.of_same s1)<|g.same s1}}
def JT (a:Z.fn[1]?=Y (kK Z.K CR Z.mg fa r f))(hf:Z.hf[0]?=Y (fa,sp))(g:Rg Z.K CR H^^^p sd)(h0:σ[0]?=Y (Y<|.ref x))(b:σ[1]?=Y (Y<|.int (r+1:Nat)))(q:RdOk Z.K CR Z.mg^^^H Q Z.E (kJ ws (f ws ks) p sd)):wE Z (.cI 1<|.cons (.raw 0)<|.cons (.gf 0)<|.cons Rd.RM .nil) σ H Q:=by
 rw[mI a];refine{.ref x,h0,?_};have c:wE Z (.gf 0)=λ_ H Q=>Q (V.ref fa) H:=by show(match Z.hf[0]? with|some r=>(λ_ H Q=>Q (V.ref r.1) H:TE)|none=>eU)=_;rw[hf]
 show wE Z (.gf 0) σ H λy H1=>wE Z Rd.RM σ H1 λz d=>kK Z.K CR Z.mg fa r f [.ref x,y,z] d Q Z.E;rw[c];exact JQ b λH1 s1=>{x,dx,wl,kd,sl,n,ws,ks,p,sd,rfl,g.same s1,q.up (Fr.of_same s1)<|g.same s1}
end
section
variable {Z:Wc}{H H0:Hp}{σ:L2.St}{CR x dx wl kd sl:Addr}{n:Int}{ws:List U}{ks:List<|U×U}{p:Nat}{sd:List D}{nb:U->Bool}{nf:U->Option Int}
def zoq (rk:RowK Z.K CR)(m0:Z.me[0]?=Y (CR,("peek":U),z1n Z.K CR))(m3:Z.me[3]?=Y (CR,("take_name":U),spTN Z.K CR Z.mg nb))(f2:Z.fn[2]?=Y (spBd Z.K CR Z.mg nf))(hk:OfK Z)(n0:nb ""=Z6)(g:Rg Z.K CR H^^^p sd)
  (q:RdOk Z.K CR Z.mg^^^H D0.rt Z.E (iJ nb nf ws ks p sd)):wS Z Rd.lE D0 [Y<|.ref x,a1,a2] H:=by
 refine zru m3 g.rw rfl ?_;unfold iJ at q;by_cases hb:¬(nb (pk ws p)=J)
 .rw[qr hb]at q ⊢;exact x6 q
 have hb:=qv hb;rw[qq hb]at q ⊢;intro H1 k1 e1;have g1:=g.move k1 e1<|ij p;have TH:Fr x sl H H1:=Fr.gW k1;have oS:=(eE (p:=p) g.rw.eR).1
 have JN:p<ws.length:=by
  cases p3 p ws.length with
  |inl h=>exact h
  |inr h=>rw[Eg h,n0]at hb;ext hb
 refine Al m0 g1 rfl λH2 s2=>?_;have g2:=g1.same s2;have JU:=TH.trans<|Fr.of_same s2;by_cases hg:pk ws (p+1)=">="
 .rw[qq hg]at q;rw[qx hg];refine bD<|sA H2 _ λH3 s3=>{.str<|pk ws p,rfl,?_};show wE Z (.cI 2<|.cons (.raw 0)<|.cons (.raw 2) .nil) [Y<|.ref x,a1,Y<|.str<|pk ws p] H3 _;rw[mI f2];have g3:=g2.same s3;have wF:=JU.trans<|Fr.of_same s3;refine{.ref x,rfl,.str<|pk ws p,rfl,x,dx,wl,kd,sl,n,ws,ks,p+1,sd,pk ws p,rfl,g3,oS,?_};cases hz:kI nf ws (pk ws p) (p+1) sd with
  |none=>rw[hz]at q;exact g3.hP q wF
  |some z=>let{d,p',x9}:=z;rw[hz]at q;intro H4 v f4 g4 rv im;refine{(show 3<=aw by rw[cf];decide),λt ht=>?_};have s5:Same H4 (upd H4 t<|.tup [.str "at",.str<|pk ws p,v]):=Same.upd ht;refine q _ _ ((wF.trans f4).trans<|Fr.of_same s5) (g4.same s5) {t,_,rfl,.inl<|.inl bH,_,_,rfl,{rfl,by decide+kernel},_,_,rfl,{rfl,(oS)},_,_,rfl,rv.same s5<|λ_ h=>h,rfl} ?_;show(J&&(J&&(imm d&&J)))=J;rw[im];rfl
 .rw[qr hg]at q;rw[qy hg];refine aY<|ze4 rk g2 rfl rfl oS (Nat.lt_succ_of_le g.len) (bj JN g.pP) rfl {["fact","open","word"],rfl} (z83 hk) λH3 f3 g3=>TF rk g3 rfl rfl λH4 s4=>?_;have g4:=g3.same s4;have JV:=(JU.trans f3).trans<|Fr.of_same s4;by_cases hf:lkG ks (pk ws p)=Y ("fact":U)
  .rw[qq hf]at q;rw[qx hf];refine bD<|sA H4 _ λH5 s5=>{.str<|pk ws p,rfl,_,F0 H5,_,gU,rfl,λv H6 s6 r6=>?_};ext r6;refine{(show 3<=aw by rw[cf];decide),λt ht=>?_};have s7:=(s5.trans s6).trans<|Same.upd (o:=.tup [.str "at",.str<|pk ws p,.int 1]) ht;exact q _ _ (JV.trans<|Fr.of_same s7) (g4.same s7) {t,_,rfl,.inl<|.inl bH,_,_,rfl,{rfl,by decide+kernel},_,_,rfl,{rfl,(oS)},_,_,rfl,rfl,rfl} rfl
  .rw[qr hf]at q;rw[qy hf];refine aY<|sA H4 _ λH5 s5=>{.str<|pk ws p,rfl,?_};refine{(show 2<=aw by rw[cf];decide),λt ht=>?_};have s7:=s5.trans<|Same.upd (o:=.tup [.str "is",.str<|pk ws p]) ht;exact q _ _ (JV.trans<|Fr.of_same s7) (g4.same s7) {t,_,rfl,.inl<|.inl bH,_,_,rfl,{rfl,by decide+kernel},_,_,rfl,{rfl,(oS)},rfl} rfl
structure SayZ (Z:Wc)(CR:Addr)(nb:U->Bool)(nf:U->Option Int)(r:Nat):Prop where
 m0:Z.me[0]?=Y (CR,("peek":U),z1n Z.K CR)
 m1:Z.me[1]?=Y (CR,("take":U),z1i Z.K CR)
 m3:Z.me[3]?=Y (CR,("take_name":U),spTN Z.K CR Z.mg nb)
 f2:Z.fn[2]?=Y (spBd Z.K CR Z.mg nf)
 hk:OfK Z
 dn:∀r',r=r'+1->Z.fn[0]?=Y (spR Z.K CR Z.mg r' λws ks=>z18 nb nf ws ks r')/\∃fa sp,Z.hf[0]?=Y (fa,sp)/\Z.fn[1]?=Y (kK Z.K CR Z.mg fa r' λws ks=>z18 nb nf ws ks r')
def zmm (c:RowK Z.K CR)(z:SayZ Z CR nb nf r)(j:nb ""=Z6)(g:Rg Z.K CR H^^^p sd)
  (q:RdOk Z.K CR Z.mg^^^H d.rt Z.E (z18 nb nf ws ks r p sd)):wS Z Rd.fZ d [Y<|.ref x,Y<|.int r,Z8] H:=by
 refine JP rfl λk e=>?_;have b:=g.same e;have f1:Fr x sl H k:=Fr.of_same e;cases r with
 |zero=>exact bD (rA c b rfl f1 q)
 |succ r=>
  refine aY ?_;let{l,v,w,m,o}:=z.dn r rfl;have q:RdOk Z.K CR Z.mg^^^H d.rt Z.E (if pk ws p="not"then fN "not" (z18 nb nf ws ks r (p+1) sd)else if pk ws p="("then kJ ws (z18 nb nf ws ks r) p sd else iJ nb nf ws ks p sd):=q;refine Al z.m0 b rfl λy f=>?_;have g2:=b.same f;have f2:=f1.trans<|Fr.of_same f;by_cases h:pk ws p="not"
  .rw[qq h]at q;rw[qx h];refine bD<|vn z.m1 g2 rfl λt u a=>?_;have f3:=f2.trans<|Fr.gW u;exact zkz Z' sA a (λA Q s q=>Ei l (a.same s) rfl rfl q) (q.up f3 a)
  rw[qr h]at q;rw[qy h];refine aY<|Al z.m0 g2 rfl λt i=>?_;have a:=g2.same i;have f3:=f2.trans<|Fr.of_same i;by_cases h:pk ws p="("
  .rw[qq h]at q;rw[qx h];exact bD (JT o m a rfl rfl<|q.up f3 a)
  rw[qr h]at q;rw[qy h];exact aY (zoq c z.m0 z.m3 z.f2 z.hk j a<|q.up f3 a)
structure AskZ (Z:Wc)(CR:Addr)(nb:U->Bool)(nf:U->Option Int)(r:Nat):Prop where
 m0:Z.me[0]?=Y (CR,("peek":U),z1n Z.K CR)
 m1:Z.me[1]?=Y (CR,("take":U),z1i Z.K CR)
 dn:∀r',r=r'+1->Z.fn[0]?=Y (spR Z.K CR Z.mg r' λws ks=>z1p nb nf ws ks r')/\(∃fa sp,Z.hf[0]?=Y (fa,sp)/\Z.fn[1]?=Y (kK Z.K CR Z.mg fa r' λws ks=>z1p nb nf ws ks r'))/\Z.fn[2]?=Y (spR Z.K CR Z.mg r' λws ks=>z18 nb nf ws ks r')
def zm9 (e:RowK Z.K CR)(z:AskZ Z CR nb nf r)(g:Rg Z.K CR H^^^p sd)
  (q:RdOk Z.K CR Z.mg^^^H f.rt Z.E (z1p nb nf ws ks r p sd)):wS Z Rd.gA f [Y<|.ref x,Y<|.int r,Z8] H:=by
 refine JP rfl λt i=>?_;have d:=g.same i;have f1:Fr x sl H t:=Fr.of_same i;cases r with
 |zero=>exact bD (rA e d rfl f1 q)
 |succ r=>
  refine aY ?_;let{u,{D,F,v,w},y}:=z.dn r rfl;have q:RdOk Z.K CR Z.mg^^^H f.rt Z.E (if pk ws p="("then kJ ws (z1p nb nf ws ks r) p sd else if pk ws p="not"then fN "not" (z1p nb nf ws ks r (p+1) sd)else if pk ws p="some"\/pk ws p="all"then fN (pk ws p) (z18 nb nf ws ks r (p+1) sd)else Z8):=q;refine Al z.m0 d rfl λG j=>?_;have g2:=d.same j;have f2:=f1.trans<|Fr.of_same j;by_cases h:pk ws p="("
  .rw[qq h]at q;rw[qx h];exact bD (JT w v g2 rfl rfl<|q.up f2 g2)
  rw[qr h]at q;rw[qy h];refine aY<|vn z.m1 g2 rfl λI A B=>?_;have a:=(eE (p:=p) g.rw.eR).1;refine x4 rfl a λZK k=>?_;have b:=B.same k;have l:=(f2.trans<|Fr.gW A).trans<|Fr.of_same k;by_cases h:pk ws p="not"
  .rw[qq h]at q;rw[qx h];exact bD (zkz Z' sA b (λC Q s q=>Ei u (b.same s) rfl rfl q)<|q.up l b)
  rw[qr h]at q;rw[qy h];refine aY<|JO rfl a λL m=>?_;have c:=b.same m;have o:=l.trans<|Fr.of_same m;by_cases h:¬(pk ws p="some"\/pk ws p="all")
  .rw[qr h]at q;rw[qy h];exact bD (rA e c rfl o q)
  have h:=qv h;rw[qq h]at q;rw[qx h];exact aY (zkz a (λH Q q=>{_,rfl,q H<|Same.refl H}) c (λC Q s q=>Ei y (c.same s) rfl rfl q)<|q.up o c)
end
def gC (nb:U->Bool)(ws:List U)(p:Nat):Bool:=nb (pk ws p)&&decide (pk ws (p+1)="if")
def cntO (ks:List<|U×U):Nat:=(ks.map (·.2)).countP (· ==("open":U))
def iK (nb:U->Bool)(ws:List U)(ks:List<|U×U)(p:Nat)(sd:List D):Ro:=
 if cntO ks=4 then Z8
 else if nb (pk ws p)=J then
  (if pk ws (p+1)="for"then match z1l nb ws (p+2) sd with
   |none=>Z8
   |some (n1,p1,s1)=>if pk ws p1="against"then match z1l nb ws (p1+1) s1 with
     |none=>Z8
     |some (n2,p2,s2)=>Y (.tuple [.str "open",.str<|pk ws p,.tuple<|n1.map .str,.tuple<|n2.map .str],p2,s2)
    else Z8
  else Z8)
 else Z8
def dA (nb:U->Bool)(nf:U->Option Int)(ws:List U)(ks:List<|U×U)(sd:List D):Ro:=
 if pk ws 0="fact"then(if nb (pk ws 1)=J then Y (.tuple [.str "fact",.str<|pk ws 1],2,sd)else Z8)
 else if pk ws 0="open"then iK nb ws ks 1 sd
 else if pk ws 0="word"then(if gC nb ws 1=J then inT3 "word" (pk ws 1) (z18 nb nf ws ks 8 3 sd)else Z8)
 else if pk ws 0="claim"then(if gC nb ws 1=J then inT3 "claim" (pk ws 1) (z1p nb nf ws ks 8 3 sd)else Z8)
 else Z8
def rdRw (nb:U->Bool)(nf:U->Option Int)(ws:List U)(ks:List<|U×U)(sd:List D):Ro:=
 match dA nb nf ws ks sd with
 |none=>Z8
 |some (d,p,s)=>if p<ws.length then Z8 else Y (d,p,s)
def spHg (K:Z5)(CR:Addr)(mg:U->Option Value)(nb:U->Bool):Sp:=λvs H Q E=>∃x dx wl kd sl n ws ks p sd,vs=[.ref x]/\Rg K CR H^^^p sd/\if gC nb ws p=J then ∀H',Fr x sl H H'->Rg K CR H'^^^(p+2) sd->Q (.str<|pk ws p) H' else jJ mg "NoRow" "row" (.int n) x sl H E
def spOg (K:Z5)(CR:Addr)(mg:U->Option Value)(nb:U->Bool):Sp:=λvs H Q E=>∃x dx wl kd sl n ws ks p sd,vs=[.ref x]/\Rg K CR H^^^p sd/\nb ""=Z6/\RdOk K CR mg^^^H Q E (iK nb ws ks p sd)
def spRg (K:Z5)(CR:Addr)(mg:U->Option Value)(nb:U->Bool)(nf:U->Option Int):Sp:=λvs H Q E=>∃x dx wl kd sl n ws ks sd,vs=[.ref x]/\Rg K CR H^^^0 sd/\nb ""=Z6/\RdOk K CR mg^^^H Q E (rdRw nb nf ws ks sd)
section
variable {Z:Wc}{H H0:Hp}{σ:L2.St}{CR x dx wl kd sl:Addr}{n:Int}{ws:List U}{ks:List<|U×U}{p:Nat}{sd:List D}{nb:U->Bool}{nf:U->Option Int}
def ze1 (m3:Z.me[3]?=Y (CR,("take_name":U),spTN Z.K CR Z.mg nb))(g:Rg Z.K CR H^^^p sd)(h0:σ[0]?=Y (Y<|.ref x))
  (q:if nb (pk ws p)=J then ∀H',Fr x sl H H'->Rg Z.K CR H'^^^(p+1) sd->Q (.str<|pk ws p) H' else jJ Z.mg "NoRow" "row" (.int n) x sl H Z.E):wE Z Rd.TN σ H Q:=by
 refine zru m3 g.rw h0 ?_;by_cases h:nb (pk ws p)=J
 .rw[qq h]at q ⊢;exact λH' k e=>q H' (Fr.gW k) (g.move k e<|ij p)
 .rw[qr h]at q ⊢;exact x6 q
def zp5 (c:Z.me[2]?=Y (CR,("take_word":U),spTW Z.K CR Z.mg))(m3:Z.me[3]?=Y (CR,("take_name":U),spTN Z.K CR Z.mg nb))(g:Rg Z.K CR H^^^p sd)
  (q:if gC nb ws p=J then ∀H',Fr x sl H H'->Rg Z.K CR H'^^^(p+2) sd->d.rt (.str<|pk ws p) H' else jJ Z.mg "NoRow" "row" (.int n) x sl H Z.E):wS Z Rd.jI d [Y<|.ref x,Z8] H:=by
 refine ze1 m3 g rfl ?_;unfold gC at q;by_cases h:¬(nb (pk ws p)=J)
 .rw[qr h];have:nb (pk ws p)=false:=by cases e:nb (pk ws p)<;>first|rfl|exact absurd e h
  rw[this]at q;exact q
 have h:=qv h;rw[qq h];intro H1 f1 b;rw[h]at q;refine z59 c b rfl Z' ?_;by_cases a:pk ws (p+1)="if"
 .rw[qq a];rw[qx a]at q;exact λf f2 g2=>{_,rfl,q f (f1.trans f2) g2}
 .rw[qr a];rw[qy a]at q;exact b.hP q f1
def TJ (rk:RowK Z.K CR)(g:Rg Z.K CR H^^^p sd)(h0:σ[0]?=Y (Y<|.ref x))(q:∀H',Same H H'->Q (.int<|cntO ks) H'):wE Z (.cnt (.lv Rd.KD)<|.bA<|.str "open") σ H Q:=by
 show wE Z Rd.KD σ H λx H1=>tyV Z.K "dict" x H1/\zZ x [] H1 λv H2=>z3 [v] H2 λl H3=>tyV Z.K "list" l H3/\(mT (wE Z<|.bA<|.str "open") fF) σ H3 λxs H4=>q9 l xs H4 Q;refine nI rk g.rw h0 ZP rfl {.inr<|.inr<|.inl {rfl,.inl {_,g.kk}},kd,_,rfl,rfl,g.kk,λv hv=>?_};refine{v,kd,_,rfl,bH,by rw[aK (by rintro rfl;rw[g.kk]at hv;ext hv)];exact g.kk,λl hl=>?_};refine{.inl {rfl,_,.inl<|.inl bH},_,F0 _,_,gU,rfl,λw H2 s2 r2=>?_};let{rfl,_}:=r2;have JW:=s2 _ _ bH;have e:(iI ks).map (·.2)=(ks.map (·.2)).map V.str:=by unfold iI;rw[dw,dw];rfl
 rw[e]at JW;exact{l,rfl,.inl {_,"open",rfl,JW,q H2<|((Same.upd hv).trans<|Same.upd hl).trans s2}}
def zol (D:RowK Z.K CR)(V:Z.gi[1]?=Y 4)(F:Z.me[2]?=Y (CR,("take_word":U),spTW Z.K CR Z.mg))(m3:Z.me[3]?=Y (CR,("take_name":U),spTN Z.K CR Z.mg nb))(f0:Z.fn[0]?=Y (spNs Z.K CR Z.mg nb))(G:nb ""=Z6)(g:Rg Z.K CR H^^^p sd)
  (q:RdOk Z.K CR Z.mg^^^H I.rt Z.E (iK nb ws ks p sd)):wS Z Rd.readOpen I [Y<|.ref x,Z8,Z8] H:=by
 refine TJ D g rfl λH2 e=>?_;have W:wE Z (.gi 1)=λ_ H Q=>Q (.int 4) H:=by show(match Z.gi[1]? with|some n=>(λ_ H Q=>Q (.int n) H:TE)|none=>eU)=_;rw[V]
 rw[W];refine{aQ,aQ,.int<|cntO ks,.int 4,.bool (decide (cntO ks=4)),rfl,rfl,?_,λw X ZM r3=>?_}
 .show(Res.ok (bX (.int<|cntO ks)<|.int 4)>>=λb=>Res.ok<|ZS b)=_;rw[Ai]
  have:decide ((cntO ks:Int)=4)=decide (cntO ks=4):=by
   by_cases h:cntO ks=4
   .rw[qx h,qx ZQ]
   .rw[qy h,qy ZQ]
  rw[this];rfl
 ext r3;refine{_,rfl,?_};have c:=e.trans ZM;have r:=g.same c;have f3:Fr x sl H X:=Fr.of_same c;unfold iK at q;by_cases h:cntO ks=4
 .rw[qq h]at q;rw[qx h];exact bD (rA D r rfl f3 q)
 rw[qr h]at q;rw[qy h];refine aY<|ze1 m3 r rfl ?_;by_cases ZK:¬(nb (pk ws p)=J)
 .rw[qr ZK]at q ⊢;exact r.hP q f3
 rw[qq<|qv ZK]at q ⊢;intro H4 f L;have f:=f3.trans f;refine z59 F L rfl Z' ?_;by_cases hf:¬(pk ws (p+1)="for")
 .rw[qr hf]at q ⊢;exact L.hP q f
 rw[qq<|qv hf]at q ⊢;intro H5 i M;have i:=f.trans i;show wE Z (.cI 0<|.cons (.raw 0) .nil) [Y<|.ref x,Y<|.str<|pk ws p,Z8] H5 _;rw[mI f0];refine{.ref x,rfl,x,dx,wl,kd,sl,n,ws,ks,p+2,sd,rfl,M,G,?_};cases N:z1l nb ws (p+2) sd with
 |none=>rw[N]at q;exact M.hP q i
 |some z=>
 let{j,p1,s}:=z;rw[N]at q;intro H6 k l u v;have l:=i.trans l;have a:=Ef j;refine z59 F u rfl Z' ?_
 have q:RdOk Z.K CR Z.mg^^^H I.rt Z.E (if pk ws p1="against"then match z1l nb ws (p1+1) s with
   |none=>Z8
   |some (m,p2,e)=>Y (.tuple [.str "open",.str<|pk ws p,.tuple<|j.map .str,.tuple<|m.map .str],p2,e)
  else Z8):=q
 by_cases O:¬(pk ws p1="against")
 .rw[qr O]at q ⊢;exact u.hP q l
 rw[qq<|qv O]at q ⊢;intro P d g7;have y:Rep Z.K P aQ k (.tuple<|j.map ZX):=Rep.cC (u.fx d) _ a v;refine sA P _ λH8 A=>{_,rfl,k,rfl,?_};have B:=g7.same A;have R:=(l.trans d).trans<|Fr.of_same A;show wE Z (.cI 0<|.cons (.raw 0) .nil) [Y<|.ref x,Y<|.str<|pk ws p,Y k] H8 _;rw[mI f0];refine{.ref x,rfl,x,dx,wl,kd,sl,n,ws,ks,p1+1,s,rfl,B,G,?_};cases S:z1l nb ws (p1+1) s with
 |none=>rw[S]at q;exact B.hP q R
 |some z=>
 let{m,p2,e}:=z;rw[S]at q;intro T v2 ZL g9 C;refine{(show 4<=aw by rw[cf];decide),λt ht=>?_};have o:Same T (upd T t<|.tup [.str "open",.str<|pk ws p,k,v2]):=Same.upd ht;refine q _ _ ((R.trans ZL).trans<|Fr.of_same o) (g9.same o) {t,_,rfl,.inl<|.inl bH,_,_,rfl,{rfl,by decide+kernel},_,_,rfl,{rfl,((eE (p:=p) g.rw.eR).1)},_,_,rfl,(Rep.cC (B.fx ZL) _ a<|y.same A λ_ h=>h).same o<|λ_ h=>h,_,_,rfl,C.same o<|λ_ h=>h,rfl} ?_;show(J&&(J&&(imm (.tuple<|j.map ZX)&&(imm (.tuple<|m.map ZX)&&J))))=J;rw[a,Ef m];rfl
end
def bU (ks:List<|U×U):List D->Option U
 | []=>Z8
 |.tuple [.str nm,.tuple ts]::r=>if(ts.any λy=>bX y (match lkG ks nm with|some s=>.str s|none=>.none))=J then bU ks r else Y nm
 |_::r=>bU ks r
def cJ (ks:List<|U×U)(nm:U):Bool:=(lkG ks nm).isSome
section
variable {Z:Wc}{H H0:Hp}{σ:L2.St}{CR x dx wl kd sl:Addr}{n:Int}{ws:List U}{ks:List<|U×U}{p:Nat}{sd:List D}{nb:U->Bool}{nf:U->Option Int}
def zra {e:W}{s t:U}{f:Ro}{Q:VK}{j:Nat}(oks:ZY s=J)(okt:ZY t=J)(f1:Z.fn[1]?=Y (spHg Z.K CR Z.mg nb))(r:Rg Z.K CR H^^^p sd)(h0:σ[0]?=Y (Y<|.ref x))(ht:t=pk ws p)
  (he:∀(H':Hp) (Q:VK),Rg Z.K CR H'^^^(p+2) sd->RdOk Z.K CR Z.mg^^^H' Q Z.E f->wE Z e σ H' Q)
  (q:RdOk Z.K CR Z.mg^^^H Q Z.E (if gC nb ws p=J then inT3 s t f else Z8)):wE Z (.tup<|.cons (.bA<|.str s)<|.cons (.cI 1<|.cons (.raw 0) .nil)<|.cons e .nil) σ H Q:=by
 show wE Z (.bA<|.str s) σ H _;refine sA H _ λH1 s1=>?_;have r1:=r.same s1;show wE Z (.cI 1<|.cons (.raw 0) .nil) σ H1 _;rw[mI f1];refine{.ref x,h0,x,dx,wl,kd,sl,n,ws,ks,p,sd,rfl,r1,?_};by_cases h:¬(gC nb ws p=J)
 .rw[qr h]at q ⊢;exact r1.hP q (Fr.of_same s1)
 have h:=qv h;rw[qq h]at q ⊢;intro H2 f2 r2;have f2:Fr x sl H H2:=(Fr.of_same s1).trans f2;show wE Z e σ H2 _;refine he H2 _ r2 ?_;cases f with
 |none=>exact r2.hP q f2
 |some z=>let{d,p',x9}:=z;intro H3 v f3 r3 rv im;refine{(show 3<=aw by rw[cf];decide),λtt hh=>?_};have s4:Same H3 (upd H3 tt<|.tup [.str s,.str<|pk ws p,v]):=Same.upd hh;subst ht;refine q _ _ ((f2.trans f3).trans<|Fr.of_same s4) (r3.same s4) {tt,_,rfl,.inl<|.inl bH,{_,_,rfl,{(rfl),oks},_,_,rfl,{(rfl),okt},_,_,rfl,rv.same s4<|λ_ h=>h,rfl}} ?_;show(J&&(J&&(imm d&&J)))=J;rw[im];rfl
structure RowZ (Z:Wc)(CR:Addr)(nb:U->Bool)(nf:U->Option Int):Prop where
 g2:Z.gi[2]?=Y 8
 m1:Z.me[1]?=Y (CR,("take":U),z1i Z.K CR)
 m3:Z.me[3]?=Y (CR,("take_name":U),spTN Z.K CR Z.mg nb)
 m4:Z.me[4]?=Y (CR,("take_end":U),Af Z.K CR Z.mg)
 f0:Z.fn[0]?=Y (spOg Z.K CR Z.mg nb)
 f1:Z.fn[1]?=Y (spHg Z.K CR Z.mg nb)
 f2:Z.fn[2]?=Y (spR Z.K CR Z.mg 8 λws ks=>z18 nb nf ws ks 8)
 f3:Z.fn[3]?=Y (spR Z.K CR Z.mg 8 λws ks=>z1p nb nf ws ks 8)
def JX (g2:Z.gi[2]?=Y 8)(a:Z.fn[j]?=Y (spR Z.K CR Z.mg 8 f))(g:Rg Z.K CR H^^^p sd)(h0:σ[0]?=Y (Y<|.ref x))(q:RdOk Z.K CR Z.mg^^^H Q Z.E (f ws ks p sd)):wE Z (.cI j<|.cons (.raw 0)<|.cons (.gi 2) .nil) σ H Q:=by
 rw[mI a];refine{.ref x,h0,?_};have b:wE Z (.gi 2)=λ_ H Q=>Q (.int 8) H:=by show(match Z.gi[2]? with|some n=>(λ_ H Q=>Q (.int n) H:TE)|none=>eU)=_;rw[g2]
 show wE Z (.gi 2) σ H λy H1=>spR Z.K CR Z.mg 8 f [.ref x,y] H1 Q Z.E;rw[b];exact{(x),dx,wl,kd,sl,n,ws,ks,p,sd,rfl,g,q}
def zo1 {I:Ends}(S:RowK Z.K CR)(z:RowZ Z CR nb nf)(T:nb ""=Z6)(g:Rg Z.K CR H^^^0 sd)
  (q:RdOk Z.K CR Z.mg^^^H I.rt Z.E (rdRw nb nf ws ks sd)):wS Z Rd.readRow I [Y<|.ref x,Z8,Z8] H:=by
 refine vn z.m1 g rfl λH1 ZL W=>?_;have f:=(eE (p:=0) g.rw.eR).1;have l:=(eE (p:=1) g.rw.eR).1
 have k:∀{o:Ro} {r:Hp} {a2:Option V},dA nb nf ws ks sd=o->Fr x sl H r->(∃B m,Rg Z.K CR r^^^B m)->RdOk Z.K CR Z.mg^^^r (λv s=>wS Z (.seq (.exp<|.fT (.raw 0) 4 .nil)<|.seq (.ret<|.raw 2) .nil) I [Y<|.ref x,Y<|.str<|pk ws 0,Y v] s) Z.E o:=by
  intro o r a2 e f2 ⟨p2,X,g2⟩;unfold rdRw at q;rw[e]at q;cases o with
  |none=>exact g2.hP q f2
  |some y=>
   let{d,B,m}:=y;intro s v f3 c rv im;show wE Z (.fT (.raw 0) 4 .nil) [Y<|.ref x,Y<|.str<|pk ws 0,Y v] s _;rw[vk z.m4];refine{.ref x,rfl,x,dx,_,rfl,c.rw.ins,rfl,x,dx,wl,kd,sl,n,ws,_,rfl,c.rw,?_};have q:RdOk Z.K CR Z.mg^^^H I.rt Z.E (if B<ws.length then Z8 else Y (d,B,m)):=q;by_cases h:B<ws.length
   .rw[qq h]at q ⊢;exact x6 (c.hP q<|f2.trans f3)
   .rw[qr h]at q ⊢;exact λC u=>{v,rfl,q C v ((f2.trans f3).trans<|Fr.of_same u) (c.same u) (rv.same u λ_ h=>h) im}
 have ex:dA nb nf ws ks sd=Z8->jJ Z.mg "NoRow" "row" (.int n) x sl H Z.E:=λe=>by unfold rdRw at q;rw[e]at q;exact q
 refine x4 (i:=1) (a:=pk ws 0) (b:="fact") rfl f λr O=>?_;have g2:=W.same O;have f2:=(Fr.gW ZL).trans<|Fr.of_same (x:=x) (sl:=sl) O;by_cases h:pk ws 0="fact"
 .have e:dA nb nf ws ks sd=if nb (pk ws 1)=J then Y (.tuple [.str "fact",.str<|pk ws 1],2,sd)else none:=by unfold dA;rw[qq h]
  rw[qx h];refine bD<|sA r _ λs D=>?_;have c:=g2.same D;have f3:=f2.trans<|Fr.of_same (x:=x) (sl:=sl) D;refine ze1 z.m3 c rfl ?_;by_cases P:nb (pk ws 1)=J
  .rw[qq P]at e ⊢;intro C ZK w;refine{(show 2<=aw by rw[cf];decide),λt ht=>?_};have F:Same C (upd C t<|.tup [.str "fact",.str<|pk ws 1]):=Same.upd ht;exact k (a2:=Z8) e (f3.trans ZK) {_,_,w} _ (.ref t) (Fr.of_same F) (w.same F) {t,_,rfl,.inl<|.inl bH,_,_,rfl,{rfl,by decide+kernel},_,_,rfl,{rfl,(l)},rfl} rfl
  .rw[qr P]at e ⊢;exact c.hP (ex e) f3
 rw[qy h];refine aY<|x4 (i:=1) (a:=pk ws 0) (b:="open") rfl f λs D=>?_;have c:=g2.same D;have f3:=f2.trans<|Fr.of_same (x:=x) (sl:=sl) D;by_cases A:pk ws 0="open"
 .have e:dA nb nf ws ks sd=iK nb ws ks 1 sd:=by unfold dA;rw[qr h,qq A]
  rw[qx A];refine bD ?_;show wE Z (.cI 0<|.cons (.raw 0) .nil) [Y<|.ref x,Y<|.str<|pk ws 0,Z8] s _;rw[mI z.f0];exact{.ref x,rfl,x,dx,wl,kd,sl,n,ws,ks,1,sd,rfl,c,T,k (a2:=Z8) e f3 {_,_,c}}
 rw[qy A];refine aY<|x4 (i:=1) (a:=pk ws 0) (b:="word") rfl f λC u=>?_;have w:=c.same u;have ZK:=f3.trans<|Fr.of_same (x:=x) (sl:=sl) u;by_cases G:pk ws 0="word"
 .have e:dA nb nf ws ks sd=if gC nb ws 1=J then inT3 "word" (pk ws 1) (z18 nb nf ws ks 8 3 sd)else none:=by unfold dA;rw[qr h,qr A,qq G]
  rw[qx G];exact bD (zra (σ:=[Y<|.ref x,Y<|.str<|pk ws 0,Z8]) (j:=0) Z' l z.f1 w rfl rfl (λH' Q M q=>JX z.g2 z.f2 M rfl q)<|k (a2:=Z8) e ZK {_,_,w})
 rw[qy G];refine aY<|x4 (i:=1) (a:=pk ws 0) (b:="claim") rfl f λH5 F=>?_;have N:=w.same F;have R:=ZK.trans<|Fr.of_same (x:=x) (sl:=sl) F;by_cases L:pk ws 0="claim"
 .have e:dA nb nf ws ks sd=if gC nb ws 1=J then inT3 "claim" (pk ws 1) (z1p nb nf ws ks 8 3 sd)else none:=by unfold dA;rw[qr h,qr A,qr G,qq L]
  rw[qx L];exact bD (zra (σ:=[Y<|.ref x,Y<|.str<|pk ws 0,Z8]) (j:=0) Z' l z.f1 N rfl rfl (λH' Q M q=>JX z.g2 z.f3 M rfl q)<|k (a2:=Z8) e R {_,_,N})
 rw[qy L];exact aY (rA S N rfl R<|ex (by unfold dA;rw[qr h,qr A,qr G,qr L]))
end
def lF (ks:List<|U×U)(nm:U):D:=match lkG ks nm with|some s=>.str s|none=>.none
theorem JY:∀{ks:List<|U×U},(iA (Aj ks)<|.str nm).isSome=cJ ks nm
 | []=>rfl
 |y::ks=>by
  have a:=JY (nm:=nm) (ks:=ks);unfold iA Aj at a ⊢;unfold cJ lkG at a ⊢;rw[bu,dt,dt];rw[Tq];by_cases h:y.1=nm
  .rw[qx h];rfl
  .rw[qy h];exact a
def Ej {a:List U}:bU ks (.tuple [.str nm,.tuple<|a.map .str]::r)=if((a.map ZX).any λy=>bX y<|lF ks nm)=J then bU ks r else Y nm:=by rw[bU];rfl
def four (h:l.length=4):∃a b c d,l=[a,b,c,d]:=by rcases l with _|⟨a,_|⟨b,_|⟨c,_|⟨d,_|⟨e,l⟩⟩⟩⟩⟩<;>first|exact⟨_,_,_,_,rfl⟩|(simp at h;done)|(simp at h;omega)
def kL (mg:U->Option Value)(x sl:Addr)(ks:List<|U×U)(nm:U)(sd:List D)(H:Hp)(Q:Hp->Prop)(E:XK):Prop:=
 if cJ ks nm=J then jJ mg "Twice" "name" (.str nm) x sl H E else match bU ks sd with
  |some u=>jJ mg "Unknown" "name" (.str u) x sl H E
  |none=>∀H',Same H H'->Q H'
def spCg (K:Z5)(CR:Addr)(mg:U->Option Value):Sp:=λvs H Q E=>∃x dx wl kd sl n ws ks p sd nm,vs=[.ref x,.str nm]/\Rg K CR H^^^p sd/\ZY nm=J/\kL mg x sl ks nm sd H (λH'=>Q .non H') E
section
variable {Z:Wc}{H H0:Hp}{σ:L2.St}{CR x dx wl kd sl:Addr}{n:Int}{ws:List U}{ks:List<|U×U}{p:Nat}{sd:List D}{nb:U->Bool}{nf:U->Option Int}
theorem JZ {C:Addr}(g:Rg Z.K CR H1^^^p sd)(ex:jJ Z.mg c fl y x sl H Z.E)(k:Fr x sl H H1)(a:Z.mg c=Y (.ref C))(hd:H1 dp=Z8):Z.E (.ref C) (Y dp) (upd H1 dp<|.xd [(fl,y)]):=(g.hP ex k) C _ dp a hd bH (Fr.of_same<|Same.upd hd)
def TL (R:RowK Z.K CR)(g:Rg Z.K CR H^^^p sd)(S:ZY nm=J)(q:kL Z.mg x sl ks nm sd H (λu=>∀f,D0.nx f u) Z.E):wS Z Rd.fY D0 [Y<|.ref x,Y<|.str nm,Z8,Z8] H:=by
 have rd:Rep Z.K H aQ (.ref kd) (.dict<|Aj ks):={kd,_,rfl,g.kk,trivial,JK g.nJ};refine{.str nm,rfl,nI R g.rw rfl ZP rfl<|Te (B:=aQ) (dx:=.str nm) {rfl,(S)} rd rfl λk T=>{_,rfl,?_}};rw[JY];have L:=g.same T;have f1:Fr x sl H k:=Fr.of_same T;unfold kL at q;cases hh:cJ ks nm with
 |true=>rw[qq hh]at q;exact bD λC ZL=>{.str nm,rfl,λdp hd=>JZ L q f1 ZL hd}
 |false=>
  rw[qr (by rw[hh];decide)]at q;refine aY ?_;have go:∀Q,Q (.ref sl) k->wE Z Rd.SD [Y<|.ref x,Y<|.str nm,Z8,Z8] k Q:=λQ q=>nI R L.rw rfl ZP rfl q;show jX (vX Z.K<|wE Z Rd.SD) _ _ _ _ k;unfold jX vX;refine go _ ?_;let{A,h1,h2}:=L.sq;refine{sl,rfl,{A,.inl<|.inl h1},λi m f u=>m=sd.length-i/\i<=sd.length/\(∃M N O,f=[Y<|.ref x,M,N,O])/\Same k u/\bU ks (sd.drop i)=bU ks sd,{_,rfl,c9 _,{_,_,_,rfl},Same.refl _,rfl},?_}
  rintro i m f u ⟨rfl,hi,⟨M,N,O,rfl⟩,z,hu⟩
  have g2:=L.same z;have s:SqL Z.K u sl A:=.inl<|.inl<|z _ _ h1;by_cases d:¬(i<sd.length)
  .have W:i=sd.length:=by omega
   subst W;rw[jk]at hu;rw[<-hu]at q;exact .inl {{A,s,o7 h2.length},q u (T.trans z) _}
  have d:=qv d;have D:=et d;let{un,c,X}:=g.wf _<|jj d;let{v,hv,rv}:=Reps.get (h2.same z<|λ_ h=>h)<|bn d;rw[X]at rv D;rw[D,Ej]at hu;refine .inr {{(A),v,s,hv},λF l=>(∃M N O,F=[Y<|.ref x,M,N,O])/\Same k l/\bU ks (sd.drop<|i+1)=bU ks sd,λF l ⟨w1,w2,w3⟩=>{sd.length-(i+1),by omega,rfl,d,w1,w2,w3},λy l ZM=>?_};let{rfl,ZM}:=ZM;cases hv.symm.trans (ZM A s);refine{bq 4 Z8,F0 l,(.od,.tuple [.str un,.tuple<|c.map ZX]),[Z8,Z8,Y (.al,.str un),Y (.al,.tuple<|c.map ZX)],lD rfl<|λj g d' e=>?_,rv.old,?_,λsR F3 I ZK=>?_}
  .rw[cu]at e;split at e<;>ext e
  .have e:gJ (.tuple<|c.map ZX) .od=.fr:=qq<|Ef c;show Res.ok [Z8,Z8,Y<|mZ (G.fr,.str un),Y<|mZ (gJ (.tuple<|c.map ZX) G.od,.tuple<|c.map ZX)]=_;rw[e];rfl
  let{v2,hv2,r2}:=I.sl 2 .al (.str un) rfl;let{P,Ek,r3}:=I.sl 3 .al (.tuple<|c.map ZX) rfl;let{rfl,W'}:=r2;let{b0,b1,b2,b3,rfl}:=four ZK.len;cases(ZK.rest 0 ZP);ext hv2;ext Ek;show wE Z Rd.KD [Y<|.ref x,b1,Y<|.str un,Y P] l λx' k=>∃a,x'=.ref a/\IsD k a/\(wE Z<|.raw 2) [Y<|.ref x,b1,Y<|.str un,Y P] k λy l=>∃o,DGet l a y o/\(wE Z<|.raw 3) [Y<|.ref x,b1,Y<|.str un,Y P] l λb' H3=>nD Z.K (mB<|cmpD .NotIn) (o.getD .non) b' H3 _;refine nI R g2.rw rfl ZP rfl {kd,rfl,.inl {_,.inl g2.kk},.str un,rfl,_,.inl {_,.inr un,.inl g2.kk,rfl,rfl},P,rfl,?_};rw[JR]
  have rl:Rep Z.K l aQ (((lkG ks un).map V.str).getD .non) (lF ks un):=by
   unfold lF;cases e:lkG ks un with
   |none=>exact rfl
   |some t=>exact{rfl,JS g.nJ e}
  have sh:cO 40 (lF ks un)=true:=by unfold lF;cases lkG ks un<;>rfl
  refine{aQ,_,lF ks un,.tuple<|c.map ZX,.bool<|!((c.map ZX).any λy=>bX y<|lF ks un),rl,r3,?_,λw H3 s3 TM=>?_}
  .show((inD (lF ks un) (.tuple<|c.map ZX)>>=λb=>Res.ok<|!b)>>=λb=>Res.ok<|ZS b)=_;have:inD (lF ks un) (.tuple<|c.map ZX)=.ok ((c.map ZX).any λy=>bX y<|lF ks un):=by show(if(cO 40 (lF ks un)&&jP 40 (c.map ZX))=J then _ else _)=_;rw[sh,Eh];rfl
   rw[this];rfl
  ext TM;refine{_,rfl,?_};cases r:(c.map ZX).any λy=>bX y (lF ks un)with
  |true=>rw[qq r]at hu;exact aY {{_,_,_,rfl},z.trans s3,hu}
  |false=>rw[qr (by rw[r];decide)]at hu;rw[<-hu]at q;exact bD λC ZL=>{.str un,rfl,λdp hd=>JZ (g2.same s3) q ((f1.trans<|Fr.of_same z).trans<|Fr.of_same s3) ZL hd}
end
inductive Rx where
 |ok (act:List D)|row (k:Nat)|tw (s:U)|un (s:U)
def iL (nb:U->Bool)(nf:U->Option Int):Nat->List D->List (U×U)->List U->Rx
 |_,act,_,[]=>.ok act
 |k,act,ks,r::rs=>if k=24 then .row k else match rdRw nb nf (spW 32 r) ks []with
  |none=>.row k
  |some (d,_,sd)=>if cJ ks (pk (spW 32 r) 1)=J then .tw (pk (spW 32 r) 1)else match bU ks sd with
   |some u=>.un u
   |none=>iL nb nf (k+1) (act++[d]) (ks++[(pk (spW 32 r) 1,pk (spW 32 r) 0)]) rs
def kM (nb:U->Bool)(nf:U->Option Int):D->Rx
 |.str t=>iL nb nf 0 [] [] (spW 10 t)
 |_=>.row 0
def uh (K:Z5)(mg:U->Option Value)(H:Hp)(Q:VK)(E:XK):Rx->Prop
 |.ok act=>∀H' l,Same H H'->Rep K H' (nw H) (.ref l) (.list act)->Q (.ref l) H'
 |.row k=>mJ mg "NoRow" "row" (.int k) H E
 |.tw s=>mJ mg "Twice" "name" (.str s) H E
 |.un s=>mJ mg "Unknown" "name" (.str s) H E
theorem J1:∀d,(aX c d).length<=d.length+1
 | []=>ag _
 |a::r=>by
  have b:=J1 (c:=c) r;unfold aX;split
  .exact ee b
  .cases e:aX c r with
   |nil=>exact ee (c9 _)
   |cons h t=>rw[e]at b;exact p4 b
def TQ:(spW c t).length<=t.length+1:=by
 unfold spW;rw[am];have:=J1 (c:=c) t[[]];have e:t[[]].length=t.length:=by rw[dv];rfl
 omega
def TR (h:rdRw nb nf ws ks sd=Y (d,p,s)):∃r,d=.tuple (.str (pk ws 0)::.str (pk ws 1)::r):=by
 have c:∀{a b:U} {o:Ro} {d:D} {p:Nat} {s:List D},inT3 a b o=Y (d,p,s)->∃r,d=.tuple (.str a::.str b::r):=by
  intro a b o d p s h;cases o with
  |none=>ext h
  |some z=>let{f,g,s'}:=z;ext h;exact{_,rfl}
 have key:∀{d:D} {p:Nat} {s:List D},dA nb nf ws ks sd=Y (d,p,s)->∃r,d=.tuple (.str (pk ws 0)::.str (pk ws 1)::r):=by
  intro d p s h;unfold dA at h;split at h
  .rename_i e;split at h
   .cases h;rw[e];exact{_,rfl}
   .cases h
  split at h
  .rename_i e;rw[e];unfold iK at h;split at h
   .cases h
   split at h
   .split at h
    .split at h
     .cases h
     .split at h
      .split at h
       .cases h
       .cases h;exact{_,rfl}
      .cases h
    .cases h
   .cases h
  split at h
  .rename_i e;rw[e];split at h
   .exact c h
   .cases h
  split at h
  .rename_i e;rw[e];split at h
   .exact c h
   .cases h
  .cases h
 unfold rdRw at h;split at h
 .cases h
 .rename_i e;split at h
  .cases h
  .cases h;exact key e
def TU (h:cJ a nm=Z6):putK (iI a) (.inr nm) (V.str kd)=iI (a++[(nm,kd)]):=by
 unfold putK;rw[qr]
 .unfold iI;rw[cr];rfl
 .intro z;let{d,b,e}:=j9.mp z;let{y,c,rfl}:=ci.mp b;unfold cJ lkG at h;rw[jz]at h;have:(a.find? λy=>decide (y.1=nm)).isSome=true:=List.find?_isSome.mpr {y,c,qx<|Sum.inr.inj<|qw e};rw[this]at h;ext h
def spAg (K:Z5)(mg:U->Option Value)(nb:U->Bool)(nf:U->Option Int):Sp:=λvs H Q E=>∃v d B,vs=[v]/\Rep K H B v d/\nb ""=Z6/\(∀t,d=.str t->okS t/\t.length<LIM/\(spW 10 t).length<=1000)/\uh K mg H Q E (kM nb nf d)
section
variable {Z:Wc}{H:Hp}{σ:L2.St}{CR:Addr}{nb:U->Bool}{nf:U->Option Int}
theorem El (ex:mJ Z.mg c fl y H Z.E)(s:Same H H1)(a:H x=Z8)(hs:H sl=Z8):jJ Z.mg c fl y x sl H1 Z.E:=λC H' dp d f hd k=>ex C H' dp d (s.none f) hd λb o e=>k b o (by rintro rfl;rw[a]at e;ext e) (by rintro rfl;rw[hs]at e;ext e) (s b o e)
def Em (hi:σ[6]?=Y (Y v))(d:Rep Z.K H aQ v<|.tuple (.str a::.str b::r))(e:iC (.tuple (.str a::.str b::r)) (.int j)=.ok (.str c))(q:∀H',Same H H'->Q (.str c) H'):wE Z (.ix (.raw 6)<|.bA<|.int j) σ H Q:=by refine{v,hi,_,F0 H,_,gU,rfl,λw H1 s1 f=>?_};ext f;refine{aQ,aQ,.tuple (.str a::.str b::r),.int j,.str c,d.same s1<|λ_ h=>h,rfl,e,λw rw=>?_};let{rfl,_}:=rw;exact q H1 s1
def En:iC (.tuple (.str a::.str b::r)) (.int (0:Nat))=.ok (.str a):=by
 show Res.gF (cN (.str a::.str b::r) 0)=_;have:cN (.str a::.str b::r:List D) 0=Y (.str a):=by unfold cN kT;rw[qq ZP,qq<|by grind];rfl
 rw[this];rfl
def ya:iC (.tuple (.str a::.str b::r)) (.int (1:Nat))=.ok (.str b):=by
 show Res.gF (cN (.str a::.str b::r) 1)=_;have:cN (.str a::.str b::r:List D) 1=Y (.str b):=by unfold cN kT;rw[qq ZP,qq<|by grind];rfl
 rw[this];rfl
def zqs {D1:Ends}{ap kd:Addr}{k:Nat}{r:U}{a0 a5 a6:Option V}{vs:List V}{ks:List<|U×U}(g0:Z.gi[0]?=Y 24)(c0:Z.cl[0]?=Y (CR,spRI Z.K CR))(f0:Z.fn[0]?=Y (spRg Z.K CR Z.mg nb nf))(f1:Z.fn[1]?=Y (spCg Z.K CR Z.mg))
  (ha:H ap=Y (.lst vs)) (hk:H kd=Y (.dK<|iI ks)) (nJ:∀y∈ks,ZY y.1=J/\ZY y.2=J) (TV:okS r) (TX:r.length<LIM) (n0:nb ""=Z6) (hv:vs.length<1000) (Xa:ks.length<1000)
  (q:if k=24 then mJ Z.mg "NoRow" "row" (.int k) H Z.E else match rdRw nb nf (spW 32 r) ks []with
   |none=>mJ Z.mg "NoRow" "row" (.int k) H Z.E
   |some (d,_,sd)=>if cJ ks (pk (spW 32 r) 1)=J then mJ Z.mg "Twice" "name" (.str<|pk (spW 32 r) 1) H Z.E else match bU ks sd with
    |some u=>mJ Z.mg "Unknown" "name" (.str u) H Z.E
    |none=>∀b5 b6 H' v,(∀b o,b≠ap->b≠kd->H b=Y o->H' b=Y o)->H' ap=Y (.lst<|vs++[v])->H' kd=Y (.dK<|iI<|ks++[(pk (spW 32 r) 1,pk (spW 32 r) 0)])->Rep Z.K H' aQ v d->imm d=J->(ZY (pk (spW 32 r) 1)=J/\ZY (pk (spW 32 r) 0)=J)->D1.nx [a0,Y<|.ref ap,Y<|.ref kd,Y<|.int k,Y<|.str r,b5,b6] H'):
  wS Z Rd.readBody D1 [a0,Y<|.ref ap,Y<|.ref kd,Y<|.int k,Y<|.str r,a5,a6] H:=by
 refine{.int k,rfl,?_};have eg:wE Z (.gi 0)=λ_ H Q=>Q (.int 24) H:=by show(match Z.gi[0]? with|some n=>(λ_ H Q=>Q (.int n) H:TE)|none=>eU)=_;rw[g0]
 rw[eg];refine{aQ,aQ,.int k,.int 24,.bool (decide ((k:Int)=24)),rfl,rfl,?_,λw H1 s1 r1=>?_}
 .show(Res.ok (bX (.int k)<|.int 24)>>=λb=>Res.ok<|ZS b)=_;rw[Ai];rfl
 ext r1;refine{_,rfl,?_};by_cases yb:k=24
 .rw[qq yb]at q;rw[qx ZQ];refine bD λC hC=>{.int k,rfl,λdp hd=>JJ q s1 hC hd}
 rw[qr yb]at q;rw[qy ZQ];refine aY ?_;show wE Z (.mk 0 _) _ _ _;rw[Ts c0];refine{.int k,rfl,.str r,rfl,.ref kd,rfl,λx dx hx J2 ne=>{x,dx,kd,k,r,rfl,bH,TV,λH2 wl sl k2 Eo Iz Ah Ag=>{rfl,?_}}};have Am:H x=none:=s1.none hx
 have s2:Same H H2:=λb o e=>by
  have e1:=s1 b o e;have nx:b≠x:=by rintro rfl;rw[hx]at e1;ext e1
  have nd:b≠dx:=by rintro rfl;rw[J2]at e1;ext e1
  exact k2 b o nx (by rw[aK nx,aK nd];exact e1)
 have rB:H sl=none:=by
  cases e:H sl with
  |none=>rfl
  |some o=>
   have e1:=s1 sl o e;have nx:sl≠x:=by rintro rfl;rw[hx]at e1;ext e1
   have nd:sl≠dx:=by rintro rfl;rw[J2]at e1;ext e1
   rw[aK nx,aK nd,e1]at Ah;ext Ah
 have g2:Rg Z.K CR H2 x dx wl kd sl k (spW 32 r) ks 0 []:={Eo,s2 _ _ hk,nJ,{[],Iz,rfl},rfl,(λ_ h=>by ext h),Ag,ag _,bj TQ TX};show wE Z (.cI 0<|.cons (.raw 5) .nil) [a0,Y<|.ref ap,Y<|.ref kd,Y<|.int k,Y<|.str r,Y<|.ref x,a6] H2 _;rw[mI f0];refine{.ref x,rfl,x,dx,wl,kd,sl,k,_,ks,[],rfl,g2,n0,?_};cases hr:rdRw nb nf (spW 32 r) ks []with
 |none=>rw[hr]at q;exact El q s2 Am rB
 |some z=>
  let{d,p',sd}:=z;rw[hr]at q;let{rest,hd}:=TR hr;have J3:=(eE (p:=1) Eo.eR).1;have TY:=(eE (p:=0) Eo.eR).1;intro H3 v f3 g3 rv im;have s3:Same H H3:=λb o e=>f3 b o (by rintro rfl;rw[Am]at e;ext e) (by rintro rfl;rw[rB]at e;ext e)<|s2 b o e;have tZ:Rep Z.K H3 aQ v (.tuple (.str (pk (spW 32 r) 0)::.str (pk (spW 32 r) 1)::rest)):=by rw[<-hd];exact rv
  show wE Z (.cI 1<|.cons (.raw 5)<|.cons (.ix (.raw 6)<|.bA<|.int (1:Nat)) .nil) [a0,Y<|.ref ap,Y<|.ref kd,Y<|.int k,Y<|.str r,Y<|.ref x,Y v] H3 _;rw[mI f1];refine{.ref x,rfl,Em rfl tZ ya λH4 s4=>?_};have g4:=g3.same s4;refine{x,dx,wl,kd,sl,k,_,ks,p',sd,_,rfl,g4,J3,?_};unfold kL
  have q:if cJ ks (pk (spW 32 r) 1)=J then mJ Z.mg "Twice" "name" (.str<|pk (spW 32 r) 1) H Z.E else match bU ks sd with
   |some u=>mJ Z.mg "Unknown" "name" (.str u) H Z.E
   |none=>∀b5 b6 H' v,(∀b o,b≠ap->b≠kd->H b=Y o->H' b=Y o)->H' ap=Y (.lst<|vs++[v])->H' kd=Y (.dK<|iI<|ks++[(pk (spW 32 r) 1,pk (spW 32 r) 0)])->Rep Z.K H' aQ v d->imm d=J->(ZY (pk (spW 32 r) 1)=J/\ZY (pk (spW 32 r) 0)=J)->D1.nx [a0,Y<|.ref ap,Y<|.ref kd,Y<|.int k,Y<|.str r,b5,b6] H':=q
  by_cases hm:cJ ks (pk (spW 32 r) 1)=J
  .rw[qq hm]at q ⊢;exact El q (s3.trans s4) Am rB
  rw[qr hm]at q ⊢;have TZ:cJ ks (pk (spW 32 r) 1)=false:=by cases e:cJ ks (pk (spW 32 r) 1)<;>first|rfl|exact absurd e hm
  cases hu:bU ks sd with
  |some u=>rw[hu]at q;exact El q (s3.trans s4) Am rB
  |none=>
   rw[hu]at q;intro H5 s5;have An:=s4.trans s5;refine Em rfl (tZ.same An λ_ h=>h) En λH6 s6=>{.ref kd,rfl,Em rfl (tZ.same (An.trans s6) λ_ h=>h) ya λH7 s7=>.inl {kd,_,rfl,.inl {iI ks,.inr<|pk (spW 32 r) 1,?_,rfl,?_,rfl},?_}}
   .exact(s3.trans<|An.trans<|s6.trans s7) _ _ hk
   .have :(iI ks).length=ks.length:=by unfold iI;rw[am]
    rw[this,cf];omega
   .have J4:Same H3 H7:=An.trans<|s6.trans s7;have Ao:Same H H7:=s3.trans J4;have J5:ap≠kd:=by rintro rfl;rw[ha]at hk;ext hk
    have T1:=rv.same J4 λ_ h=>h;have J6:upd H7 kd (.dK<|putK (iI ks) (.inr<|pk (spW 32 r) 1)<|.str<|pk (spW 32 r) 0) ap=Y (.lst vs):=by rw[aK J5];exact Ao _ _ ha
    refine{.ref ap,rfl,.inl {rfl,_,.inl<|.inl J6},v,rfl,ap,vs,v,rfl,rfl,J6,by rw[cf];omega,?_};refine q _ _ _ v (λb o h1 h2 e=>?_) bH ?_ ?_ im {(J3),TY}
    .rw[aK h1,aK h2];exact Ao b o e
    .rw[aK<|Ne.symm J5,bH,TU TZ]
    .refine Rep.cC (λa o e fx=>?_) _ im T1;rw[aK (by rintro rfl;rw[Ao _ _ ha]at e;ext e;exact fx.elim),aK (by rintro rfl;rw[Ao _ _ hk]at e;ext e;exact fx.elim)];exact e
end
section
variable {Z:Wc}{H:Hp}{σ:L2.St}{CR:Addr}{nb:U->Bool}{nf:U->Option Int}
theorem Ap:∀{a b:List D},imms a=J->imms b=J->imms (a++b)=J
 | [],_,_,c=>c
 |y::a,b,d,c=>by let{e,f}:=aD d;show(imm y&&imms (a++b))=J;rw[e,Ap f c];rfl
def T2 (h:Ab d=Z6):kM nb nf d=.row 0:=by ext d<;>first|(ext h;done)|rfl
def zrf (g0:Z.gi[0]?=Y 24)(c0:Z.cl[0]?=Y (CR,spRI Z.K CR))(f0:Z.fn[0]?=Y (spRg Z.K CR Z.mg nb nf))(f1:Z.fn[1]?=Y (spCg Z.K CR Z.mg))
  (rv:Rep Z.K H B v d) (n0:nb ""=Z6) (hd:∀t,d=.str t->okS t/\t.length<LIM/\(spW 10 t).length<=1000) (q:uh Z.K Z.mg H D0.rt Z.E<|kM nb nf d):wS Z Rd.readAct D0 [Y v,Z8,Z8,Z8,Z8,Z8,Z8] H:=by
 refine{[Y (.od,d),Z8,Z8,Z8,Z8,Z8,Z8],F0 H,Ab d,lD rfl λi g d' e=>?_,?_,λH1 s1=>?_}
 .rcases i with _|_|_|_|_|_|_|i<;>ext e;exact⟨rfl,v,B,rfl,rv⟩
 .show(aJ Z.Κ Z.Φ (.eI (.var 0) ["str"]) _>>=λx=>hF x.2)=_;rw[Tf rfl];rfl
 cases hs:Ab d with
 |false=>rw[T2 hs]at q;refine bD λC hC=>{_,F0 H1,_,gU,rfl,λw H2 s2 r2 dp hd=>?_};ext r2;exact JJ q (s1.trans s2) hC hd
 |true=>
  refine aY ?_;obtain⟨t,rfl⟩:∃t,d=.str t:=by ext d<;>first|(ext hs;done)|exact⟨_,rfl⟩
  let{okt,Ep,hlen}:=hd t rfl;let{rfl,_}:=rv;have q:uh Z.K Z.mg H D0.rt Z.E (iL nb nf 0 [] []<|spW 10 t):=q;refine{c9 _,λap pM=>?_};intro kd yc;have J7:kd≠ap:=by rintro rfl;rw[bH]at yc;ext yc
  generalize Er:upd (upd H1 ap<|.lst []) kd (.dK [])=H2;have s2:Same H1 H2:=Er▸(Same.upd pM).trans (Same.upd yc);have Es:H2 ap=Y (.lst []):=by rw[<-Er,aK<|Ne.symm J7,bH]
  have Et:H2 kd=Y (.dK<|iI []):=by rw[<-Er,bH];rfl
  have yd:=s1.none pM
  let F1:Fm:={λ_=>Z8,λa=>a≠ap/\a≠kd,λ_=>Z8,True}
  have zG:StOk Z.K F1 H2 [Y<|.str t,Y<|.ref ap,Y<|.ref kd,Z8,Z8,Z8,Z8] [Y (.od,.str t),Z8,Z8,Z8,Z8,Z8,Z8]:=by refine{nofun,(λa e=>{(by rintro rfl;rw[Es]at e;ext e),(by rintro rfl;rw[Et]at e;ext e)}),nofun,rfl,λi g d' e=>?_};rcases i with _|_|_|_|_|_|_|i<;>ext e;exact⟨_,rfl,rfl,okt.1⟩
  refine{_,F1,_,zG,Tv okt hlen rfl,λZK B' H3 s3 hB wk=>?_}
  have kp:∀{H4:Hp},(∀b o,b≠ap->b≠kd->H3 b=Y o->H4 b=Y o)->Kp B' H3 H4:=λ{H4} k b o e z=>k b o (by
   rintro rfl
   rcases z with z|z
   .exact((hB _ z).1).1 rfl
   .rw[s3 _ _ Es]at e;ext e;exact z) (by
   rintro rfl
   rcases z with z|z
   .exact((hB _ z).1).2 rfl
   .rw[s3 _ _ Et]at e;ext e;exact z) e
  let rows:=spW 10 t
  have J8:(z1e 0<|rows.map ZX).length=rows.length:=by rw[JI,am]
  let W:Nat->Nat->L2.St->Hp->Prop:=λi m bM H'=>m=rows.length-i/\i<=rows.length/\(∃a0 a3 a4 a5 a6,bM=[a0,Y<|.ref ap,Y<|.ref kd,a3,a4,a5,a6])/\(∀b o,b≠ap->b≠kd->H3 b=Y o->H' b=Y o)/\∃vs act ks,H' ap=Y (.lst vs)/\H' kd=Y (.dK<|iI ks)/\Reps Z.K H' aQ vs act/\imms act=J/\(∀y∈ks,ZY y.1=J/\ZY y.2=J)/\act.length=i/\ks.length=i/\iL nb nf i act ks (rows.drop i)=iL nb nf 0 [] [] rows
  refine{W,{_,rfl,c9 _,{_,_,_,_,_,rfl},λ_ _ _ _ e=>e,[],[],[],s3 _ _ Es,s3 _ _ Et,rfl,rfl,nofun,rfl,rfl,rfl},?_}
  rintro i m bM H' ⟨rfl,C4,⟨a0,a3,a4,a5,a6,rfl⟩,hk,vs,act,ks,Eu,Ew,rep,Ex,nJ,T3,T4,hR⟩
  have sH:Same H H':=λb o e=>hk b o (by rintro rfl;rw[yd]at e;ext e) (by rintro rfl;rw[s1.none (by rw[aK J7]at yc;exact yc)]at e;ext e)<|s3 b o<|s2 b o<|s1 b o e;have Xb:=Reps.length rep;by_cases vo:i<rows.length
  .have ye:i<(z1e 0<|rows.map ZX).length:=J8▸vo;refine .inr {wk.go H' (kp hk) i ye,W (i+1)<|rows.length-(i+1),λGr H4 w=>{_,by omega,w},λy H4 hy=>?_};let{s4,e,he,ry}:=wk.lK H' (kp hk) i y H4 ye hy;rw[JH,bv,bn vo]at he;ext he;rw[et vo]at hR
   have ry:Rep Z.K H4 B' y (.tuple [.int i,.str rows[i]]):=by
    have e0:((0+i:Nat):Int)=i:=by rw[Nat.zero_add]
    rw[e0]at ry;exact ry
   refine{bq 7 Z8,F0 H4,(.od,.tuple [.int i,.str rows[i]]),[Z8,Z8,Z8,Y (.al,.int i),Y (.al,.str rows[i]),Z8,Z8],lD rfl<|λj g d' e=>?_,ry.old,rfl,λsR F3 J9 Ey=>?_}
   .rw[cu]at e;split at e<;>ext e
   let{v3,Ek,r3}:=J9.sl 3 .al (.int i) rfl;let{v4,T5,r4}:=J9.sl 4 .al (.str rows[i]) rfl;ext r3;let{rfl,vp}:=r4;let{b0,b1,b2,b3,b4,b5,b6,rfl}:=Tu Ey.len;cases(Ey.rest 1 ZP);cases(Ey.rest 2 ZP);ext Ek;ext T5;have yf:=jj vo;have Xc:=bx vo hlen;have J':=sH.trans s4;refine zqs g0 c0 f0 f1 (s4 _ _ Eu) (s4 _ _ Ew) nJ {vp,bj (Ee _ yf) okt.2} (lj (Ee _ yf) Ep) n0 ZQ ZQ ?_
   have hR:(if i=24 then Rx.row i else match rdRw nb nf (spW 32 rows[i]) ks []with
    |none=>.row i
    |some (d,_,sd)=>if cJ ks (pk (spW 32 rows[i]) 1)=J then .tw (pk (spW 32 rows[i]) 1)else match bU ks sd with
     |some u=>.un u
     |none=>iL nb nf (i+1) (act++[d]) (ks++[(pk (spW 32 rows[i]) 1,pk (spW 32 rows[i]) 0)])<|rows.drop<|i+1)=iL nb nf 0 [] [] rows:=hR
   have up:∀{c fl:U} {y:V},mJ Z.mg c fl y H Z.E->mJ Z.mg c fl y H4 Z.E:=λ{c fl y} ex C H' dp hC h1 hd s=>ex C H' dp hC (J'.none h1) hd<|J'.trans s;by_cases yb:i=24
   .rw[qq yb]at hR ⊢;rw[<-hR]at q;exact up q
   rw[qr yb]at hR ⊢;cases hr:rdRw nb nf (spW 32 rows[i]) ks []with
   |none=>rw[hr]at hR;rw[<-hR]at q;exact up q
   |some z=>
    let{d,p',sd}:=z;rw[hr]at hR
    have hR:(if cJ ks (pk (spW 32 rows[i]) 1)=J then Rx.tw (pk (spW 32 rows[i]) 1)else match bU ks sd with
     |some u=>.un u
     |none=>iL nb nf (i+1) (act++[d]) (ks++[(pk (spW 32 rows[i]) 1,pk (spW 32 rows[i]) 0)])<|rows.drop<|i+1)=iL nb nf 0 [] [] rows:=hR
    show if cJ ks (pk (spW 32 rows[i]) 1)=J then _ else _
    by_cases hm:cJ ks (pk (spW 32 rows[i]) 1)=J
    .rw[qq hm]at hR ⊢;rw[<-hR]at q;exact up q
    rw[qr hm]at hR ⊢;cases hu:bU ks sd with
    |some u=>rw[hu]at hR;rw[<-hR]at q;exact up q
    |none=>
     rw[hu]at hR;intro c5 c6 H5 vv k5 T6 T7 T8 im oS;refine{rfl,vo,{_,_,_,_,_,rfl},λb o h1 h2 e=>k5 b o h1 h2<|s4 b o<|hk b o h1 h2 e,vs++[vv],act++[d],ks++[(pk (spW 32 rows[i]) 1,pk (spW 32 rows[i]) 0)],T6,T7,?_,Ap Ex (by show(imm d&&J)=J;rw[im];rfl),?_,by rw[ax,T3];rfl,by rw[ax,T4];rfl,hR}
     .refine Reps.append (Reps.cC (λa o e f=>?_) _ Ex rep) {_,_,rfl,T8,rfl};exact k5 a o (by rintro rfl;rw[Eu]at e;ext e;exact f) (by rintro rfl;rw[Ew]at e;ext e;exact f) (s4 a o e)
     .intro y hy;rcases bg.mp hy with hy|hy
      .exact nJ y hy
      .rw[ai.mp hy];exact oS
  .have C5:i=rows.length:=by omega
   subst C5;refine .inl {?_,?_}
   .have :=wk.stop H'<|kp hk;rw[J8]at this;exact this
   .rw[jk]at hR;rw[<-hR]at q;exact{.ref ap,rfl,q H' ap sH {ap,vs,rfl,.inl {(Eu),yd},Reps.cC (λ_ _ e _=>e) _ Ex rep}}
end
section
variable {Z:Wc}{H:Hp}{nb:U->Bool}
theorem Ka {K:Z5}:∀{bs:List Bool} {vs:List V},Reps K H B vs (bs.map ZS)->vs=bs.map V.bl
 | [],vs,r=>r
 |b::bs,vs,r=>by let{v,t,rfl,rfl,r}:=r;rw[Ka r];rfl
theorem Ez (s:Same H a)(h:H dp=Z8):Same H (kH a dp):=λb o e=>by rw[rh (by rintro rfl;rw[h]at e;ext e)];exact s b o e
end
namespace Rd
def kN (b1 b2 b3:Bool)(tl:WS):WS:=.seq (.asg 2<|.bA<|.lst<|.cons (.hD Z6 "NoPack")<|.cons (.hD Z6 "NoSide")<|.cons (.hD Z6 "NoReason")<|.cons (.hD Z6 "TooMuch") .nil)
 (.seq (.asg 2<|.bA<|.bin .Add (.var 2)<|.lst<|.cons (.hD Z6 "NoCourt")<|.cons (.hD Z6 "Late")<|.cons (.hD Z6 "NotAllowed") .nil)
 (.seq (.asg 2<|.bA<|.bin .Add (.var 2)<|.lst<|.cons (.hD Z6 "NoRuling")<|.cons (.hD Z6 "NotYours")<|.cons (.not<|.hD J "ValueError") .nil)
 (.seq (.asg 3<|.bA<|.lst<|.cons (.hD b1 "NoRow")<|.cons (.hD b2 "Twice")<|.cons (.hD b3 "Unknown") .nil)
 (.seq (.bW (.z4 (.tp<|.tv<|.cmp .In (.bl J)<|.var 2)<|.tc .NotEq (.cnt (.raw 3)<|.bA<|.bl J)<|.bA<|.int 1) (.seq (.ud .bad) .nil) .nil) tl))))
def oT:WS:=kN J Z6 Z6 (.seq (.bW (.tp<|.tv<|.ix (.var 3)<|.int 0) (.seq (.ret<|.tup<|.cons (.bA<|.str "row")<|.cons (.gE "row") .nil) .nil) .nil)<|.seq (.ud .bad) .nil)
def iM (b2 b3:Bool):WS:=kN Z6 b2 b3 (.seq (.bW (.tp<|.tv<|.ix (.var 3)<|.int 0) (.seq (.ud .bad) .nil) .nil)<|.seq (.ret<|.tup<|.cons (.bA<|.ix (.lst<|.cons (.str "twice")<|.cons (.str "unknown") .nil)<|.bi "int"<|.cons (.ix (.var 3)<|.int 2) .nil)<|.cons (.gE "name") .nil) .nil)
def toldg:WS:=.seq (.vj (.seq (.ret<|.cI 0<|.cons (.raw 0) .nil) .nil) (.hn "NoRow" (Y "row") oT<|.hn "Twice" (Y "name") (iM J Z6)<|.hn "Unknown" (Y "name") (iM Z6 J) .nil) 1 4) .nil
end Rd
def vq:Rx->D
 |.ok act=>.list act
 |.row k=>.tuple [.str "row",.int k]
 |.tw s=>.tuple [.str "twice",.str s]
 |.un s=>.tuple [.str "unknown",.str s]
def ui (nb:U->Bool)(d:D):Prop:=nb ""=Z6/\∀t,d=.str t->okS t/\t.length<LIM/\(spW 10 t).length<=1000
def spTg (K:Z5)(nb:U->Bool)(nf:U->Option Int):Sp:=λvs H Q _=>∃v d B,vs=[v]/\Rep K H B v d/\ui nb d/\(∀s,kM nb nf d=.tw s\/kM nb nf d=.un s->ZY s=J)/\∀H' w,Same H H'->Rep K H' (nw H) w (vq<|kM nb nf d)->Q w H'
section
variable {Z:Wc}{H:Hp}{nb:U->Bool}{nf:U->Option Int}
def z8r (C:[c,f,h].countP (· ==J)=1)
  (q:∀m n k l2 b,Same H m->n=.ref l2->k=.ref b->Rep Z.K m aQ k (.list [.bool c,.bool f,.bool h])->wS Z E F [Z8,Z8,Y n,Y k] m):
  wS Z (Rd.kN c f h E) F [Z8,Z8,Z8,Z8] H:=by
 refine{[Z8,Z8,Z8,Z8],F0 H,(.fr,.list [.bool Z6,.bool Z6,.bool Z6,.bool Z6]),gU,rfl,λv1 G I ZK=>?_};have st:∀{H:Hp} {v:V} {d:D} {B:Ad->Prop},Rep Z.K H B v d->StOk Z.K (F0 H) H [Z8,Z8,Y v,Z8] [Z8,Z8,Y (.od,d),Z8]:=λ{H v d B} r=>lD rfl λi g L e=>by rcases i with _|_|_|_|i<;>ext e;exact⟨rfl,v,B,rfl,r⟩
 refine{_,F0 G,(.fr,.list [.bool Z6,.bool Z6,.bool Z6,.bool Z6,.bool Z6,.bool Z6,.bool Z6]),st ZK,rfl,λn M N O=>?_};refine{_,F0 M,(.fr,.list [.bool Z6,.bool Z6,.bool Z6,.bool Z6,.bool Z6,.bool Z6,.bool Z6,.bool Z6,.bool Z6,.bool Z6]),st O,rfl,λk w P o=>?_};refine{_,F0 w,(.fr,.list [.bool c,.bool f,.bool h]),st o,rfl,λv4 p x y=>?_};let{l2,Q,rfl,_,_}:=id o;let{b,s,rfl,t,a}:=id y;have a:Reps Z.K p (nw w) s ([c,f,h].map ZS):=a;obtain rfl:=Ka a
 have l:p b=Y (.lst<|[c,f,h].map V.bl):=by
  rcases t with⟨l,_⟩|⟨_,z⟩
  .exact l
  .exact z.elim
 refine{[Z8,Z8,Y (.od,.list [.bool Z6,.bool Z6,.bool Z6,.bool Z6,.bool Z6,.bool Z6,.bool Z6,.bool Z6,.bool Z6,.bool Z6]),Z8],F0 p,Z6,lD rfl<|λi g L e=>?_,rfl,λR u=>?_}
 .rcases i with _|_|_|_|i<;>ext e;exact⟨rfl,_,_,rfl,(o.same x λ_ z=>z)⟩
 refine aY<|{.ref b,rfl,.inl {rfl,_,.inl<|.inl<|u _ _ l},_,F0 R,_,gU,rfl,λv6 S A T=>?_};ext T;refine{b,rfl,.inr {_,J,rfl,A _ _<|u _ _ l,?_}};rw[C];refine{_,F0 S,_,gU,rfl,λv7 H7 ZL W=>?_};ext W;refine{aQ,aQ,.int 1,.int 1,.bool Z6,rfl,rfl,rfl,λv8 X ZM r8=>?_};ext r8;refine{_,rfl,aY ?_};have j:=((u.trans A).trans ZL).trans ZM;exact q X _ _ l2 b ((((I.trans N).trans P).trans x).trans j) rfl rfl ((y.same j λ_ z=>z).weak λ_ _=>trivial)
def T9 (h:Z.xf=Y y)(j:∀H B,Rep Z.K H B y d)(q:∀a w,Same H a->(∀B,Rep Z.K a B w<|.tuple [.str "row",d])->k.rt w a):wS Z Rd.oT k [Z8,Z8,Z8,Z8] H:=by
 refine z8r ZP λb r s l2 u l A C c=>{[Z8,Z8,Z8,Y (.od,.list [.bool J,.bool Z6,.bool Z6])],F0 b,J,lD rfl<|λi g D e=>?_,rfl,λm n=>?_}
 .rcases i with _|_|_|_|i<;>ext e;exact⟨rfl,_,_,rfl,c⟩
 refine bD {_,F0 m,_,gU,rfl,λw E o c=>?_};let{rfl,eR}:=c;have ex:wE Z (.gE "row")=λ_ H Q=>Q y H:=by show(match Z.xf with|some v=>(λ_ H Q=>Q v H:TE)|none=>eU)=_;rw[h]
 have go:∀(f:L2.St) (H:Hp) (Q:List V->Hp->Prop),Q [y] H->wA Z (.cons (.gE "row") .nil) f H Q:=λf H Q z=>by show wE Z (.gE "row") f H λx b=>Q [x] b;rw[ex];exact z
 refine go _ _ _ {(show 2<=aw by rw[cf];decide),λt p=>?_};refine q _ (.ref t) (((l.trans n).trans o).trans<|Same.upd p) λB=>{t,_,rfl,.inl<|.inl bH,{_,_,rfl,{rfl,(eR)},_,_,rfl,j _ _,rfl}}
def T' (j:Z.xf=Y y)(k:∀H B,Rep Z.K H B y d)(q:∀a w,Same H a->(∀B,Rep Z.K a B w<|.tuple [.str "twice",d])->l.rt w a):wS Z (Rd.iM J Z6) l [Z8,Z8,Z8,Z8] H:=by
 refine z8r ZP λb m n l2 A o C D c=>?_;have so:∀{a:Hp},Same b a->StOk Z.K (F0 a) a [Z8,Z8,Y m,Y n] [Z8,Z8,Z8,Y (.od,.list [.bool Z6,.bool J,.bool Z6])]:=λ{a} s=>lD rfl λi g E e=>by rcases i with _|_|_|_|i<;>ext e;exact⟨rfl,_,_,rfl,c.same s λ_ z=>z⟩
 refine{_,F0 b,Z6,so<|Same.refl _,rfl,λp h=>?_};refine aY {_,F0 p,(.fr,.str "twice"),so h,rfl,λw F r c=>?_};let{rfl,eR}:=c;have ex:wE Z (.gE "name")=λ_ H Q=>Q y H:=by show(match Z.xf with|some v=>(λ_ H Q=>Q v H:TE)|none=>eU)=_;rw[j]
 have go:∀(f:L2.St) (H:Hp) (Q:List V->Hp->Prop),Q [y] H->wA Z (.cons (.gE "name") .nil) f H Q:=λf H Q z=>by show wE Z (.gE "name") f H λx b=>Q [x] b;rw[ex];exact z
 refine go _ _ _ {(show 2<=aw by rw[cf];decide),λt u=>?_};refine q _ (.ref t) (((o.trans h).trans r).trans<|Same.upd u) λB=>{t,_,rfl,.inl<|.inl bH,{_,_,rfl,{rfl,(eR)},_,_,rfl,k _ _,rfl}}
def Ua (j:Z.xf=Y y)(k:∀H B,Rep Z.K H B y d)(q:∀a w,Same H a->(∀B,Rep Z.K a B w<|.tuple [.str "unknown",d])->l.rt w a):wS Z (Rd.iM Z6 J) l [Z8,Z8,Z8,Z8] H:=by
 refine z8r ZP λb m n l2 A o C D c=>?_;have so:∀{a:Hp},Same b a->StOk Z.K (F0 a) a [Z8,Z8,Y m,Y n] [Z8,Z8,Z8,Y (.od,.list [.bool Z6,.bool Z6,.bool J])]:=λ{a} s=>lD rfl λi g E e=>by rcases i with _|_|_|_|i<;>ext e;exact⟨rfl,_,_,rfl,c.same s λ_ z=>z⟩
 refine{_,F0 b,Z6,so<|Same.refl _,rfl,λp h=>?_};refine aY {_,F0 p,(.fr,.str "unknown"),so h,rfl,λw F r c=>?_};let{rfl,eR}:=c;have ex:wE Z (.gE "name")=λ_ H Q=>Q y H:=by show(match Z.xf with|some v=>(λ_ H Q=>Q v H:TE)|none=>eU)=_;rw[j]
 have go:∀(f:L2.St) (H:Hp) (Q:List V->Hp->Prop),Q [y] H->wA Z (.cons (.gE "name") .nil) f H Q:=λf H Q z=>by show wE Z (.gE "name") f H λx b=>Q [x] b;rw[ex];exact z
 refine go _ _ _ {(show 2<=aw by rw[cf];decide),λt u=>?_};refine q _ (.ref t) (((o.trans h).trans r).trans<|Same.upd u) λB=>{t,_,rfl,.inl<|.inl bH,{_,_,rfl,{rfl,(eR)},_,_,rfl,k _ _,rfl}}
def Ub (f0:Z.fn[0]?=Y (spAg Z.K Z.mg nb nf))(i:Rep Z.K H B v d)(g:ui nb d)(h:∀s,kM nb nf d=.tw s\/kM nb nf d=.un s->ZY s=J)(q:∀H' w,Same H H'->Rep Z.K H' (nw H) w (vq<|kM nb nf d)->j.rt w H'):wS Z Rd.toldg j [Y v,Z8,Z8,Z8] H:=by
 show wE _ (.cI 0 _) _ _ _;rw[mI<|by exact f0];refine{v,rfl,v,d,B,rfl,i,g.1,g.2,?_};cases a:kM nb nf d with
 |ok ns=>rw[a]at q;exact λH' l s r=>q H' _ s r
 |row k=>rw[a]at q;intro C H' dp b h0 hd s;refine .inl {C,b,rfl,dp,.int k,rfl,hd,?_};exact T9 (d:=.int k) rfl (λ_ _=>rfl) λc w e f=>q c w ((Ez s h0).trans e) (f _)
 |tw z=>rw[a]at q;intro C H' dp b h0 hd s;refine .inr<|.inl {C,b,rfl,dp,.str z,rfl,hd,?_};exact T' (d:=.str z) rfl (λ_ _=>{rfl,h z<|.inl a}) λc w e f=>q c w ((Ez s h0).trans e) (f _)
 |un z=>rw[a]at q;intro C H' dp b h0 hd s;refine .inr<|.inr<|.inl {C,b,rfl,dp,.str z,rfl,hd,?_};exact Ua (d:=.str z) rfl (λ_ _=>{rfl,h z<|.inr a}) λc w e f=>q c w ((Ez s h0).trans e) (f _)
end
structure oU where
 c:U
 f:List U
 ms:List (U×Stmt)
def sD (K:Z5)(C:Addr)(c:U)(m:U×Stmt):Option (d6×Bool):=match Z4 K (.ref C) m.1 with
 |some (Y<|.ref p)=>(match K.lookup p with
  |some ⟨_,_,.func fd,_⟩=>Y (fd,W.codeIn K fd.code (c++"."++m.1)&&Z2 K (.ref p)&&W.isFn K (.ref p))
  |_=>Z8)
 |_=>Z8
def Kb (c:U)(m:U×Stmt)(x:d6×Bool):d6×Bool:=(W.fnOf m.1 (c++"."++m.1) (z1d m.2) (z0m m.2) (z0c m.2) .none x.1.kwdefaults x.1.doc x.1.pyModule x.1.annotations x.1.code x.1.closureTuple,J)
def Aq (K:Z5)(r:oU):Option (List Bool×Option (Option Value)×List (Option<|Option Value)×List Bool×List (Option<|d6×Bool)):=match Z0 K bh r.c with
 |some (Y<|.ref C)=>Y ([W.plainGet K C Str.empty,W.hasDictIn K C,W.plainOver K C,W.makesIn K C,Z2 K<|.ref C],Z4 K (.ref C) "__setattr__",r.f.map<|λf=>Z4 K (.ref C) f,r.ms.map<|λm=>(sD K C r.c m).isSome,r.ms.map λm=>sD K C r.c m)
 |_=>Z8
def Kc (K:Z5)(r:oU):Option (List Bool×Option (Option Value)×List (Option<|Option Value)×List Bool×List (Option<|d6×Bool)):=match Z0 K bh r.c with
 |some (Y<|.ref C)=>Y ([J,J,J,J,J],Y<|Y<|.builtin "object.__setattr__",r.f.map<|λ_=>Y Z8,r.ms.map<|λ_=>J,r.ms.map λm=>(sD K C r.c m).map<|Kb r.c m)
 |_=>Z8
def KCq (K:en->Z5)(r:oU):Prop:=∀P,((Aq (K P) r).isSome,Aq (K P) r)=(J,Kc (K P) r)
theorem KCq_r:KCq=KCq:=rfl
structure ClsAt (K:Z5)(r:oU)(C:Addr):Prop where
 ns:Z0 K bh r.c=Y (Y<|.ref C)
 cls:Cls K C
 na:∀f∈r.f,z3l K C f
 Uc:W.makesIn K C=J
 kp:Z2 K (.ref C)=J
 ms:∀m∈r.ms,∃f fd,Fun K m.1 (r.c++"."++m.1) m.2 f fd/\Meth K C m.1 f
def Ud {K:Z5}{C:Addr}(h:(sD K C c m).isSome=J)(e:sD K C c m=(sD K C c m).map (Kb c m)):∃f fd,Fun K m.1 (c++"."++m.1) m.2 f fd/\Meth K C m.1 f:=by
 cases z:sD K C c m with
 |none=>rw[z]at h;ext h
 |some x=>
  rw[z]at e;have e:=qt e;unfold sD at z;split at z
  .rename_i f g;split at z
   .rename_i oc od fd sl i;have z:=qt z;have j:=congrArg py z;have b:=congrArg ql z;rw[congrArg ql e]at b;let{a,k}:=av.mp b;let{a,d}:=av.mp a;subst j;exact{f,x.1,{{oc,od,x.1.kwdefaults,x.1.doc,x.1.pyModule,x.1.annotations,x.1.code,x.1.closureTuple,sl,congrArg py e,i,a},d},g,k,d}
   .cases z
  .cases z
def Ue {K:en->Z5}(h:KCq K r)(P:en):∃C,ClsAt (K P) r C:=by
 let{a,b}:=qu<|h P;unfold Aq Kc at b;unfold Aq at a;split at b
 .rename_i C c;let{a1,a2}:=qu<|qt b;let{a2,a3}:=qu a2;let{a3,a4}:=qu a3;let{a4,d}:=qu a4;let{e,a1}:=List.cons.inj a1;let{g,a1}:=List.cons.inj a1;let{i,a1}:=List.cons.inj a1;let{j,a1}:=List.cons.inj a1;let{k,_}:=List.cons.inj a1;exact{C,c,{(e),g,i,a2},λf hf=>de.mp a3 f hf,j,k,λm hm=>Ud (de.mp a4 m hm)<|de.mp d m hm}
 .rename_i hn;split at a
  .rename_i C c;simp_all
  .cases a
end Mi
name_quick tkcq for Mi.KCq by Mi.KCq_r
namespace Mi
open PySem PySem.Spec PyProof.Rows L2
structure jK where
 c:U
 fl:U
 B:U
 cs:List (U×Bool)
 st:Stmt
abbrev XD:=List Bool×List (Option<|Option Value)×List (Option Bool)×List (Option<|Bool×Option Value×Option Bool)×d6
def Ke (K:Z5)(A:Addr)(y:U×Bool):Option (Bool×Option Value×Option Bool):=match Z0 K bh y.1 with
 |some (Y<|.ref E)=>Y ((W.clsIn K E).isSome,W.typeIn K<|.ref E,ZZ K (.ref A)<|.ref E)
 |_=>Z8
def sE (K:Z5)(r:jK):Option XD:=match Z0 K bh r.c,Z0 K bh r.B with
 |some (Y<|.ref A),Y (Y<|.ref D)=>(match K.lookup A with
  |some ⟨.type "type",_,.cls cd,_⟩=>(match Z0 K cd.ns "__init__"with
   |some (Y<|.ref f)=>(match K.lookup f with
    |some ⟨_,_,.func fd,_⟩=>Y ([gI K A,cd.hasDict,W.isFn K<|.ref f,W.codeIn K fd.code<|r.c++"."++"__init__",gI K D,(W.clsIn K A).isSome,Z2 K<|.ref f],
     [Z4 K (.ref A) "__setattr__",Z4 K (.ref A) r.fl,Z4 K (.ref A) "__getattribute__",Z4 K (.ref A) "__getattr__",Z4 K (.ref A) "__class__"],
     [ZZ K (.ref A)<|.type "object",ZZ K (.ref A)<|.type "BaseException",ZZ K (.ref A)<|.type "ValueError",ZZ K (.ref A)<|.ref D],r.cs.map<|Ke K A,fd)
    |_=>Z8)
   |_=>Z8)
  |_=>Z8)
 |_,_=>Z8
def Kg (r:jK)(x:XD):XD:=([J,J,J,J,J,J,J],[Y<|Y<|.builtin "object.__setattr__",Y Z8,Y<|Y<|.builtin "BaseException.__getattribute__",Y Z8,Y<|Y<|.builtin "object.__class__"],[Y J,Y J,Y J,Y J],r.cs.map<|λy=>Y (J,Y<|.type "type",Y y.2),W.fnOf "__init__" (r.c++"."++"__init__") (z1d r.st) (z0m r.st) (z0c r.st) .none x.2.2.2.2.kwdefaults x.2.2.2.2.doc x.2.2.2.2.pyModule x.2.2.2.2.annotations x.2.2.2.2.code x.2.2.2.2.closureTuple)
def Kh (K:Z5)(g:U×Int):Option Int:=match Z0 K bh g.1 with
 |some (Y<|.int n _)=>Y n
 |_=>Z8
def KXq (K:en->Z5)(rs:List jK)(gs:List<|U×Int):Prop:=∀P,(rs.map<|λr=>(sE (K P) r).isSome,rs.map<|λr=>sE (K P) r,gs.map<|Kh<|K P)=(rs.map<|λ_=>J,rs.map<|λr=>(sE (K P) r).map<|Kg r,gs.map λg=>Y g.2)
theorem KXq_r:KXq=KXq:=rfl
structure XAt (K:Z5)(r:jK)(A D f:Addr)(fd:d6):Prop where
 ns:Z0 K bh r.c=Y (Y<|.ref A)
 nb:Z0 K bh r.B=Y (Y<|.ref D)
 xf:XF K A r.fl
 xa:XA K A
 xi:XI K A f
 fu:Fun K "__init__" (r.c++"."++"__init__") r.st f fd
 ed:gI K D=J
 sd:ZZ K (.ref A) (.ref D)=Y J
 sv:ZZ K (.ref A) (.type "ValueError")=Y J
 cs:∀y∈r.cs,∃E,Z0 K bh y.1=Y (Y<|.ref E)/\(W.clsIn K E).isSome=J/\W.typeIn K (.ref E)=Y (.type "type")/\ZZ K (.ref A) (.ref E)=Y y.2
def Ug {K:Z5}(h:(sE K r).isSome=J)(e:sE K r=(sE K r).map (Kg r)):∃A D f fd,XAt K r A D f fd:=by
 cases z:sE K r with
 |none=>rw[z]at h;ext h
 |some x=>
  rw[z]at e;have e:=qt e;unfold sE at z;split at z
  .rename_i A D p s;split at z
   .rename_i R cd sl d;split at z
    .rename_i f hf;split at z
     .rename_i oc od fd g i;have z:=qt z;rw[<-z]at e;let{a,e}:=qu e;let{b,e}:=qu e;let{c,e}:=qu e;let{t,u}:=qu e;let{m,a}:=List.cons.inj a;let{v,a}:=List.cons.inj a;let{w,a}:=List.cons.inj a;let{B,a}:=List.cons.inj a;let{C,a}:=List.cons.inj a;let{F,a}:=List.cons.inj a;let{G,_}:=List.cons.inj a;let{H,b}:=List.cons.inj b;let{I,b}:=List.cons.inj b;let{n,b}:=List.cons.inj b;let{o,b}:=List.cons.inj b;let{ZK,_}:=List.cons.inj b;let{d1,c}:=List.cons.inj c;let{d2,c}:=List.cons.inj c;let{L,c}:=List.cons.inj c;let{d4,_}:=List.cons.inj c;refine{A,D,f,fd,p,s,{m,λj k l q=>by rw[d]at q;ext q;exact v,H,I,n,o,d1,d2},{ZK,n,o,d1,d2,?_,F,m},{λj k l q=>by rw[d]at q;ext q;exact hf,w},{{oc,od,fd.kwdefaults,fd.doc,fd.pyModule,fd.annotations,fd.code,fd.closureTuple,(g),u,i,B},G},C,d4,L,λy M=>?_}
      .show(K.lookup A).map (·.cls)=_;rw[d];rfl
      .have q:=de.mp t y M;unfold Ke at q;split at q
       .rename_i E N;let{O,q}:=qu<|qt q;let{P,Q}:=qu q;exact{(E),N,O,P,Q}
       .cases q
     .cases z
    .cases z
   .cases z
  .cases z
def Ki {K:en->Z5}(h:KXq K rs b)(P:en):(∀r∈rs,∃A D f fd,XAt (K P) r A D f fd)/\∀g∈b,∃t,Z0 (K P) bh g.1=Y (Y<|.int g.2 t):=by
 let{c,a}:=qu<|h P;let{a,d}:=qu a;refine{λr hr=>Ug (de.mp c r hr)<|de.mp a r hr,λg i=>?_};have q:=de.mp d g i;unfold Kh at q;split at q
 .rename_i n t e;ext q;exact{(t),e}
 .cases q
end Mi
name_quick tkxq for Mi.KXq by Mi.KXq_r
namespace Mk
open PySem Mi
end Mk
namespace Mi
open PySem
abbrev C.v (i:Nat):C:=.var i
abbrev C.i (n:Int):C:=.int n
abbrev C.s (x:U):C:=.str x
abbrev C.cG:List C->C
 | []=>.nil
 |a::r=>.cons a (C.cG r)
abbrev C.tU (l:List C):C:=.tup (.cG l)
abbrev C.lS (l:List C):C:=.lst (.cG l)
abbrev C.cA (k:Nat)(f:U)(l:List C):C:=.call k f (.cG l)
abbrev C.bI (f:String)(l:List C):C:=.bi f (.cG l)
abbrev C.eQ (a b:C):C:=.tv (.cmp .Eq a b)
abbrev C.pL (a b:C):C:=.bin .Add a b
abbrev C.mD (a b:C):C:=.bin .Mod a b
abbrev C.fD (a b:C):C:=.bin .FloorDiv a b
abbrev C.xI (i:Nat)(n:Int):C:=.ix (.var i) (.int n)
abbrev S.cG:List S->S
 | []=>.nil
 |a::r=>.seq a (S.cG r)
abbrev S.aS (i:Nat)(e:C):S:=.asg (.nm i) e
abbrev S.iF (c:C)(a b:List S):S:=.bW c (.cG a) (.cG b)
abbrev S.fO (t:Tg)(c:C)(a:List S):S:=.cV t c (.cG a)
abbrev S.wH (n:Nat)(c:C)(a:List S):S:=.wh n c (.cG a)
abbrev S.aP (i:Nat)(e:C):S:=.mut "append" i (.cons e .nil)
end Mi
namespace Mk
open PySem Mi
def yg:S:=.cG [.ret<|.and (.eI (.v 0) ["str"])<|.and (.chain .LtE .LtE (.i 1) (.bI "len" [.v 0])<|.i 12)<|.and (.pI "all"<|.tv<|.comp 1 [] ["sign"] (.nm 0) (.tv<|.v 0) .nil<|.chain .LtE .LtE (.s "a") (.v 0)<|.s "z")<|.cmp .NotIn (.v 0)<|.glob 0 "NO_NAMES"]
def F_z0:Fn:=aZ [(.tuple [(.str "and"),(.str "or"),(.str "not"),(.str "if"),(.str "is"),(.str "some"),(.str "all"),(.str "for"),(.str "against")])] [] 1 yg
def yh:S:=.cG [.iF (.not<|.tv<|.chain .LtE .LtE (.i 1) (.bI "len" [.v 0])<|.i 31) [.ret .non] [],
 .iF (.not<|.tv<|.pI "all"<|.tv<|.comp 1 [] ["sign"] (.nm 0) (.tv<|.v 0) .nil<|.chain .LtE .LtE (.s "0") (.v 0)<|.s "9") [.ret .non] [],
 .iF (.and (.eQ (.xI 0 0)<|.s "0")<|.tv<|.cmp .Gt (.bI "len" [.v 0])<|.i 1) [.ret .non] [],
 .ret (.bI "int" [.v 0])]
def yi:Fn:=aZ [] [] 1 yh
def yj:S:=.cG [.ret<|.mD (.bin .Mult (.pL (.pL (.mD (.v 0)<|.bin .Pow (.i 10)<|.i 15)<|.bin .Mult (.bin .Mult (.i 104729)<|.v 1)<|.v 1)<|.i 11)<|.i 48271)<|.i 2147483647]
def rC:Fn:=aZ [] [] 2 yj
def yk:S:=.cG [.iF (.tv<|.cmp .In (.v 0)<|.lS [.s "and",.s "or",.s "not",.s "if",.s "is",.s "some",.s "all",.s "for",.s "against"]) [.ret<|.pL (.v 0)<|.s "x"] [],.ret<|.v 0]
def rD:Fn:=aZ [] [] 1 yk
def uj:S:=.cG [.aS 1<|.s "bcdefghjklmnpqrstuvwxyz",
 .aS 2 (.cA 1 "_law_mixed" [.v 0,.i 0]),
 .aS 3 (.mD (.v 2)<|.i 11),
 .aS 4 (.mt "join" (.s "")<|.cG [.comp 1 [1,2] ["_law_k","_law_letters","_law_number"] (.nm 0) (.gM<|.cG [.v 3]) .nil<|.ix (.v 1)<|.mD (.pL (.fD (.v 2)<|.i 11)<|.bin .Mult (.bin .Mult (.i 5)<|.v 0)<|.v 0)<|.i 23]),
 .aS 5 (.mD (.fD (.v 2)<|.i 253)<|.pL (.v 3)<|.i 1),
 .aS 6 (.comp 1 [1,2] ["_law_k","_law_letters","_law_number"] (.nm 0) (.gM<|.cG [.i 23]) .nil<|.ix (.v 1)<|.mD (.pL (.fD (.v 2)<|.i 7)<|.bin .Mult (.i 3)<|.v 0)<|.i 23),
 .iF (.eQ (.mD (.v 0)<|.i 2)<|.i 1) [.aS 1<|.s "abcdefghijklmnopqrstuvwxyz",
 .aS 2 (.fD (.v 0)<|.i 2),
 .aS 3 (.mD (.v 2)<|.i 11),
 .aS 5 (.mD (.fD (.v 2)<|.i 11)<|.pL (.v 3)<|.i 1),
 .aS 6 (.comp 1 [1,2] ["_law_k","_law_letters","_law_number"] (.nm 0) (.gM<|.cG [.i 23]) .nil<|.ix (.v 1)<|.mD (.pL (.fD (.v 2)<|.i 132)<|.bin .Mult (.i 3)<|.v 0)<|.i 26),
 .aS 2 (.fD (.v 2)<|.i 3432),
 .aS 4 (.s ""),
 .fO (.nm 7) (.gM<|.cG [.v 3]) [.aS 4<|.pL (.v 4)<|.ix (.v 1)<|.mD (.v 2)<|.i 26,
 .aS 2 (.fD (.v 2)<|.i 26)]] [],
 .aS 8 (.comp 1 [4,5] ["_law_sign","_law_stem","_law_at"] (.nm 0) (.tv<|.v 6) .nil<|.cA 0 "_law_good_name" [.pL (.pL (.sl (.v 1) .nil<|.tv<|.v 2)<|.v 0)<|.sl (.v 1) (.tv<|.v 2) .nil]),
 .ret (.pL (.v 8)<|.comp 1 [] ["_law_name"] (.nm 0) (.tv<|.sl (.v 8) .nil<|.tv<|.i 4) .nil<|.pL (.v 0)<|.s "x")]
def oV:Fn:=aZ [] [rD,rC] 9 uj
def uk:S:=.cG [.aS 2<|.lS [],
 .aS 3 (.fD (.v 0)<|.i 2),
 .fO (.nm 4) (.gM<|.cG [.v 1]) [.aS 5<|.mD (.bin .Mult (.pL (.pL (.mD (.v 0)<|.i 1000000007)<|.bin .Mult (.bin .Mult (.i 7919)<|.v 4)<|.v 4)<|.i 104729)<|.i 48271)<|.i 2147483629,
 .aS 5 (.mD (.bin .Mult (.v 5)<|.v 5)<|.i 2147483587),
 .aS 6 (.fD (.bin .Mult (.bin .Mult (.bin .Mult (.v 5)<|.pL (.v 5)<|.i 1)<|.i 69621)<|.pL (.pL (.v 5)<|.v 4)<|.i 2)<|.i 97),
 .aP 2 (.mD (.ix (.lS [.v 6,.v 3])<|.mD (.v 0)<|.i 2)<|.bin .Pow (.i 10)<|.i 34),
 .aS 3 (.fD (.v 3)<|.bin .Pow (.i 10)<|.i 34)],
 .ret (.v 2)]
def oW:Fn:=aZ [] [] 7 uk
def rE:S:=.cG [.aS 2<|.mD (.v 0)<|.i 10,
 .aS 3 (.fD (.v 0)<|.i 10),
 .iF (.tv<|.cmp .Lt (.v 2)<|.i 3) [.ret<|.tU [.s "is",.ix (.v 1)<|.mD (.v 3)<|.i 6]] [],
 .iF (.tv<|.cmp .Lt (.v 2)<|.i 6) [.aS 4<|.lS [.i 1,.pL (.i 2)<|.mD (.fD (.v 3)<|.i 12)<|.i 5,.bin .Pow (.i 10)<|.i 30,.pL (.mD (.fD (.v 3)<|.i 12)<|.bin .Pow (.i 10)<|.i 30)<|.i 1],
 .ret (.tU [.s "at",.ix (.v 1)<|.mD (.v 3)<|.i 3,.bI "str" [.ix (.v 4)<|.mD (.fD (.v 3)<|.i 3)<|.i 4]])] [],
 .iF (.eQ (.v 2)<|.i 6) [.ret<|.tU [.s "at",.ix (.v 1)<|.mD (.v 3)<|.i 9,.bI "str" [.pL (.i 1)<|.mD (.fD (.v 3)<|.i 9)<|.i 3]]] [],
 .iF (.eQ (.v 2)<|.i 7) [.ret<|.tU [.s "is",.ix (.v 1)<|.mD (.v 3)<|.i 10]] [],
 .ret (.tU [.s "is",.ix (.v 1)<|.mD (.v 3)<|.i 3])]
def mK:Fn:=aZ [] [] 5 rE
def um:S:=.cG [.aS 2<|.lS [],
 .fO (.nm 3) (.tv<|.v 0) [.iF (.and (.tv<|.cmp .Gt (.bI "len" [.v 2])<|.i 1)<|.tv<|.cmp .Lt (.mD (.v 3)<|.i 5)<|.i 2) [.pop 4 2,
 .pap 2 (.ix (.lS [.s "and",.s "or"])<|.mD (.fD (.v 3)<|.i 5)<|.i 2) (.cons (.v 4) .nil)] [.iF (.and (.tv<|.cmp .Gt (.bI "len" [.v 2])<|.i 0)<|.eQ (.mD (.v 3)<|.i 5)<|.i 2) [.pap 2 (.s "not") .nil] [.aP 2<|.cA 0 "_law_leaf" [.fD (.v 3)<|.i 5,.v 1]]]],
 .wH 100000 (.tv<|.cmp .Gt (.bI "len" [.v 2])<|.i 1) [.pop 4 2,
 .pap 2 (.ix (.lS [.s "or",.s "and"])<|.mD (.bI "len" [.v 2])<|.i 2) (.cons (.v 4) .nil)],
 .ret (.xI 2 0)]
def iN:Fn:=aZ [] [mK] 5 um
def ym:S:=.cG [.iF (.eQ (.xI 0 0)<|.s "at") [.ret<|.pL (.pL (.xI 0 1)<|.s " >= ")<|.xI 0 2] [],
 .iF (.eQ (.xI 0 0)<|.s "is") [.ret<|.xI 0 1] [],
 .iF (.eQ (.bI "len" [.v 0])<|.i 2) [.ret<|.pL (.pL (.xI 0 0)<|.s " ")<|.cA 0 "_law_text" [.xI 0 1]] [],
 .ret (.pL (.pL (.pL (.pL (.pL (.pL (.s "( ")<|.cA 0 "_law_text" [.xI 0 1])<|.s " ")<|.xI 0 0)<|.s " ")<|.cA 0 "_law_text" [.xI 0 2])<|.s " )")]
def yn:S:=(.seq .bad<|.seq .bad<|.seq .bad<|.seq .bad .nil)
def iO:Nat->Fn
 |0=>aZ [] [] 1 yn
 |k+1=>aZ [] [iO k] 1 ym
def Kj:S:=.cG [.aS 1<|.comp 1 [] ["_law_name"] (.nm 0) (.tv<|.sl (.v 0) .nil<|.tv<|.i 3) .nil<|.pL (.s "fact ")<|.v 0,
 .aP 1 (.pL (.pL (.pL (.pL (.pL (.s "open ")<|.xI 0 3)<|.s " for ")<|.xI 0 0)<|.s " against ")<|.xI 0 1),
 .aP 1 (.pL (.pL (.pL (.s "word ")<|.xI 0 4)<|.s " if ")<|.xI 0 3),
 .aP 1 (.pL (.pL (.pL (.s "open ")<|.xI 0 5)<|.s " for against ")<|.xI 0 4),
 .ret (.pL (.v 1)<|.lS [.pL (.pL (.pL (.s "claim ")<|.xI 0 6)<|.s " if some ")<|.xI 0 2])]
def yo:Fn:=aZ [] [] 2 Kj
def Kk:S:=.cG [.aS 1<|.pL (.comp 1 [] ["_law_name"] (.nm 0) (.tv<|.sl (.v 0) .nil<|.tv<|.i 3) .nil<|.tU [.s "fact",.v 0])<|.lS [.tU [.s "open",.xI 0 3,.tU [.xI 0 0],.tU [.xI 0 1]]],
 .aS 1 (.pL (.v 1)<|.lS [.tU [.s "word",.xI 0 4,.tU [.s "is",.xI 0 3]],.tU [.s "open",.xI 0 5,.tU [],.tU [.xI 0 4]]]),
 .ret (.pL (.v 1)<|.lS [.tU [.s "claim",.xI 0 6,.tU [.s "some",.tU [.s "at",.xI 0 2,.i 1]]]])]
def yp:Fn:=aZ [] [] 2 Kk
def Kl:S:=.cG [.iF (.tv<|.eI (.v 1) ["str"]) [.ret<|.and (.eI (.v 0) ["str"])<|.cmp .Eq (.v 0)<|.v 1] [],
 .iF (.tv<|.eI (.v 1) ["int"]) [.ret<|.and (.eI (.v 0) ["int"])<|.and (.not<|.eI (.v 0) ["bool"])<|.cmp .Eq (.v 0)<|.v 1] [],
 .iF (.or (.tv<|.cmp .NotEq (.eI (.v 1) ["tuple"])<|.eI (.v 0) ["tuple"])<|.tv<|.cmp .NotEq (.eI (.v 1) ["list"])<|.eI (.v 0) ["list"]) [.ret<|.bl Z6] [],
 .iF (.tv<|.cmp .NotEq (.bI "len" [.v 0])<|.bI "len" [.v 1]) [.ret<|.bl Z6] [],
 .fO (.tp [2,3]) (.zip (.v 0)<|.v 1) [.iF (.not<|.tv<|.cA 0 "_law_alike" [.v 2,.v 3]) [.ret<|.bl Z6] []],
 .ret (.bl J)]
def Km:S:=(.seq .bad<|.seq .bad<|.seq .bad<|.seq .bad<|.seq .bad<|.seq .bad .nil)
def gX:Nat->Fn
 |0=>aZ [] [] 4 Km
 |k+1=>aZ [] [gX k] 4 Kl
def EA:S:=.cG [.aS 3<|.lS [],
 .fO (.nm 4) (.gM<|.cG [.v 2]) [.aS 5<|.ix (.v 0)<|.bin .Mult (.i 7)<|.v 4,
 .iF (.and (.tv<|.cmp .Gt (.bI "len" [.v 3])<|.i 1)<|.tv<|.cmp .Lt (.mD (.v 5)<|.i 5)<|.i 2) [.pop 6 3,
 .pap 3 (.ix (.lS [.s "and",.s "or"])<|.mD (.fD (.v 5)<|.i 5)<|.i 2) (.cons (.v 6) .nil)] [.iF (.and (.tv<|.cmp .Gt (.bI "len" [.v 3])<|.i 0)<|.eQ (.mD (.v 5)<|.i 5)<|.i 2) [.pap 3 (.s "not") .nil] [.aS 7<|.cA 0 "_law_tree" [.sl (.v 0) (.tv<|.pL (.bin .Mult (.i 7)<|.v 4)<|.i 1)<|.tv<|.pL (.pL (.bin .Mult (.i 7)<|.v 4)<|.i 2)<|.mD (.fD (.v 5)<|.i 10)<|.i 6,.v 1],
 .aP 3 (.tU [.ix (.lS [.s "some",.s "all"])<|.mD (.fD (.v 5)<|.i 5)<|.i 2,.v 7])]]],
 .wH 100000 (.tv<|.cmp .Gt (.bI "len" [.v 3])<|.i 1) [.pop 6 3,
 .pap 3 (.ix (.lS [.s "or",.s "and"])<|.mD (.bI "len" [.v 3])<|.i 2) (.cons (.v 6) .nil)],
 .ret (.xI 3 0)]
def yq:Fn:=aZ [] [iN] 8 EA
def EB:S:=.cG [.aS 2<|.lS [.s "(",.s ")",.s "and",.s "or",.s "not",.s "some",.s "all",.s ">=",.s "if",.s "is",.s "for",.s "",.s "1",.s "0",.s "07",.s "3",.s "(a",.s "a)"],
 .aS 2 (.pL (.v 2)<|.lS [.s "=",.s ">",.s "not",.s "(",.s ")",.s "and",.uQ<|.xI 1 0]),
 .aS 2 (.pL (.v 2)<|.lS [.xI 1 0,.xI 1 3,.xI 1 4,.xI 1 6,.xI 1 8]),
 .ret (.ix (.v 2)<|.mD (.v 0)<|.i 30)]
def uo:Fn:=aZ [] [] 3 EB
def Ar:S:=.cG [.aS 3<|.mD (.v 1)<|.i 6,
 .aS 4 (.fD (.v 1)<|.i 6),
 .aS 5 (.mD (.fD (.v 4)<|.i 30)<|.bI "len" [.v 0]),
 .iF (.eQ (.v 3)<|.i 0) [.ret<|.pL (.sl (.v 0) .nil<|.tv<|.v 5)<|.sl (.v 0) (.tv<|.pL (.v 5)<|.i 1) .nil] [],
 .iF (.eQ (.v 3)<|.i 1) [.ret<|.pL (.sl (.v 0) .nil<|.tv<|.pL (.v 5)<|.i 1)<|.sl (.v 0) (.tv<|.v 5) .nil] [],
 .iF (.eQ (.v 3)<|.i 2) [.ret<|.pL (.pL (.sl (.v 0) .nil<|.tv<|.v 5)<|.lS [.cA 0 "_law_word" [.v 4,.v 2]])<|.sl (.v 0) (.tv<|.pL (.v 5)<|.i 1) .nil] [],
 .iF (.eQ (.v 3)<|.i 3) [.ret<|.pL (.pL (.sl (.v 0) .nil<|.tv<|.v 5)<|.lS [.cA 0 "_law_word" [.v 4,.v 2]])<|.sl (.v 0) (.tv<|.v 5) .nil] [],
 .iF (.eQ (.v 3)<|.i 4) [.aS 6<|.pL (.sl (.v 0) (.tv<|.pL (.v 5)<|.i 1)<|.tv<|.pL (.v 5)<|.i 2)<|.sl (.v 0) (.tv<|.v 5)<|.tv<|.pL (.v 5)<|.i 1,
 .ret (.pL (.pL (.sl (.v 0) .nil<|.tv<|.v 5)<|.v 6)<|.sl (.v 0) (.tv<|.pL (.v 5)<|.i 2) .nil)] [],
 .ret (.pL (.pL (.lS [.s "("])<|.v 0)<|.lS [.ix (.lS [.s "and",.s "or"])<|.mD (.v 4)<|.i 2,.xI 2 0,.s ")"])]
def As:Fn:=aZ [] [uo] 7 Ar
def EC:S:=.cG [.iF (.or (.not<|.tv<|.dig<|.v 0)<|.or (.tv<|.cmp .Gt (.bI "len" [.v 0])<|.i 31)<|.eQ (.xI 0 0)<|.s "0") [.ret<|.bl Z6] [],.ret<|.cmp .LtE (.bI "int" [.v 0])<|.bin .Pow (.i 10)<|.i 30]
def Au:Fn:=aZ [] [] 1 EC
def Kn:S:=.cG [.fO (.nm 1) (.tv<|.v 0) [.iF (.tv<|.cmp .NotIn (.v 1)<|.s "abcdefghijklmnopqrstuvwxyz") [.ret<|.bl Z6] []],
 .iF (.tv<|.cmp .In (.v 0)<|.lS [.s "and",.s "or",.s "not",.s "if",.s "is",.s "some",.s "all",.s "for",.s "against"]) [.ret<|.bl Z6] [],
 .ret (.chain .LtE .LtE (.i 1) (.bI "len" [.v 0])<|.i 12)]
def rF:Fn:=aZ [] [] 2 Kn
def Aw:S:=.cG [.aS 1<|.bl Z6,
 .wH 100000 (.not<|.tv<|.v 1) [.aS 1<|.bl J,
 .aS 2 (.ix (.v 0)<|.neg<|.i 1),
 .iF (.and (.tv<|.cmp .Gt (.bI "len" [.v 0])<|.i 1)<|.and (.tv<|.cmp .In (.xI 2 0)<|.lS [.i 1,.i 2])<|.eQ (.ix (.ix (.v 0)<|.neg<|.i 2)<|.i 0)<|.s "not") [.aS 0<|.pL (.sl (.v 0) .nil<|.tv<|.neg<|.i 2)<|.lS [.tU [.xI 2 0,.tU [.s "not",.xI 2 1],.pL (.xI 2 2)<|.i 1]],
 .aS 1 (.bl Z6)] [.iF (.and (.tv<|.cmp .Gt (.bI "len" [.v 0])<|.i 1)<|.and (.eQ (.xI 2 0)<|.i 1)<|.tv<|.cmp .In (.ix (.ix (.v 0)<|.neg<|.i 2)<|.i 0)<|.lS [.s "some",.s "all"]) [.aS 0<|.pL (.sl (.v 0) .nil<|.tv<|.neg<|.i 2)<|.lS [.tU [.i 2,.tU [.ix (.ix (.v 0)<|.neg<|.i 2)<|.i 0,.xI 2 1],.pL (.xI 2 2)<|.i 1]],
 .aS 1 (.bl Z6)] [.iF (.and (.tv<|.cmp .Gt (.bI "len" [.v 0])<|.i 4)<|.and (.eQ (.xI 2 0)<|.s ")")<|.and (.eQ (.ix (.ix (.v 0)<|.neg<|.i 5)<|.i 0)<|.s "(")<|.tv<|.cmp .In (.ix (.ix (.v 0)<|.neg<|.i 3)<|.i 0)<|.lS [.s "and",.s "or"]) [.aS 3<|.ix (.v 0)<|.neg<|.i 4,
 .aS 4 (.ix (.v 0)<|.neg<|.i 2),
 .iF (.and (.tv<|.cmp .In (.xI 3 0)<|.lS [.i 1,.i 2])<|.eQ (.xI 3 0)<|.xI 4 0) [.aS 5<|.tU [.ix (.ix (.v 0)<|.neg<|.i 3)<|.i 0,.xI 3 1,.xI 4 1],
 .aS 0 (.pL (.sl (.v 0) .nil<|.tv<|.neg<|.i 5)<|.lS [.tU [.xI 3 0,.v 5,.pL (.i 1)<|.bI "max" [.xI 3 2,.xI 4 2]]]),
 .aS 1 (.bl Z6)] []] []]]],
 .ret (.v 0)]
def yr:Fn:=aZ [] [] 6 Aw
def ED:S:=.cG [.aS 1<|.lS [],
 .aS 2 (.i 0),
 .wH 100000 (.tv<|.cmp .Lt (.v 2)<|.bI "len" [.v 0]) [.aS 3<|.ix (.v 0)<|.v 2,
 .aS 2 (.pL (.v 2)<|.i 1),
 .iF (.and (.tv<|.cA 1 "_law_is_name" [.v 3])<|.eQ (.sl (.v 0) (.tv<|.v 2)<|.tv<|.pL (.v 2)<|.i 1)<|.lS [.s ">="]) [.aS 4<|.ix (.pL (.sl (.v 0) (.tv<|.pL (.v 2)<|.i 1) .nil)<|.lS [.s ""])<|.i 0,
 .iF (.not<|.tv<|.cA 2 "_law_is_number" [.v 4]) [.ret<|.lS []] [],
 .aP 1 (.tU [.i 1,.tU [.s "at",.v 3,.bI "int" [.v 4]],.i 1]),
 .aS 2 (.pL (.v 2)<|.i 2)] [.iF (.tv<|.cA 1 "_law_is_name" [.v 3]) [.aP 1<|.tU [.i 1,.tU [.s "is",.v 3],.i 1]] [.aP 1<|.tU [.v 3]]],
 .uR 0 1],
 .ret (.v 1)]
def vr:Fn:=aZ [] [yr,rF,Au] 5 ED
def Kq:S:=.cG [.iF (.and (.eQ (.xI 0 0)<|.s "is")<|.tv<|.cmp .In (.xI 0 1)<|.sl (.v 1) .nil<|.tv<|.i 3) [.ret<|.tU [.s "at",.xI 0 1,.i 1]] [],
 .iF (.or (.eQ (.xI 0 0)<|.s "at")<|.eQ (.xI 0 0)<|.s "is") [.ret<|.v 0] [],
 .ret (.pI "tuple"<|.tv<|.pL (.lS [.xI 0 0])<|.comp 1 [1] ["_law_part","_law_names"] (.nm 0) (.tv<|.sl (.v 0) (.tv<|.i 1) .nil) .nil<|.cA 0 "_law_looked" [.v 0,.v 1])]
def Kr:S:=(.seq .bad<|.seq .bad<|.seq .bad .nil)
def oX:Nat->Fn
 |0=>aZ [] [] 2 Kr
 |k+1=>aZ [] [oX k] 2 Kq
def EE:S:=.cG [.fO (.nm 2) (.gM<|.cG [.bI "len" [.v 0]]) [.aS 3<|.ix (.v 0)<|.v 2,
 .iF (.tv<|.cA 0 "_law_is_name" [.v 3]) [.iF (.or (.tv<|.cmp .NotIn (.v 3)<|.sl (.v 1) .nil<|.tv<|.i 6)<|.and (.eQ (.sl (.v 0) (.tv<|.pL (.v 2)<|.i 1)<|.tv<|.pL (.v 2)<|.i 2)<|.lS [.s ">="])<|.tv<|.cmp .NotIn (.v 3)<|.sl (.v 1) .nil<|.tv<|.i 3) [.ret<|.v 3] []] []],
 .ret .non]
def yt:Fn:=aZ [] [rF] 4 EE
def EF:S:=.cG [.aS 3<|.fD (.xI 0 0)<|.i 2,
 .iF (.eQ (.mD (.v 3)<|.i 4)<|.i 3) [.ret<|.comp 1 [2] ["_law_one","_law_names"] (.nm 0) (.tv<|.sl (.v 0) (.tv<|.i 2)<|.tv<|.pL (.i 3)<|.mD (.xI 0 1)<|.i 30) .nil<|.cA 4 "_law_word" [.v 0,.v 1]] [],
 .iF (.eQ (.v 1)<|.i 0) [.aS 4<|.lP (.cA 1 "_law_text" [.cA 2 "_law_tree" [.sl (.v 0) (.tv<|.i 2)<|.tv<|.pL (.i 3)<|.mD (.xI 0 1)<|.i 7,.v 2]])<|.s " "] [.aS 4<|.lP (.cA 1 "_law_text" [.cA 3 "_law_asking" [.sl (.v 0) (.tv<|.i 2) .nil,.v 2,.pL (.i 1)<|.mD (.xI 0 1)<|.i 4]])<|.s " "],
 .fO (.nm 5) (.gM<|.cG [.mD (.fD (.v 3)<|.i 4)<|.i 3]) [.iF (.tv<|.cmp .Gt (.bI "len" [.v 4])<|.i 0) [.aS 4<|.cA 0 "_law_changed" [.v 4,.ix (.v 0)<|.pL (.i 30)<|.v 5,.v 2]] []],
 .ret (.v 4)]
def yu:Fn:=aZ [] [As,(iO 21),iN,yq,uo] 6 EF
def pQ {b:U}(h:a[[]]=b[[]]):a=b:=by
 cases a with
 |mk x=>
  cases b with
  |mk y=>rw[show x=y from Array.ext' h]
def dS (a b:U):(a++b)[[]]=a[[]]++b[[]]:=by show(a.cps++b.cps).toList=_;rw[oa]
def oY (z:U)(a:List U):(z0u z a)[[]]=eN z[[]] a:=by show(eN z[[]] a).toArray.toList=_;rw[List.toList_toArray]
def vt (z:U):z.length=z[[]].length:=by rw[dv];rfl
def oZ (h:a.length+b.length<=100000):cW .Add (.str a) (.str b)=.ok (.str<|a++b):=by show(if a.length+b.length<=LIM then _ else _)=_;rw[qq (by unfold LIM;omega)]
theorem v_add (c:Ev Κ Φ s ρ<|.str a)(d:Ev Κ Φ t ρ<|.str b)(h:a.length+b.length<=100000):Vv Κ Φ (.bin .Add s t) ρ (.str<|a++b):=aI c d (oZ h) rfl
theorem Ks:∀a,fW (a.map .str)=Y a
 | []=>rfl
 |b::bs=>by rw[bu];show(fW<|bs.map .str).map (b:: ·)=_;rw[Ks bs];rfl
def Kt (h:pJ z a<=LIM):mtD "join" (.str z) [.list<|a.map .str]=.ok (.str<|z0u z a):=by
 show(match fW (a.map .str)with|some a=>if pJ z a<=LIM then Res.ok (ZX<|z0u z a)else .no|none=>.no)=_;rw[Ks]
 dsimp only
 rw[qq h]
theorem pR (h:Ev Κ Φ t ρ<|.int i):Tt Κ Φ (.tv<|.cmp .Eq t<|.int j) ρ (decide (i=j)):=aT (cL (k:=decide (i=j)) h aE.e (by show Res.ok (bX (.int _)<|.int _)=_;rw[Jk])).e rfl
def jL (h:0<b)(c:b<2 ^ 200):cW .FloorDiv (.int a) (.int b)=.ok (.int<|a/b):=by show(if _ then _ else _)=_;rw[qq {(h),c}]
def Uh (cs:List Int):gP "len" [.list<|cs.map .int]=.ok (.int (cs.length:Int)):=by show Res.ok (ZU ((cs.map ZU).length:Int))=_;rw[am]
def Ui {a c:Type}(f:a->c)(b:List a)(i j:Option Int):cut (b.map f) i j=(cut b i j).map f:=by unfold cut;rw[am,List.map_take,List.map_drop]
def Nx (I:Rho->Prop)(z:Res Out):Prop:=∃bQ,z=.ok (.nx bQ)/\I bQ
theorem pA (h:I a):Nx I (aH Κ Φ .nil a):={(a),iH,h}
def EG (hi:imm d=J):gG (.nm j) (gJ d g,d) ρ=.ok (ρ.set j<|Y (.al,d)):=by rw[nG hi];rfl
theorem q_nm {Q:Res Out->Prop}{c:Type}{m:c->D}{xs:List c}(h:evF Κ Φ it ρ=.ok (g,xs.map m,d))(hm:∀x,imm (m x)=J)(I:List c->Rho->Prop)(h0:I [] d)
  (hf:∀pre x a ρ,xs=pre++x::a->I pre ρ->Nx (I<|pre++[x]) (aH Κ Φ p<|ρ.set j<|Y (.al,m x))) (e:∀b,I xs b->Q (aH Κ Φ rest b)):Q (aH Κ Φ (.seq (.cV (.nm j) it p) rest) ρ):=
 zv3 h I h0 (λpre x a ρ f i=>by let{b,k,l}:=hf pre x a ρ f i;exact{_,b,EG<|hm x,k,l}) e
theorem Uj {a:Type}{m:a->D}(h:∀x,imm (m x)=J)(b:List a):imms (b.map m)=true:=mX.mpr λx c=>by let{p,_,rfl}:=ci.mp c;exact h p
def vx (h:imm d=J):z0h (Y (.al,d))=Y (.al,d):=by show(if imm d=J then Y (G.al,d)else Z8)=_;rw[qq h]
theorem Ku {p:Type}{m:p->D}{Q:Res Out->Prop}(I:List p->Rho->Prop):∀j pre ρ,(∀k x l ρ,pre++j=k++x::l->I k ρ->(∃i,f (m x) ρ=.ok (.nx i)/\I (k++[x]) i)\/∃g d,f (m x) ρ=.ok (.rt g d)/\Q (.ok<|.rt g d))->I pre ρ->(∃i,cQ f (j.map m) ρ=.ok (.nx i)/\I (pre++j) i)\/∃g d,cQ f (j.map m) ρ=.ok (.rt g d)/\Q (.ok<|.rt g d)
 | [],pre,ρ,_,h=>.inl {ρ,rfl,by rw[b7];exact h}
 |x::j,pre,ρ,hf,h=>by
  rcases hf pre x j ρ rfl h with⟨i,e,t⟩|⟨g,d,e,q⟩
  .have s:pre++x::j=(pre++[x])++j:=by simp
   rcases Ku I j (pre++[x]) i (λa b c r hh=>hf a b c r<|s.trans hh) t with⟨n,o,u⟩|⟨g,d,o,q⟩
   .exact .inl {n,by rw[bu];show(match f (m x) ρ with|.ok (.nx i)=>cQ f (j.map m) i|.ok (.ct i)=>cQ f (j.map m) i|.ok (.bk i)=>.ok (.nx i)|.ok (.rt g d)=>.ok (.rt g d)|.exc e=>.exc e|.no=>.no)=_;rw[e];exact o,by rw[s];exact u}
   .exact .inr {g,d,by rw[bu];show(match f (m x) ρ with|.ok (.nx i)=>cQ f (j.map m) i|.ok (.ct i)=>cQ f (j.map m) i|.ok (.bk i)=>.ok (.nx i)|.ok (.rt g d)=>.ok (.rt g d)|.exc e=>.exc e|.no=>.no)=_;rw[e];exact o,q}
  .exact .inr {g,d,by rw[bu];show(match f (m x) ρ with|.ok (.nx i)=>cQ f (j.map m) i|.ok (.ct i)=>cQ f (j.map m) i|.ok (.bk i)=>.ok (.nx i)|.ok (.rt g d)=>.ok (.rt g d)|.exc e=>.exc e|.no=>.no)=_;rw[e],q}
def zhq {Q:Res Out->Prop}{β:Type}{m:β->D}{xs:List β}(h:evF Κ Φ it ρ=.ok (g,xs.map m,ρ1))(I:List β->Rho->Prop)(h0:I [] ρ1)
  (hf:∀pre x post ρ,xs=pre++x::post->I pre ρ->∃kY,gG t' (gJ (m x) g,m x) ρ=.ok kY/\(Nx (I<|pre++[x]) (aH Κ Φ p kY)\/∃g d,aH Κ Φ p kY=.ok (.rt g d)/\Q (.ok<|.rt g d))) (hk:∀bQ,I xs bQ->Q (aH Κ Φ rest bQ)):Q (aH Κ Φ (.seq (.cV t' it p) rest) ρ):=by
 rcases Ku (f:=λx ρ1=>gG t' (gJ x g,x) ρ1>>=λkY=>aH Κ Φ p kY) I xs [] ρ1 (λpre x post ρ hx hI=>by
  let{kY,e,hh}:=hf pre x post ρ hx hI;rcases hh with⟨bQ,h1,h2⟩|⟨g',d,h1,h2⟩
  .exact .inl {bQ,by rw[e,Res.aB,h1],h2}
  .exact .inr {g',d,by rw[e,Res.aB,h1],h2}) h0 with⟨bQ,e,i⟩|⟨g',d,e,q⟩
 .rw[dI (DZ h e) rfl];exact hk bQ i
 .rw[bR<|DZ h e];exact q
theorem Uk {a:Type}{b:List a}{x:a×Nat}(h:x∈b.zipIdx):b[x.2]?=Y x.1:=List.mem_zipIdx_iff_getElem?.mp h
def pB (w:U):Bool:=([.str "and",.str "or",.str "not",.str "if",.str "is",.str "some",.str "all",.str "for",.str "against"]:List D).any λy=>bX y (.str w)
def gn (w:U):U:=if pB w then w++"x"else w
def Ul (h:w.length<=100):rD [.str w]=.ok (.fr,.str<|gn w):=by
 refine eC ?_;have a:Tt [] [] (.tv<|.cmp .In (.var 0)<|.lst<|.cons (.str "and")<|.cons (.str "or")<|.cons (.str "not")<|.cons (.str "if")<|.cons (.str "is")<|.cons (.str "some")<|.cons (.str "all")<|.cons (.str "for")<|.cons (.str "against") .nil) [Y (.od,.str w)] (pB w):=aT (cL (aC rfl) (Ev.of<|dR<|aF aN<|aF aN<|aF aN<|aF aN<|aF aN<|aF aN<|aF aN<|aF aN<|aF aN<|bG) rfl).e rfl;unfold gn;cases hk:pB w with
 |true=>refine iU a hk (bR<|dJ<|aI (aC rfl) aN.e (add_str (by have:("x":U).length=1:=rfl;omega)) rfl)
 |false=>exact gK a hk (bR<|dJ<|v_var rfl rfl)
theorem EI:("abcdefghijklmnopqrstuvwxyz":U).length=26:=rfl
theorem EJ:("bcdefghjklmnpqrstuvwxyz":U).length=23:=rfl
def p1 (c:Nat):Bool:=decide (97<=c)&&decide (c<=122)
def p2 (c:Nat):Bool:=p1 c&& !(c==97)&& !(c==105)&& !(c==111)
def Ch (p:Nat->Bool)(w:U):Prop:=∀c∈w[[]],p c=J
theorem Ch.app (e:Ch p a)(f:Ch p b):Ch p (a++b):=λc g=>by
 have d:c∈(a.cps++b.cps).toList:=g;rw[oa]at d;rcases bg.mp d with h|h
 .exact e c h
 .exact f c h
theorem Ch.sl (d:Ch p a)(i j:Option Int):Ch p (kW a i j):=λc e=>by
 have b:c∈cut a[[]] i j:=by have h0:c∈(cut a[[]] i j).toArray.toList:=e;simpa using h0
 exact d c (ez<|e8 b)
theorem Ch.chr {i:Int}(h:Ch p z)(h0:0<=i)(a:i<z.length):Ch p (Mk.chr z i):=λc b=>by rw[ai.mp b];refine h _<|getD_mem h0 ?_;exact a
theorem Ch.weak (h:Ch p z)(a:∀c,p c=J->q c=J):Ch q z:=λc b=>a c (h c b)
theorem Ch.nil:Ch p "":=λc a=>by ext a
def Um (c:Nat)(h:p2 c=J):p1 c=true:=by unfold p2 at h;rw[av,av,av]at h;exact h.1.1.1
theorem Ch.join (h:∀s∈b,Ch p s):Ch p (z0u "" b):=λc d=>by
 have a:c∈(eN ("":U)[[]] b).toArray.toList:=d;cases b with
 |nil=>ext a
 |cons x r=>
  simp only[eN,bg,List.mem_flatten,ci]at a;rcases a with a|⟨l,⟨y,e,rfl⟩,a⟩
  .exact h x ar c a
  .rcases bg.mp a with a|a
   .cases a
   .exact h y (ao _ e) c a
theorem Kv:Ch p1 "abcdefghijklmnopqrstuvwxyz":=λc a=>bc.mp Z' c a
theorem Uo:Ch p2 "bcdefghjklmnpqrstuvwxyz":=λc a=>bc.mp Z' c a
structure NW (w:U):Prop where
 l1:1<=w.length
 l2:w.length<=12
 ch:Ch p1 w
 kp:pB w=Z6
def nR:List U:=["and","or","not","if","is","some","all","for","against"]
def Ax (w:U):pB w=J↔w∈nR:=by
 show(nR.map ZX).any (λy=>bX y<|.str w)=J↔_;rw[List.any_map,j9];constructor
 .rintro⟨x,b,h⟩
  have a:(x==w)=true:=h;rw[beq_iff_eq]at a;rw[<-a];exact b
 .intro h;exact{w,h,by show(w==w)=J;rw[beq_self_eq_true]}
def Up (b:1<=w.length)(d:w.length<=12)(h:Ch p1 w):NW (gn w):=by
 unfold gn;cases hk:pB w with
 |false=>rw[qr di];exact{(b),d,h,hk}
 |true=>
  rw[qq rfl];have e:Ch p1 ("x":U):=λc f=>by rw[ai.mp f];rfl
  have g:∀v∈nR,v.length<=11/\pB (v++"x")=false:=by decide+kernel
  have a:=g w<|(Ax w).mp hk;refine{by rw[bF];omega,by rw[bF];have:("x":U).length=1:=rfl;omega,h.app e,a.2}
def Uq (z:U)(h:0<=i):(kW z Z8<|Y i).length+(kW z (Y i) Z8).length=z.length:=by
 have e:∀a b,(kW z a b).length=(cut z[[]] a b).length:=λa b=>by show((cut z[[]] a b).toArray).size=_;rw[br]
 rw[e,e,vt];generalize z[[]]=l;unfold cut;have s:Mi.bC l.length 0 (Y i)=min i.toNat l.length:=qr ZQ;have c:Mi.bC l.length l.length (Y i)=min i.toNat l.length:=qr ZQ;rw[s,c,du,du,df,df];show min (min i.toNat l.length-0) l.length+min (l.length-min i.toNat l.length) (l.length-min i.toNat l.length)=_;have:=Nat.min_le_right i.toNat l.length;generalize min i.toNat l.length=k at this;omega
def jS (hm:∀x,imm (m x)=J)(d:Ev Κ Φ a ρ<|.list<|xs.map m)(e:Oo Κ Φ b ρ i)(f:Oo Κ Φ c ρ j):aJ Κ Φ (.sl a b c) ρ=.ok (.fr,.list<|(cut xs i j).map m):=by let{g,d}:=d;rw[xO,d,Res.aB,e,Res.aB,f,Res.aB];rw[show tL (.list<|xs.map m) i j=.ok (.list<|cut (xs.map m) i j)from rfl,Ui];show Res.ok (if imms ((cut xs i j).map m)=J then G.fr else _,_)=_;rw[qq<|Uj hm _]
theorem EK:Ch p1 ("x":U):=λc a=>by rw[ai.mp a];rfl
theorem Kw:Ch p1 "bcdefghjklmnpqrstuvwxyz":=Uo.weak Um
def Ur (c:Int)(h0:0<=k)(a:k<=100):∃n,0<=n/\rC [.int c,.int k]=.ok (.fr,.int n):=by refine{(c%1000000000000000+104729*k*k+11)*48271%2147483647,i4 _ dc,?_};exact eC (bR<|dJ<|aI (aI (aI (aI (aI (aC rfl) (aI aE.e aE.e rfl rfl).e (cS dc) rfl).e (aI (aI aE.e (aC rfl) (t8 dc) rfl).e (aC rfl) (oQ {by omega,by omega}) rfl).e rfl rfl).e aE.e rfl rfl).e aE.e (oQ dc) rfl).e aE.e (cS dc) rfl)
section
variable {Κ:List D}{Φ:List Fn}{ρ:Rho}{c:C}{k:Bool}{p q rest:S}{Q:Res Out->Prop}
def EL (b:Tt Κ Φ c ρ k)(d:k=J->Nx (λa=>Q<|aH Κ Φ rest a) (aH Κ Φ p ρ))(f:k=Z6->Nx (λa=>Q<|aH Κ Φ rest a) (aH Κ Φ q ρ)):Q (aH Κ Φ (.seq (.bW c p q) rest) ρ):=by
 cases k with
 |true=>let{a,e,z}:=d rfl;exact aG (zY b (λ_=>e) nofun) z
 |false=>let{a,e,z}:=f rfl;exact aG (zY b nofun λ_=>e) z
theorem Us (b:Tt Κ Φ c ρ k)(d:k=J->Nx (λa=>Q<|aH Κ Φ rest a) (aH Κ Φ p ρ))(e:k=Z6->Q (aH Κ Φ rest ρ)):Q (aH Κ Φ (.seq (.bW c p .nil) rest) ρ):=EL b d λh=>{_,iH,e h}
def mL (a:Tt Κ Φ c ρ k)(b:k=J->∃g d,aH Κ Φ p ρ=.ok (.rt g d)/\Q (.ok<|.rt g d))(f:k=Z6->Q (aH Κ Φ rest ρ)):Q (aH Κ Φ (.seq (.bW c p .nil) rest) ρ):=by
 cases k with
 |true=>let{g,d,e,z}:=b rfl;rw[iU a rfl e];exact z
 |false=>exact qZ a rfl (f rfl)
end
def Np (ns:List U):Prop:=ns.length=27/\(∀w∈ns,NW w)/\(ns.take 10).Nodup
def Ut (gH:z[[]].Nodup)(a:0<=i)(b:i<z.length)(c:0<=j)(d:j<z.length)(e:chr z i=chr z j):i=j:=by have e:=congrArg (λs:U=>s[[]]) e;have e:=List.head_eq_of_cons_eq e;have f:=vt z;rw[ah,ah,bn ZQ,bn ZQ]at e;have:=(List.getElem_inj gH).mp e;omega
def Uu (h:w.length<=11):(gn w).length<=11:=by
 unfold gn;split
 .rename_i hk;have a:∀v∈nR,v.length<=7:=by decide+kernel
  have:=a w<|(Ax w).mp hk;rw[bF];have:("x":U).length=1:=rfl;omega
 .exact h
def Uv (h:a++("x":U)=b++"x"):a=b:=by have e:=congrArg (λs:U=>s[[]]) h;rw[dS,dS]at e;exact pQ (l5 e)
def Uw (c:a.length=b.length)(h:gn a=gn b):a=b:=by
 have d:("x":U).length=1:=rfl;unfold gn at h;split at h<;>split at h
 .exact Uv h
 .have :=congrArg Str.length h;rw[bF]at this;omega
 .have :=congrArg Str.length h;rw[bF]at this;omega
 .exact h
def EM (h:v.length<=11)(n:NW v):NW (v++"x"):=by
 have b:("x":U).length=1:=rfl;refine{by rw[bF];omega,by rw[bF];omega,n.ch.app EK,?_};cases hk:pB (v++"x")with
 |false=>rfl
 |true=>
  have a:∀k∈nR,k[[]].getLast?≠Y 120:=by decide+kernel
  refine absurd ?_<|a _<|(Ax _).mp hk;rw[dS,show("x":U)[[]]=[120]from Z',List.getLast?_append];rfl
def zh7 {a:Type}{m:a->D}{xs:List a}(f:a->U)(c:evW Κ Φ d ρ=.ok w)(g:w.2=xs.map m)(r:a->Rho)
  (i:∀x∈xs,gG k (gJ (m x) w.1,m x) (bq l Z8++n.map λj=>gO<|ρ.getD j Z8)=.ok (r x)) (o:∀x∈xs,Vv Κ Φ b (r x)<|.str<|f x):
  aJ Κ Φ (.comp l n N' k d .nil b) ρ=.ok (.fr,.list<|(xs.map f).map .str):=by
 have e:=z4d (N':=N') (λ_=>J) (λx=>.str<|f x) c g r i (λ_ _=>uc) λx h _=>o x h;rw[fv.mpr λ_ _=>rfl]at e;rw[e,dw];rfl
def sgn (o:z.length=b.toNat)(d:Ch p1 z)(gH:z[[]].Nodup)(f:b=23\/b=26)(q:ρ[1]?=Y (Y (.al,.str z)))(r:ρ[2]?=Y (Y (.al,.int n)))(hm:0<m/\m<2 ^ 200):∃c:List U,(c.length=23/\(∀s∈c,s.length=1/\Ch p1 s)/\c.Nodup)/\aJ [] Φ (.comp 1 [1,2] ["_law_k","_law_letters","_law_number"] (.nm 0) (.gM<|.cons (.int 23) .nil) .nil<|.ix (.var 1)<|.bin .Mod (.bin .Add (.bin .FloorDiv (.var 2)<|.int m)<|.bin .Mult (.int 3)<|.var 0)<|.int b) ρ=.ok (.fr,c[_]):=by
 have h:0<b:=by omega
 have p:∀k:Nat,0<=(n/m+3*(k:Int))%b/\(n/m+3*(k:Int))%b<z.length:=λk=>{i4 _ ZQ,by have:=ll (n/m+3*(k:Int)) h;rw[o];omega};refine{(dz 23).map λ(k:Nat)=>chr z<|(n/m+3*(k:Int))%b,{by rw[am,dk],λs hs=>?_,?_},zh7 (m:=λi:Nat=>ZU i) _ (DX (aW aE.e bE)<|t9 ZQ ZQ) rfl (λk=>[Y (.al,.int k),Y (.al,.str z),Y (.al,.int n)]) (λk _=>by show gG (.nm 0) _ ([Z8]++[gO<|ρ.getD 1 Z8,gO<|ρ.getD 2 Z8])=_;rw[ah,ah,q,r];rfl) λk _=>aO (aC rfl) (aI (aI (aI (aC rfl) aE.e (jL hm.1 hm.2) rfl).e (aI aE.e (aC rfl) (t8 ZP) rfl).e rfl rfl).e aE.e (cS h) rfl).e (uP (p k).1 (p k).2 ZQ) rfl}
 .let{k,_,rfl}:=ci.mp hs;exact{rfl,d.chr (p k).1 (p k).2}
 .refine p5.mpr (l6 (λ{i j} hi l g e=>g ?_) List.nodup_range);have hi:=ef.mp hi;have l:=ef.mp l;have:=Ut gH (p i).1 (p i).2 (p j).1 (p j).2 e;generalize n/m=a at this;rcases f with rfl|rfl<;>omega
abbrev Ky:List Fn:=[rD,rC]
def Ux (c:Int):∃ns,Np ns/\oV [.int c]=.ok (.fr,ns[_]):=by
 let Q:Res Out->Prop:=λr=>∃ns,Np ns/\r=.ok (.rt .fr ns[_])
 suffices h:Q (aH [] Ky uj [Y (.od,.int c),Z8,Z8,Z8,Z8,Z8,Z8,Z8,Z8]) by let{ns,B,X}:=h;exact{ns,B,eC X}
 let{n,n0,ZM}:=Ur c (k:=0) ZP ZP;have bs:∀k:Nat,∀s,s=chr "bcdefghjklmnpqrstuvwxyz" ((n/11+5*(k:Int)*k)%23)->s.length=1/\Ch p1 s:=λk s h=>by rw[h];exact{rfl,Kw.chr ZQ (by rw[EJ];omega)}
 have D:∀s∈(dz (n%11).toNat).map λ(k:Nat)=>chr "bcdefghjklmnpqrstuvwxyz"<|(n/11+5*(k:Int)*k)%23,s.length=1/\Ch p1 s:=λs h=>by let{k,_,e}:=ci.mp h;exact bs k s e.symm
 have P:=λs h=>(D s h).1;have Z:((dz (n%11).toNat).map λ(k:Nat)=>chr "bcdefghjklmnpqrstuvwxyz"<|(n/11+5*(k:Int)*k)%23).length<=10:=by rw[am,dk];omega
 refine aG (bZ aN) (aG (bZ<|eO (aW (aC rfl)<|aW aE.e bE) rfl ZM rfl) (aG (bZ<|aI (aC rfl) aE.e (cS ZP) rfl) (aG (bZ (ub aN.e (aW (Ev.of (zh7 (m:=λi:Nat=>ZU i) (λk=>chr "bcdefghjklmnpqrstuvwxyz"<|(n/11+5*(k:Int)*k)%23) (DX (aW (aC rfl) bE)<|t9 ZQ ZQ) rfl (λk=>[Y (.al,.int k),Y (.al,.str "bcdefghjklmnpqrstuvwxyz"),Y (.al,.int n)]) (λk _=>rfl) (λk hk=>by
  have Ew:=by have:=ef.mp hk;omega
  exact aO (aC rfl) (aI (aI (aI (aC rfl) aE.e rfl rfl).e (aI (aI aE.e (aC rfl) (t8 ZP) rfl).e (aC rfl) (oQ ZQ) rfl).e rfl rfl).e aE.e (cS ZP) rfl).e (uP ZQ (by rw[EJ];omega) (by rw[EJ];omega)) rfl))) bE) (Sm P ZQ) rfl)) (aG (bZ<|aI (aI (aC rfl) aE.e rfl rfl).e (aI (aC rfl) aE.e rfl rfl).e (cS ZQ) rfl) ?_))))
 have E:=Sl _ P;have t:=Ch.join λs h=>(D s h).2;generalize z0u "" _=d at E t;have R:0<=n/253%(n%11+1):=i4 _ ZQ;generalize n/253%(n%11+1)=f at R;let{sg,ZK,K}:=sgn (ρ:=[Y (.od,.int c),Y (.al,.str "bcdefghjklmnpqrstuvwxyz"),Y (.al,.int n),Y (.al,.int<|n%11),Y (.al,.str d),Y (.al,.int f),Z8,Z8,Z8]) (m:=7) rfl Kw Z' (.inl rfl) rfl rfl ZP;refine aG (fS K<|jG _) ?_
 suffices fin:∀{S T ZL C:Option GD} {d:U} {f:Int} {l:List U},d.length<=10->Ch p1 d->0<=f->(l.length=23/\(∀s∈l,s.length=1/\Ch p1 s)/\l.Nodup)->Q (aH [] Ky _ [Y (.od,.int c),S,T,ZL,Y (.al,.str d),Y (.al,.int f),Y (.fr,l[_]),C,Z8]) by
  refine Us (pR (aI (aC rfl) aE.e (cS ZP) rfl).e) (λ_=>?_) λ_=>fin ZQ t R ZK;have a2:0<=c/2/11%(c/2%11+1):=i4 _ ZQ;let{sh,L,M}:=sgn (ρ:=[Y (.od,.int c),Y (.al,.str "abcdefghijklmnopqrstuvwxyz"),Y (.al,.int<|c/2),Y (.al,.int<|c/2%11),Y (.al,.str d),Y (.al,.int<|c/2/11%(c/2%11+1)),Y (.fr,sg[_]),Z8,Z8]) (m:=132) rfl Kv Z' (.inr rfl) rfl rfl ZP;refine aG (bZ aN)<|aG (bZ<|aI (aC rfl) aE.e rfl rfl)<|aG (bZ<|aI (aC rfl) aE.e (cS ZP) rfl)<|aG (bZ<|aI (aI (aC rfl) aE.e rfl rfl).e (aI (aC rfl) aE.e rfl rfl).e (cS ZQ) rfl)<|aG (fS M<|jG _)<|aG (bZ<|aI (aC rfl) aE.e rfl rfl)<|aG (bZ aN) ?_;refine q_nm (xR (aW (aC rfl) bE)<|t9 ZQ ZQ) (λ_=>rfl) (λpre F=>∃q st C,F=[Y (.od,.int c),Y (.al,.str "abcdefghijklmnopqrstuvwxyz"),Y (.al,.int q),Y (.al,.int<|c/2%11),Y (.al,.str st),Y (.al,.int<|c/2/11%(c/2%11+1)),Y (.fr,sh[_]),C,Z8]/\st.length=pre.length/\Ch p1 st) {c/2/3432,"",Z8,rfl,rfl,Ch.nil} ?_ ?_
  .rintro pre x V F u ⟨q,st,C,rfl,G,g⟩
   have hp:=congrArg gq u;simp only[dk,ax,ay]at hp;refine aG (bZ<|v_add (aC rfl) (aO (aC rfl) (aI (aC rfl) aE.e (cS ZP) rfl).e (uP ZQ (by rw[EI];omega) (by rw[EI];omega)) rfl).e (by rw[Ji];omega)) (aG (bZ<|aI (aC rfl) aE.e rfl rfl)<|pA {q/26,_,Y (.al,.int x),rfl,by rw[bF,Ji,ax,G];rfl,g.app<|Kv.chr ZQ (by rw[EI];omega)})
  .rintro F ⟨q,st,C,rfl,G,g⟩
   rw[dk]at G;exact pA (fin ZQ g a2 L)
 intro S T ZL C d f l hs g h0 ⟨G,B,gH⟩;have hc:=Uq d h0
 let w:U->U:=λs=>kW d Z8 (Y f)++s++kW d (Y f) Z8
 have o:∀s∈l,(w s).length=d.length+1:=λs p=>by rw[bF,bF,(B s p).1];omega
 refine aG (fS (zh7 (λs=>gn<|w s) (fI rfl rfl) rfl (λs=>[Y (.al,.str s),Y (.al,.str d),Y (.al,.int f)]) (λs _=>rfl)<|λs u=>eO (aW (v_add (v_add (ua (aC rfl) kC (fL<|aC rfl) (zr ZQ) rfl).e (aC rfl) (by have:=(B s u).1;omega)).e (ua (aC rfl) (fL<|aC rfl) kC (zr ZQ) rfl).e (by rw[bF];have:=(B s u).1;omega)).e bE) rfl (Ul (by have:=o s u;show(w s).length<=_;omega)) rfl)<|jG _) ?_;have j:∀v∈l.map (λs=>gn<|w s),v.length<=11/\NW v:=λv H=>by let{s,p,rfl}:=ci.mp H;have:=o s p;exact{Uu ZQ,Up ZQ ZQ<|((g.sl _ _).app (B s p).2).app<|g.sl _ _}
 have I:(l.map λs=>gn<|w s).Nodup:=by refine p5.mpr<|l6 (λ{a b} ha hb N e=>N ?_) gH;have e:=congrArg (λs:U=>s[[]])<|Uw ((o a ha).trans (o b hb).symm) e;rw[dS,dS,dS,dS]at e;exact pQ (List.append_cancel_left<|l5 e)
 have y:(l.map λs=>gn<|w s).length=23:=by rw[am];exact G
 generalize (l.map λs=>gn<|w s)=ns at j y I;have O:(cut ns Z8<|Y 4).length=4:=by unfold cut;simp only[Mi.bC,qr (show ¬(4:Int)<0 by omega),du,df,y];omega
 have A:∀v∈cut ns Z8 (Y 4),v∈ns:=λv H=>ez<|e8 H;refine{ns++(cut ns Z8<|Y 4).map λ(v:U)=>v++"x",{by rw[ax,am,y,O],λv H=>?_,by rw[List.take_append_of_le_length ZQ];exact I.sublist<|pb _ _},bR<|sr nofun (qY (aC rfl) (Ev.of<|zh7 (λv=>v++"x") (fI (jS (λ_=>rfl) (aC rfl) kC<|fL aE.e) rfl) rfl (λv=>[Y (.al,.str v)]) (λv _=>rfl)<|λv u=>v_add (aC rfl) aN.e (by have:=j v<|A v u;have:("x":U).length=1:=rfl;omega)) (by rw[add_list (by simp only[am];omega),<-cr])<|jG _)};rcases bg.mp H with h|h
 .exact(j v h).2
 .let{z,W,rfl}:=ci.mp h;exact EM (j z<|A z W).1 (j z<|A z W).2
def yw (d:Ev Κ Φ a ρ x)(e:Ev Κ Φ b ρ y)(f:Ev Κ Φ c ρ z)(h:cmpD i x y=.ok k)(j:cmpD g y z=.ok l):Vv Κ Φ (.chain i g a b c) ρ (.bool<|k&&l):=by
 let{m,d}:=d;let{g2,e}:=e;let{n,f}:=f;refine{?_,rfl};rw[Sv,d,Res.aB,e,Res.aB];rw[h,Res.aB];cases k with
 |true=>rw[f,Res.aB,j];rfl
 |false=>rfl
def len_str (h:w.length<=LIM):gP "len" [.str w]=.ok (.int (w.length:Int)):=by show(if w.length<=LIM then _ else _)=_;rw[qq h]
def Uy (h:Κ[k]?=Y d)(a:imm d=J):Vv Κ Φ (.glob k x) ρ d:=by
 refine{?_,a};show(match Κ[k]? with|some d=>if imm d=J then Res.ok (G.fr,d)else .no|none=>.no)=_;rw[h]
 dsimp only
 rw[qq a]
theorem EN:∀bs,allB (bs.map .bool)=Y bs
 | []=>rfl
 |b::bs=>by rw[bu];show(allB<|bs.map .bool).map (b:: ·)=_;rw[EN bs];rfl
def isn (w:U):Bool:=(decide ((1:Int)<=w.length)&&decide ((w.length:Int)<=12))&&(w[[]].all p1&& !pB w)
def rG (a b:Nat):decide ([a]< [b])=decide (a<b):=by
 rw[decide_eq_decide];constructor
 .intro h;cases h with
  |rel h=>exact h
  |cons h=>ext h
 .exact λh=>.rel h
def Kz (b:w.length<=LIM):F_z0 [.str w]=.ok (.fr,.bool<|isn w):=by
 refine eC ?_;have g:z54 (.str w)=.ok (w[[]].map λc=>ZX {#[c]}):=by show(if w.length<=LIM then _ else _)=_;rw[qq b]
 have d:=z4d (Κ:=[(.tuple [(.str "and"),(.str "or"),(.str "not"),(.str "if"),(.str "is"),(.str "some"),(.str "all"),(.str "for"),(.str "against")])]) (Φ:=[]) (ρ:=[Y (.od,.str w)]) (nt:=1) (js:=[]) (N':=["sign"]) (tg:=.nm 0) (it:=.tv<|.var 0) (elt:=.chain .LtE .LtE (.str "a") (.var 0)<|.str "z") (λ_=>J) (λc=>.bool<|p1 c) (fI (v_var rfl rfl).1 g) rfl (λc=>[Y (.al,.str {#[c]})]) (λc _=>rfl) (λc _=>uc)
  (λc _ _=>by
   refine yw aN.e (aC rfl) aN.e ?_ ?_
   .show Res.ok (!decide ([c]< [97]))=_;rw[rG,<-decide_not]
    congr 1
    rw[decide_eq_decide];omega
   .show Res.ok (!decide ([122]< [c]))=_;rw[rG,<-decide_not]
    congr 1
    rw[decide_eq_decide];omega)
 rw[fv.mpr λ_ _=>rfl]at d;have h:aggD "all" J (w[[]].map λc=>ZS<|p1 c)=.ok (.bool<|w[[]].all p1):=by have f:=EN<|w[[]].map p1;rw[dw]at f;show Res.gF ((allB<|w[[]].map λc=>ZS<|p1 c).map λbs=>ZS<|bs.all id)=_;rw[show(w[[]].map λc=>ZS<|p1 c)=w[[]].map (ZS∘p1)from rfl,f];show Res.ok (ZS<|(w[[]].map p1).all id)=_;rw[ml];rfl
 refine bR<|dJ ?_;exact v_and (k:=J) (mG (Κ:=[(.tuple [(.str "and"),(.str "or"),(.str "not"),(.str "if"),(.str "is"),(.str "some"),(.str "all"),(.str "for"),(.str "against")])]) (Φ:=[]) (ρ:=[Y (.od,.str w)]) (a:=.var 0) (ts:=["str"])<|aC rfl).e λ_=>v_and (yw aE.e (cF (aW (aC rfl) bE) (len_str b) rfl).e aE.e rfl rfl).e λ_=>v_and (DW (Ev.of d) rfl h rfl).e λ_=>cL (aC rfl) (Uy rfl rfl).e rfl
def ac (c:Nat):Bool:=decide (c<128)&& !(c==10)
def oM (w:U):Prop:=Ch ac w
theorem yx (h:Ch p1 w):oM w:=h.weak λc z=>by unfold p1 at z;unfold ac;rw[aj,decide_eq_true_eq,decide_eq_true_eq]at z;rw[aj,decide_eq_true_eq];exact{by omega,by simp;omega}
theorem Uz (h:w[[]].all ac=J):oM w:=λc a=>bc.mp h c a
def UA (h:oM w):ZY w=true:=by unfold ZY;rw[<-j7,bc];intro c a;have:=h c a;unfold ac at this;rw[aj,decide_eq_true_eq]at this;simp;omega
theorem UB (h:oM w):10∉w[[]]:=λz=>by have:=h 10 z;revert this;decide
theorem EO (h:Ch p1 w):32∉w[[]]:=λz=>by have:=h 32 z;revert this;decide
def vy (z:U):U:={(z[[]].map (· -32)).toArray}
def ER (h:Ch p1 w)(b:w.length<=100):zu (.str w)=.ok (.str<|vy w):=by show(if(w[[]].all (λc=>decide (97<=c)&&decide (c<=122))&&decide (w.length<=LIM))=J then _ else _)=_;have a:w[[]].all (λc=>decide (97<=c)&&decide (c<=122))=true:=bc.mpr h;rw[a,qx (by unfold LIM;omega)];rfl
def UC (w:U):(vy w).length=w.length:=by show((w[[]].map (· -32)).toArray).size=_;rw[br,am];rfl
def UD (b:Ev Κ Φ a c<|.str w)(h:Ch p1 w)(e:w.length<=100):Vv Κ Φ (.uQ a) c (.str<|vy w):=by let{g,b}:=b;refine{?_,rfl};show(aJ Κ Φ a c>>=λx=>zu x.2>>=λd=>Res.ok (G.fr,d))=_;rw[b,Res.aB,ER h e];rfl
theorem KA:∀n (a:List U),jP (n+1) (a.map .str)=J
 |_,[]=>rfl
 |n,s::a=>by show(cO (n+1) (.str s)&&jP (n+1) (a.map .str))=J;rw[KA n a];rfl
def KC (w:U)(a:List U):inD (.str w) a[_]=.ok (decide (w∈a)):=by
 show(if(cO 40 (.str w)&&jP 40 (a.map .str))=J then Res.ok _ else .no)=_;rw[KA 39 a];show Res.ok _=_
 congr 1
 rw[List.any_map,i3,j9,decide_eq_true_iff];constructor
 .rintro⟨x,b,e⟩
  have e:bX (.str x) (.str w)=true:=e;rw[iV,decide_eq_true_eq]at e;rw[<-e];exact b
 .exact λh=>{w,h,by show bX (.str w) (.str w)=J;rw[iV];simp}
def ES:isn ""=false:=by decide+kernel
theorem KG:∀a,zipD a a=a.map λe=>.tuple [e,e]
 | []=>rfl
 |x::a=>by show ZV [x,x]::zipD a a=_;rw[KG a];rfl
def UE (h:imms a=J)(b:e∈a):imm e=true:=by
 induction a with
 |nil=>ext b
 |cons x a c=>
  have h:(imm x&&imms a)=true:=h;rw[aj]at h;rcases ak.mp b with rfl|b
  .exact h.1
  .exact c h.2 b
def nK (k:Nat)(s:U):gX (k+1) [.str s,.str s]=.ok (.fr,.bool J):=by refine eC<|iU (aT (mG<|aC rfl).e rfl) rfl<|bR<|dJ<|v_and (mG (x:=.str s)<|aC rfl).e λ_=>cL (aC rfl) (aC rfl) ?_;show Res.ok (bX (.str s)<|.str s)=_;rw[iV];simp
def ET (k:Nat)(i:Int):gX (k+1) [.int i,.int i]=.ok (.fr,.bool J):=by refine eC<|gK (aT (mG<|aC rfl).e rfl) rfl<|iU (aT (mG<|aC rfl).e rfl) rfl<|bR<|dJ<|v_and (mG (x:=.int i)<|aC rfl).e λ_=>v_and (v_not (mG (x:=.int i)<|aC rfl).e rfl).e λ_=>cL (aC rfl) (aC rfl) ?_;show Res.ok (bX (.int i)<|.int i)=_;rw[Ai];simp
def vz (b:x=.tuple a\/x=.list a)(f:imms a=J)(A:a.length<=100)(s:∀e∈a,gX k [e,e]=.ok (.fr,.bool J)):gX (k+1) [x,x]=.ok (.fr,.bool J):=by
 refine eC ?_
 let Q:Res Out->Prop:=λr=>r=.ok (.rt .fr<|.bool J)
 show Q _
 have sq:seqR x=.ok a:=by
  rcases b with rfl|rfl
  .show(if decide (a.length<=LIM)=J then _ else _)=_;rw[qq<|qx (by unfold LIM;omega)]
  .show(if decide (a.length<=LIM)=J then _ else _)=_;rw[qq<|qx (by unfold LIM;omega)]
 have o:gP "len" [x]=.ok (.int a.length):=by rcases b with rfl|rfl<;>rfl
 have t:Tt [] [gX k] (.or (.tv<|.cmp .NotEq (.eI (.var 1) ["tuple"])<|.eI (.var 0) ["tuple"])<|.tv<|.cmp .NotEq (.eI (.var 1) ["list"])<|.eI (.var 0) ["list"]) [Y (.od,x),Y (.od,x),Z8,Z8] (Z6||Z6):=by rcases b with rfl|rfl<;>exact gT (aT (cL (mG<|aC rfl).e (mG<|aC rfl).e rfl).e rfl) λ_=>aT (cL (mG<|aC rfl).e (mG<|aC rfl).e rfl).e rfl
 refine qZ (by rcases b with rfl|rfl<;>exact aT (mG<|aC rfl).e rfl) rfl (qZ (by rcases b with rfl|rfl<;>exact aT (mG<|aC rfl).e rfl) rfl<|qZ t rfl<|qZ (aT (cL (cF (aW (aC rfl) bE) o rfl).e (cF (aW (aC rfl) bE) o rfl).e (by show Res.ok (!bX (.int _) (.int _))=_;rw[Ai];simp)).e rfl) rfl ?_)
 have ev:∀i,i<2->∃g,aJ [] [gX k] (.var i) [Y (.od,x),Y (.od,x),Z8,Z8]=.ok (g,x)/\oA (g,x)=true:=λi h=>by
  rcases b with rfl|rfl
  .rcases i with _|_|i
   .exact{.fr,(v_var (d:=.tuple a) rfl f).1,rfl}
   .exact{.fr,(v_var (d:=.tuple a) rfl f).1,rfl}
   .omega
  .rcases i with _|_|i
   .exact{_,rfl,rfl}
   .exact{_,rfl,rfl}
   .omega
 let{B,u,v}:=ev 0 ZP;let{C,w,y}:=ev 1 ZP;have p:=De u w v y sq sq;rw[KG]at p;refine zhq p (λpre j=>∃l m,j=[Y (.od,x),Y (.od,x),l,m]) {(Z8),Z8,rfl} ?_ ?_
 .rintro pre e q j n ⟨l,m,rfl⟩
  have hm:e∈a:=by rw[n];simp
  have c:=UE f hm;refine{[Y (.od,x),Y (.od,x),Y (.al,e),Y (.al,e)],?_,.inl ?_}
  .have z:gJ (.tuple [e,e]) .al=.fr:=nG (by show(imm e&&(imm e&&J))=J;rw[c];rfl);rw[z];show Res.ok [Y (.od,x),Y (.od,x),Y<|mZ (gJ e .fr,e),Y<|mZ (gJ e .fr,e)]=_;rw[nG c];rfl
  .exact{_,gK (qP<|aT (eO (aW (v_var rfl c).e<|aW (v_var rfl c).e bE) rfl (s e hm) rfl).e rfl) rfl iH,_,_,rfl}
 .rintro j ⟨l,m,rfl⟩
  exact bR (dJ iG)
theorem Ay (d:gX k [a,a]=.ok (.fr,.bool J))(f:gX k [b,b]=.ok (.fr,.bool J))(g:imms [a,b]=J):gX (k+1) [.tuple [a,b],.tuple [a,b]]=.ok (.fr,.bool J):=vz (.inl rfl) g (show 2<=100 by decide) λe c=>by
 rcases ak.mp c with rfl|c
 .exact d
 .rw[ai.mp c];exact f
theorem UG (s:U):toS s[[]]=s:=pQ (by show s[[]].toArray.toList=_;simp)
theorem KH:∀{a:List Nat},x∉a->aX x a=[a]
 | [],_=>rfl
 |c::a,h=>by unfold aX;rw[qr<|λz=>h (by rw[z];exact ar),KH λz=>h<|ao _ z]
theorem KI:∀{a b:List Nat},x∉a->aX x (a++x::b)=a::aX x b
 | [],b,_=>by show(if x=x then[]::aX x b else _)=_;rw[qq rfl]
 |c::a,b,h=>by show(if c=x then[]::aX x (a++x::b)else match aX x (a++x::b)with|h::t=>(c::h)::t| []=>[[c]])=_;rw[qr<|λz=>h (by rw[z];exact ar),KI λz=>h<|ao _ z]
def iW (c:Nat)(x y:U)(r:List U):eN [c] (x::y::r)=x[[]]++c::eN [c] (y::r):=by show x[[]]++(List.map (λp:U=>[c]++p[[]]) (y::r)).flatten=_;rw[bu];rfl
theorem KJ:∀r x,(∀s∈x::r,c∉s[[]])->aX c (eN [c] (x::r))=(x::r).map λs=>s[[]]
 | [],x,h=>by show aX c (x[[]]++[])=_;rw[b7,KH<|h x ar];rfl
 |y::r,x,h=>by rw[iW,KI<|h x ar,KJ r y λs hs=>h s<|ao _ hs];rfl
def Az (a:z[[]]=[c])(b:∀r∈rs,c∉r[[]])(hn:rs≠[]):spW c (z0u z rs)=rs:=by
 cases rs with
 |nil=>exact absurd rfl hn
 |cons x r=>unfold spW;rw[oY,a,KJ r x b,dw];have:(toS∘λs:U=>s[[]])=id:=funext UG;rw[this,nj]
def UH:("\n":U)[[]]=[10]:=by decide+kernel
def sF:(" ":U)[[]]=[32]:=by decide+kernel
theorem AA:∀{rs:List U} {c:Nat},c∈eN [x] rs->c=x\/∃r∈rs,c∈r[[]]
 | [],c,h=>by ext h
 | [y],c,h=>by have h:c∈y[[]]++[]:=h;rw[b7]at h;exact .inr {(y),ar,h}
 |y::z::r,c,h=>by
  rw[iW]at h;rcases bg.mp h with h|h
  .exact .inr {(y),ar,h}
  .rcases ak.mp h with h|h
   .exact .inl h
   .rcases AA h with h|⟨q,a,h⟩
    .exact .inl h
    .exact .inr {q,ao _ a,h}
theorem AB:∀{rs:List U},(∀r∈rs,r.length<=n)->(eN [x] rs).length<=(n+1)*rs.length
 | [],_=>ag _
 | [y],h=>by show(y[[]]++[]).length<=_;rw[b7,<-vt];have:=h y ar;simp;omega
 |y::z::r,h=>by rw[iW,ax,ay,<-vt,ay,Nat.mul_succ];have:=h y ar;have:=AB (x:=x) λs hs=>h s<|ao _ hs;omega
theorem EU:∀{rs:List U},(∀r∈rs,r.length<=n)->(rs.map (·.length)).sum<=n*rs.length
 | [],_=>ag _
 |x::r,h=>by rw[bu,on,ay,Nat.mul_succ];have:=h x ar;have:=EU λs hs=>h s<|ao _ hs;omega
structure mM (r:U):Prop where
 asc:oM r
 len:r.length<=11800
def UI (h:∀w∈ws,oM w/\w.length<=13)(e:ws.length<=14):mM (z0u " " ws):=by
 refine{λc a=>?_,?_}
 .rw[oY]at a;rcases AA a with rfl|⟨w,b,a⟩
  .decide
  .exact(h w b).1 c a
 .rw[vt,oY,sF];have:=AB (x:=32) λr d=>(h r d).2;omega
def UJ (h:∀c∈w[[]],c<128):ZY w=true:=by unfold ZY;rw[<-j7,bc];intro c a;have:=h c a;simp;omega
def UK (h:ac c=J):c<128:=by unfold ac at h;rw[aj,decide_eq_true_eq]at h;exact h.1
theorem UL (b:∀r∈rs,mM r):ZY (z0u "\n" rs)=true:=UJ λc a=>by
 rcases AA a with rfl|⟨r,h,a⟩
 .decide
 .exact UK ((b r h).asc c a)
def UM (c:z.length=1)(h:∀r∈rs,r.length<=n)(hn:n<=12000)(d:rs.length<=20):pJ z rs<=LIM:=by unfold pJ;have a:=EU h;have b:=Nat.mul_le_mul hn d;rw[c];unfold LIM;omega
def iP (c:Nat):Bool:=decide (48<=c)&&decide (c<=57)
def nfg (w:U):Option Int:=if(1<=w[[]].length/\w[[]].length<=31)/\w[[]].all iP=J/\¬(w[[]].head?=Y 48/\1<w[[]].length)then Y (iD w[[]]:Int)else Z8
def UN (h:1<=l.length)(b:l.all iP=J):nX l=true:=by
 unfold nX;rw[show(l.all λc=>decide (48<=c)&&decide (c<=57))=l.all iP from rfl,b];cases l with
 |nil=>exact absurd h dc
 |cons a r=>rfl
def EV (a:1<=w.length)(c:w.length<=31)(b:w[[]].all iP=J):gP "int" [.str w]=.ok (.int (iD w[[]]:Int)):=by show qG w=_;unfold qG;rw[UN (dv▸a) b,qx (show w.length<=600 by omega)];rfl
def KN (h:w[[]]=c::r)(hl:w.length<=1000):iC (.str w) (.int 0)=.ok (.str {#[c]}):=by
 have h1:0<w.length:=by have:=congrArg gq h;rw[dv]at this;show 0<w.cps.size;rw[this];simp_all
 rw[uP ZP ZQ hl];show Res.ok (ZX {#[w[[]].getD 0 0]})=_;rw[h];rfl
def KO (c d:Nat):cmpD .Eq (.str {#[c]}) (.str {#[d]})=.ok (decide (c=d)):=by
 show Res.ok (({#[c]}:U)=={#[d]})=_
 congr 1
 rw[i3,beq_iff_eq,decide_eq_true_iff];constructor
 .intro h;have:=congrArg (λs:U=>s[[]]) h;simpa using this
 .intro h;rw[h]
def str_len (w:U):w[[]].length=w.length:=by rw[dv];rfl
def UO (i:w.length<=LIM):yi [.str w]=.ok (.fr,optD<|nfg w):=by
 refine eC ?_;have wl:=str_len w;have j:∀{ρ:Rho},ρ[0]?=Y (Y (.od,.str w))->Vv [] [] (.bi "len"<|.cons (.var 0) .nil) ρ (.int w.length):=λh=>cF (aW (aC h) bE) (len_str i) rfl;have k:Tt [] [] (.not<|.tv<|.chain .LtE .LtE (.int 1) (.bi "len"<|.cons (.var 0) .nil)<|.int 31) [Y (.od,.str w)] (!(decide ((1:Int)<=w.length)&&decide ((w.length:Int)<=31))):=qP<|aT (yw aE.e (j rfl).e aE.e rfl rfl).e rfl;unfold nfg;by_cases f:1<=w.length/\w.length<=31
 .refine gK k (by rw[qx (show(1:Int)<=w.length by omega),qx (show(w.length:Int)<=31 by omega)];rfl) ?_;have q:z54 (.str w)=.ok (w[[]].map λc=>ZX {#[c]}):=by show(if w.length<=LIM then _ else _)=_;rw[qq i]
  have l:=z4d (Κ:=[]) (Φ:=[]) (ρ:=[Y (.od,.str w)]) (nt:=1) (js:=[]) (N':=["sign"]) (tg:=.nm 0) (it:=.tv<|.var 0) (elt:=.chain .LtE .LtE (.str "0") (.var 0)<|.str "9") (λ_=>J) (λc=>.bool<|iP c) (fI (v_var rfl rfl).1 q) rfl (λc=>[Y (.al,.str {#[c]})]) (λ_ _=>rfl) (λ_ _=>uc)
   (λc _ _=>by
    refine yw aN.e (aC rfl) aN.e ?_ ?_
    .show Res.ok (!decide ([c]< [48]))=_;rw[rG,<-decide_not]
     congr 1
     rw[decide_eq_decide];omega
    .show Res.ok (!decide ([57]< [c]))=_;rw[rG,<-decide_not]
     congr 1
     rw[decide_eq_decide];omega)
  rw[fv.mpr λ_ _=>rfl]at l;have s:aggD "all" J (w[[]].map λc=>ZS<|iP c)=.ok (.bool<|w[[]].all iP):=by have m:=EN<|w[[]].map iP;rw[dw]at m;show Res.gF ((allB<|w[[]].map λc=>ZS<|iP c).map λbs=>ZS<|bs.all id)=_;rw[show(w[[]].map λc=>ZS<|iP c)=w[[]].map (ZS∘iP)from rfl,m];show Res.ok (ZS<|(w[[]].map iP).all id)=_;rw[ml];rfl
  have n:=qP<|aT (DW (Ev.of l) rfl s rfl).e rfl;by_cases d:w[[]].all iP=J
  .refine gK n (by rw[d];rfl) ?_
   obtain⟨c,r,o⟩:∃c r,w[[]]=c::r:=by
    cases e:w[[]] with
    |nil=>rw[e]at wl;simp at wl;omega
    |cons c r=>exact{(c),r,rfl}
   have p:Tt [] [] (.and (.tv<|.cmp .Eq (.ix (.var 0)<|.int 0)<|.str "0")<|.tv<|.cmp .Gt (.bi "len"<|.cons (.var 0) .nil)<|.int 1) [Y (.od,.str w)] (decide (c=48)&&decide ((1:Int)<w.length)):=eP (aT (cL (aO (aC rfl) aE.e (KN o ZQ) rfl).e aN.e<|KO c 48).e rfl) λ_=>aT (cL (j rfl).e aE.e rfl).e rfl
   have hh:(w[[]].head?=Y 48/\1<w.length)↔(decide (c=48)&&decide ((1:Int)<w.length))=true:=by
    rw[o,List.head?_cons,aj,decide_eq_true_eq,decide_eq_true_eq,Option.some.injEq];constructor
    .rintro⟨a,b⟩;exact{a,by omega}
    .rintro⟨a,b⟩;exact{a,by omega}
   by_cases g:w[[]].head?=Y 48/\1<w.length
   .rw[qr<|λz=>z.2.2 g];exact iU p (hh.mp g) (bR<|dJ zX)
   .rw[qq {(f),d,g}];exact gK p (eq_false_of_ne_true λz=>g<|hh.mpr z) (bR<|dJ<|cF (aW (aC rfl) bE) (EV f.1 f.2 d) rfl)
  .rw[qr<|λz=>d z.2.1];exact iU n (by rw[eq_false_of_ne_true d];rfl) (bR<|dJ zX)
 .rw[qr<|λz=>f z.1];refine iU k ?_<|bR<|dJ zX;rw[lr,Bool.and_eq_false_iff,decide_eq_false_iff_not,decide_eq_false_iff_not];omega
def EX:nfg ""=none:=by decide+kernel
def KP (h:NW w):isn w=true:=by unfold isn;rw[qx (show(1:Int)<=w.length by have:=h.l1;omega),qx (show(w.length:Int)<=12 by have:=h.l2;omega),bc.mpr h.ch,h.kp];rfl
def UP (h:isn w=J):Ch p1 w:=by unfold isn at h;rw[aj]at h;have h:=h.2;rw[aj,bc]at h;exact h.1
theorem sX (w:U)(ws:List U):Mi.pk (w::ws) 0=w:=rfl
theorem EY (p:Nat):Mi.pk [] p="":=rfl
def lG (h:ws.drop p=x::r):Mi.pk ws p=x/\ws.drop (p+1)=r:=by
 constructor
 .unfold Mi.pk;have e:=congrArg (λl=>l[0]?) h;rw[lc]at e;rw[ah,show p=p+0 from rfl,e];rfl
 .rw[<-j3,h];rfl
def EZ (h:ws.drop p=[]):Mi.pk ws p="":=by unfold Mi.pk;rw[ah,gh<|List.drop_eq_nil_iff.mp h];rfl
section
variable {nb:U->Bool}{ws:List U}
theorem zeq:∀ns k p c sd rest,ws.drop p=ns++rest->(∀w∈ns,nb w=J)->nb (Mi.pk rest 0)=Z6->ns.length<=k->c.Nodup->
  ug nb ws k p c sd=if(c++ns).Nodup then Y (c++ns,p+ns.length,sd++ns.map λw=>eS w OFT)else Z8
 | [],k,p,c,sd,rest,hd,_,f,_,d=>by
  rw[b7,qq d];cases k with
  |zero=>show Y (c,p,sd)=Y (c,p+0,sd++[]);rw[b7];rfl
  |succ k=>
   have e:Mi.pk ws p=Mi.pk rest 0:=by
    cases rest with
    |nil=>rw[EZ<|by simpa using hd];rfl
    |cons x r=>exact(lG (x:=x)<|by simpa using hd).1
   show(if nb (Mi.pk ws p)=J then _ else Y (c,p,sd))=Y (c,p+0,sd++[]);rw[e,f,b7];rfl
 |w::ns,k,p,c,sd,rest,hd,hn,f,hk,d=>by
  cases k with
  |zero=>ext hk
  |succ k=>
   let{e,g}:=lG hd;show(if nb (Mi.pk ws p)=J then(if Mi.pk ws p∈c then Z8 else ug nb ws k (p+1) (c++[Mi.pk ws p])<|sd++[eS (Mi.pk ws p) OFT])else Y (c,p,sd))=_;rw[e,qq<|hn w ar];by_cases hm:w∈c
   .rw[qq hm,qr];intro nd;rw[jc]at nd;exact nd.2.2 w hm w ar rfl
   .have h:(c++[w]).Nodup:=by
     rw[jc];exact{d,iz.mpr {(nofun),List.nodup_nil},λa d b i e=>by rw[ai.mp i]at e;exact hm<|e▸d}
    rw[qr hm,zeq ns k (p+1) (c++[w]) _ rest g (λz j=>hn z<|ao _ j) f (ek hk) h];have l:c++[w]++ns=c++w::ns:=by simp
    rw[l,show p+1+ns.length=p+(ns.length+1) by omega,jb];rfl
def z4x (hd:ws.drop p=ns++rest)(hn:∀w∈ns,nb w=J)(a:nb (Mi.pk rest 0)=Z6):
  z1l nb ws p sd=if ns.Nodup then Y (ns,p+ns.length,sd++ns.map λw=>eS w OFT)else none:=by
 have b:=congrArg gq hd;rw[df,ax]at b;have:=zeq ns (ws.length-p) p [] sd rest hd hn a ZQ List.nodup_nil;exact this
end
def yy (w:U)(a b:List U):D:=.tuple [.str "open",.str w,.tuple<|a.map .str,.tuple<|b.map .str]
def pS (w:U)(a b:List U):List U:=("open":U)::w::("for":U)::(a++("against":U)::b)
def AD (h:w∈nR):isn w=false:=by unfold isn;rw[(Ax w).mpr h];simp
def UQ:dA isn nf (("open":U)::w::t) a []=iK isn (("open":U)::w::t) a 1 []:=by unfold dA;rw[sX,qr dc,qq rfl]
def zhc (e:isn w=J)(f:∀x∈a,isn x=J)(g:∀x∈b,isn x=J)(h:isn (Mi.pk rest 0)=Z6)(i:cntO ks≠4):
  iK isn (("open":U)::w::("for":U)::(a++("against":U)::(b++rest))) ks 1 []=if a.Nodup/\b.Nodup then Y (yy w a b,4+a.length+b.length,(a++b).map λw=>eS w OFT)else none:=by
 unfold iK;rw[qr i,show Mi.pk (("open":U)::w::("for":U)::(a++("against":U)::(b++rest))) 1=w from rfl,qq e,show Mi.pk (("open":U)::w::("for":U)::(a++("against":U)::(b++rest))) (1+1)=("for":U)from rfl,qq rfl];rw[z4x (rest:=("against":U)::(b++rest)) rfl f<|AD (w:="against") dc];by_cases c:a.Nodup
 .rw[qq c];have hd:(("open":U)::w::("for":U)::(a++("against":U)::(b++rest))).drop (1+2+a.length)=("against":U)::(b++rest):=by rw[<-j3];show(a++("against":U)::(b++rest)).drop a.length=_;rw[nk]
  let{j,k}:=lG hd
  dsimp only
  rw[j,qq rfl,z4x k g h];by_cases d:b.Nodup
  .rw[qq d,qq {(c),d}];rw[show 1+2+a.length+1+b.length=4+a.length+b.length by omega,List.nil_append,<-cr];rfl
  .rw[qr d,qr λz=>d z.2]
 .rw[qr c,qr λz=>c z.1]
section
variable {nf:U->Option Int}{ks:List<|U×U}{w:U}{a b:List U}
def UR:(pS w a b).length=4+a.length+b.length:=by unfold pS;simp;omega
def zen (c:isn w=J)(d:∀x∈a,isn x=J)(e:∀x∈b,isn x=J)(f:cntO ks≠4):
  rdRw isn nf (pS w a b) ks []=if a.Nodup/\b.Nodup then Y (yy w a b,4+a.length+b.length,(a++b).map λw=>eS w OFT)else none:=by
 unfold rdRw;have:=zhc (rest:=[]) c d e ES f;rw[b7]at this;rw[show pS w a b=("open":U)::w::(("for":U)::(a++("against":U)::b))from rfl,UQ,this];by_cases h:a.Nodup/\b.Nodup
 .rw[qq h]
  dsimp only
  rw[qr];have:=UR (w:=w) (a:=a) (b:=b);unfold pS at this;omega
 .rw[qr h]
end
def KQ (c:Ev [] Φ a ρ x)(e:Ev [] Φ b ρ y)(h:cW f x y=.ok d):Ev [] Φ (.bin f a b) ρ d:=by let{g,c}:=c;let{i,e}:=e;exact{gN d<|cP [(g,x),(i,y)],by rw[DR,c,Res.aB,e,Res.aB];dsimp only;rw[h];rfl}
def AE (h:Aa [] Φ a ρ b):Ev [] Φ (.lst a) ρ (.list b):=by let{c,d,e}:=h;exact{cP c,by rw[Jl,d,Res.aB,e]}
theorem KR (a:List U):(a.map ZX:List D).length=a.length:=am _
theorem E1 {b:List U}(c:Ev [] Φ t ρ a[_])(d:Ev [] Φ u ρ b[_])(e:a.length+b.length<=1000):Ev [] Φ (.bin .Add t u) ρ (.list<|(a++b).map .str):=KQ c d (by rw[add_list (by rw[KR,KR];exact e),<-cr])
structure Wd (x:U):Prop where
 asc:oM x
 no:32∉x[[]]
 len:x.length<=13
theorem NW.wd (h:NW x):Wd x:={yx h.ch,EO h.ch,by have:=h.l2;omega}
theorem US (o x:U)(r:List U)(ob:U)(h:ob[[]]=o[[]]++[32]):ob++z0u " " (x::r)=z0u " " (o::x::r):=pQ (by rw[dS,oY,oY,sF,iW,h];simp)
theorem zds:∀{ks:List<|U×U} {nm:U},nm∉ks.map (·.1)->lkG ks nm=Z8
 | [],nm,_=>rfl
 |y::ks,nm,h=>by rw[bu,ak,not_or]at h;have a:=zds h.2;unfold lkG at a ⊢;rw[dt,qy<|λz=>h.1 z.symm];exact a
theorem rH:∀{ks:List<|U×U} {nm k:U},(ks.map (·.1)).Nodup->(nm,k)∈ks->lkG ks nm=Y k
 |y::ks,nm,k,hd,h=>by
  rw[bu,iz]at hd;unfold lkG;rw[dt];rcases ak.mp h with rfl|h
  .rw[qx rfl];rfl
  .rw[qy<|λz=>hd.1 (by rw[z];exact ci.mpr {_,h,rfl})];exact rH hd.2 h
section
variable {ks:List<|U×U}{kn:List U}{n5:U}{j:Nat}{nf:U->Option Int}
theorem KS:iL isn nf k a ks (r::rs)=(if k=24 then Rx.row k else match rdRw isn nf (spW 32 r) ks []with
 |none=>.row k
 |some (d,_,sd)=>if cJ ks (Mi.pk (spW 32 r) 1)=J then .tw (Mi.pk (spW 32 r) 1)else match bU ks sd with
  |some u=>.un u
  |none=>iL isn nf (k+1) (a++[d]) (ks++[(Mi.pk (spW 32 r) 1,Mi.pk (spW 32 r) 0)]) rs):=rfl
def uq (hk:k≠24)(b:spW 32 r=ws)(h:rdRw isn nf ws ks []=Y (d,p,sd))(hh:cJ ks (Mi.pk ws 1)=Z6)(hu:bU ks sd=Z8):iL isn nf k a ks (r::rs)=iL isn nf (k+1) (a++[d]) (ks++[(Mi.pk ws 1,Mi.pk ws 0)]) rs:=by
 rw[KS,qr hk,b,h]
 dsimp only
 rw[hh,hu];rfl
def E2 (h:isn n=J):rdRw isn nf ["fact",n] ks []=Y (.tuple [.str "fact",.str n],2,[]):=by unfold rdRw dA;rw[show Mi.pk ["fact",n] 0="fact"from rfl,qq rfl,show Mi.pk ["fact",n] 1=n from rfl,qq h];rfl
def KU (n:U):D:=.tuple [.str "at",.str n,.int 1]
end
def ur (h:nm∉ks.map (·.1)):cJ ks nm=false:=by unfold cJ;rw[zds h];rfl
inductive Un where
 |no|so|al
inductive Tr where
 |bO (n f:U)|bP (n:U)|un (u:Un) (t:Tr)|two (o:Bool) (a b:Tr)
def opS (o:Bool):U:=if o then "and"else "or"
def eJ:Un->U
 |.no=>"not"
 |.so=>"some"
 |.al=>"all"
def Tr.ws:Tr->List U
 |.bO n f=>[n,">=",f]
 |.bP n=>[n]
 |.un u t=>eJ u::t.ws
 |.two o a b=>"("::(a.ws++opS o::(b.ws++[(")":U)]))
def Tr.dp:Tr->Nat
 |.bO _ _=>1
 |.bP _=>1
 |.un _ t=>t.dp+1
 |.two _ a b=>max a.dp b.dp+1
def Tr.sy:Tr->List D
 |.bO n _=>[eS n<|.tuple [.str "fact"]]
 |.bP n=>[eS n OFT]
 |.un _ t=>t.sy
 |.two _ a b=>a.sy++b.sy
def nmOk (nf:U->Option Int)(f:U):Option Int:=match nf f with
 |some k=>if 1<=k/\k<=10 ^ 30 then Y k else Z8
 |none=>Z8
def Tr.lk (nf:U->Option Int)(ks:List<|U×U):Tr->D
 |.bO n f=>.tuple [.str "at",.str n,.int<|(nf f).getD 0]
 |.bP n=>if lkG ks n=Y ("fact":U)then .tuple [.str "at",.str n,.int 1]else .tuple [.str "is",.str n]
 |.un u t=>.tuple [.str<|eJ u,t.lk nf ks]
 |.two o a b=>.tuple [.str<|opS o,a.lk nf ks,b.lk nf ks]
def Tr.ok (nf:U->Option Int):Tr->Bool
 |.bO _ f=>(nmOk nf f).isSome
 |.bP _=>J
 |.un _ t=>t.ok nf
 |.two _ a b=>a.ok nf&&b.ok nf
def Tr.nms:Tr->List U
 |.bO n _=>[n]
 |.bP n=>[n]
 |.un _ t=>t.nms
 |.two _ a b=>a.nms++b.nms
def Tr.wf:Tr->Bool->Bool
 |.bO _ _,m=>!m
 |.bP _,m=>!m
 |.un .no t,m=>t.wf m
 |.un _ t,m=>m&&t.wf Z6
 |.two _ a b,m=>a.wf m&&b.wf m
def KW (o:Bool):opS o="and"\/opS o="or":=by ext o<;>simp[opS]
def UT (u:Un):u=.no\/(eJ u="some"\/eJ u="all")/\∀t m,(Tr.un u t).wf m=(m&&t.wf Z6):=by
 cases u with
 |no=>exact .inl rfl
 |so=>exact .inr {.inl rfl,λ_ _=>rfl}
 |al=>exact .inr {.inr rfl,λ_ _=>rfl}
section
variable {nb:U->Bool}{nf:U->Option Int}{ws:List U}{ks:List<|U×U}
def E3 [Decidable P]:fN x (if P then Y (d,q,s)else Z8)=if P then Y (.tuple [.str x,d],q,s)else none:=by split<;>rfl
def rdM (nb:U->Bool)(nf:U->Option Int)(ws:List U)(ks:List<|U×U)(m:Bool)(r p:Nat)(sd:List D):Ro:=if m=J then z1p nb nf ws ks r p sd else z18 nb nf ws ks r p sd
theorem vA:z18 nb nf ws ks (r+1) p sd=if Mi.pk ws p="not"then fN "not" (z18 nb nf ws ks r (p+1) sd)else if Mi.pk ws p="("then kJ ws (z18 nb nf ws ks r) p sd else iJ nb nf ws ks p sd:=rfl
theorem yz:z1p nb nf ws ks (r+1) p sd=if Mi.pk ws p="("then kJ ws (z1p nb nf ws ks r) p sd else if Mi.pk ws p="not"then fN "not" (z1p nb nf ws ks r (p+1) sd)else if Mi.pk ws p="some"\/Mi.pk ws p="all"then fN (Mi.pk ws p) (z18 nb nf ws ks r (p+1) sd)else none:=rfl
def zrd (h1:nb "not"=Z6)(h2:nb "("=Z6)(h3:nb "some"=Z6)(h4:nb "all"=Z6):∀(t:Tr) m r p sd rest,ws.drop p=t.ws++rest->(∀n∈t.nms,nb n=J)->Mi.pk rest 0≠(">=":U)->
  rdM nb nf ws ks m r p sd=if(t.dp<=r/\t.ok nf=J)/\t.wf m=J then Y (t.lk nf ks,p+t.ws.length,sd++t.sy)else none:=by
 have ne:∀{n x:U},nb n=J->nb x=Z6->n≠x:=λa b e=>by rw[e,b]at a;ext a
 have z0:∀(t:Tr) m p sd,rdM nb nf ws ks m 0 p sd=if(t.dp<=0/\t.ok nf=J)/\t.wf m=J then Y (t.lk nf ks,p+t.ws.length,sd++t.sy)else none:=λt m p sd=>by rw[qr (λz=>by ext t<;>exact absurd z.1.1 (by unfold Tr.dp;omega))];ext m<;>rfl
 have na:∀{n:U} {r p:Nat} {sd:List D},nb n=J->Mi.pk ws p=n->z1p nb nf ws ks (r+1) p sd=none:=λ{n r p sd} hn e=>by rw[yz,e,qr<|ne hn h2,qr<|ne hn h1,qr λz=>z.elim (ne hn h3)<|ne hn h4]
 intro t
 induction t with
 |bO n f=>
  intro m r p sd rest hd hn hr;cases r with
  |zero=>exact z0 _ _ _ _
  |succ r=>
   let{e0,d1}:=lG hd;let{e1,d2}:=lG d1;let{e2,_}:=lG d2;have hn:=hn n<|.head _;cases m with
   |true=>rw[qr<|λz=>by cases z.2];exact na hn e0
   |false=>
    show z18 nb nf ws ks (r+1) p sd=_;rw[vA,e0,qr<|ne hn h1,qr<|ne hn h2];unfold iJ;rw[e0,qq hn,e1,qq rfl];unfold kI;rw[e1,qq rfl,e2];have hok:(Tr.bO n f).ok nf=(nmOk nf f).isSome:=rfl;rw[hok];cases hf:nf f with
    |none=>
     have e:nmOk nf f=none:=by unfold nmOk;rw[hf]
     rw[e];rfl
    |some k=>
     by_cases hk:1<=k/\k<=10 ^ 30
     .have e:nmOk nf f=Y k:=by unfold nmOk;rw[hf];exact qq hk
      rw[e,qq {{ee<|c9 _,rfl},rfl}]
      dsimp only
      rw[qq hk];show Y (ZV [.str "at",.str n,.int k],p+1+2,_)=Y (ZV [.str "at",.str n,.int<|(nf f).getD 0],p+3,_);rw[hf];rfl
     .have e:nmOk nf f=none:=by unfold nmOk;rw[hf];exact qr hk
      rw[e]
      dsimp only
      rw[qr hk];rfl
 |bP n=>
  intro m r p sd rest hd hn hr;cases r with
  |zero=>exact z0 _ _ _ _
  |succ r=>
   let{e0,d1}:=lG hd;have hn:=hn n<|.head _;cases m with
   |true=>rw[qr<|λz=>by cases z.2];exact na hn e0
   |false=>
    have e1:Mi.pk ws (p+1)=Mi.pk rest 0:=by
     cases rest with
     |nil=>rw[EZ d1];rfl
     |cons x t=>exact(lG d1).1
    show z18 nb nf ws ks (r+1) p sd=_;rw[vA,e0,qr<|ne hn h1,qr<|ne hn h2];unfold iJ;rw[e0,qq hn,e1,qr hr,qq (show((Tr.bP n).dp<=r+1/\(Tr.bP n).ok nf=J)/\(Tr.bP n).wf Z6=J from{{ee<|c9 _,rfl},rfl})];rfl
 |un u t ih=>
  intro m r p sd rest hd hn hr;cases r with
  |zero=>exact z0 _ _ _ _
  |succ r=>
   let{e0,d1}:=lG hd;have i1:=ih m r (p+1) sd rest d1 hn hr
   have go:∀{w:Bool},(if(t.dp<=r/\t.ok nf=J)/\w=J then Y (ZV [.str<|eJ u,t.lk nf ks],p+1+t.ws.length,sd++t.sy)else Z8)=(if((Tr.un u t).dp<=r+1/\(Tr.un u t).ok nf=J)/\w=J then Y ((Tr.un u t).lk nf ks,p+(Tr.un u t).ws.length,sd++(Tr.un u t).sy)else Z8):=λ{w}=>by
    show _=if(t.dp+1<=r+1/\t.ok nf=J)/\w=J then Y (ZV [.str<|eJ u,t.lk nf ks],p+(t.ws.length+1),sd++t.sy)else Z8
    rw[show p+(t.ws.length+1)=p+1+t.ws.length by omega];by_cases h:(t.dp<=r/\t.ok nf=J)/\w=J
    .rw[qq h,qq {{ee h.1.1,h.1.2},h.2}]
    .rw[qr h,qr λz=>h {{ek z.1.1,z.1.2},z.2}]
   rcases UT u with rfl|⟨hu,hw⟩
   .have e0:Mi.pk ws p="not":=e0;rw[<-go];show _=if(t.dp<=r/\t.ok nf=J)/\t.wf m=J then Y (ZV [.str "not",t.lk nf ks],p+1+t.ws.length,sd++t.sy)else Z8
    cases m with
    |true=>show z1p nb nf ws ks (r+1) p sd=_;rw[yz,e0,<-E3,<-i1];rfl
    |false=>show z18 nb nf ws ks (r+1) p sd=_;rw[vA,e0,<-E3,<-i1];rfl
   .have n1:eJ u≠"(":=by rcases hu with e|e<;>rw[e]<;>decide
    have n2:eJ u≠"not":=by rcases hu with e|e<;>rw[e]<;>decide
    rw[<-go,hw];cases m with
    |true=>show z1p nb nf ws ks (r+1) p sd=_;rw[yz,e0,qr n1,qr n2,qq hu,Bool.true_and,<-E3,<-ih Z6 r (p+1) sd rest d1 hn hr];rfl
    |false=>rw[qr<|λz=>by cases z.2];show z18 nb nf ws ks (r+1) p sd=_;rw[vA,e0,qr n2,qr n1];unfold iJ;rw[e0,qr (by rcases hu with e|e<;>rw[e]<;>first|(rw[h3];decide)|(rw[h4];decide))]
 |two o a b ia ib=>
  intro m r p sd rest hd hn hr;cases r with
  |zero=>exact z0 _ _ _ _
  |succ r=>
   have hd:ws.drop p=("(":U)::(a.ws++(opS o::(b.ws++(")":U)::rest))):=by rw[hd];simp[Tr.ws]
   let{e0,d1}:=lG hd
   have st:rdM nb nf ws ks m (r+1) p sd=kJ ws (rdM nb nf ws ks m r) p sd:=by
    cases m with
    |true=>show z1p nb nf ws ks (r+1) p sd=_;rw[yz,e0];rfl
    |false=>show z18 nb nf ws ks (r+1) p sd=_;rw[vA,e0];rfl
   rw[st];unfold kJ;have UU:opS o≠(">=":U):=by ext o<;>decide
   rw[e0,qq rfl,ia m r (p+1) sd _ d1 (λn h=>hn n<|cq _ h) UU];show _=if(max a.dp b.dp+1<=r+1/\(a.ok nf&&b.ok nf)=J)/\(a.wf m&&b.wf m)=J then Y (ZV [.str<|opS o,a.lk nf ks,b.lk nf ks],p+(a.ws++opS o::(b.ws++[(")":U)])).length.succ,sd++(a.sy++b.sy))else Z8
   have an:∀{x y:Bool},(x&&y)=J↔x=J/\y=true:=λ{x y}=>by rw[aj]
   by_cases ha:(a.dp<=r/\a.ok nf=J)/\a.wf m=J
   .rw[qq ha]
    dsimp only
    let{e1,d3}:=lG (by rw[<-j3,d1,nk]);rw[e1,qq<|KW o,ib m r (p+1+a.ws.length+1) _ _ d3 (λn h=>hn n<|bp _ h) (by rw[sX];decide)];by_cases hb:(b.dp<=r/\b.ok nf=J)/\b.wf m=J
    .rw[qq hb]
     dsimp only
     rw[(lG<|by rw[<-j3,d3,nk]).1,qq rfl,qq {{by omega,an.mpr {(ha.1.2),hb.1.2}},an.mpr {(ha.2),hb.2}}];simp;rw[show p+1+a.ws.length+1+b.ws.length+1=p+(a.ws.length+(b.ws.length+(0+1)+1)).succ by omega]
    .rw[qr hb,qr λz=>hb {{by omega,(an.mp z.1.2).2},(an.mp z.2).2}]
   .rw[qr ha,qr λz=>ha {{by omega,(an.mp z.1.2).1},(an.mp z.2).1}]
end
theorem E4:∀(t:Tr) m,t.wf m=J->t.wf (!m)=Z6
 |.bO _ _,m,h=>by ext m<;>first|rfl|ext h
 |.bP _,m,h=>by ext m<;>first|rfl|ext h
 |.un .no t,m,h=>E4 t m h
 |.un .so t,m,h=>by ext m<;>first|rfl|ext h
 |.un .al t,m,h=>by ext m<;>first|rfl|ext h
 |.two _ a b,m,h=>by have h:(a.wf m&&b.wf m)=true:=h;rw[aj]at h;show(a.wf (!m)&&b.wf (!m))=Z6;rw[E4 a m h.1];rfl
def Tr.enc:Tr->D
 |.bO n f=>.tuple [.str "at",.str n,.str f]
 |.bP n=>.tuple [.str "is",.str n]
 |.un u t=>.tuple [.str<|eJ u,t.enc]
 |.two o a b=>.tuple [.str<|opS o,a.enc,b.enc]
theorem Tr.im:∀t:Tr,imm t.enc=J
 |.bO _ _=>rfl
 |.bP _=>rfl
 |.un _ t=>by show(J&&(imm t.enc&&J))=J;rw[t.im];rfl
 |.two o a b=>by show(J&&(imm a.enc&&(imm b.enc&&J)))=J;rw[a.im,b.im];rfl
def Tr.hd:Tr->U
 |.bO _ _=>"at"
 |.bP _=>"is"
 |.un u _=>eJ u
 |.two o _ _=>opS o
def Tr.kids:Tr->List Tr
 |.un _ t=>[t]
 |.two _ a b=>[a,b]
 |_=>[]
theorem Tr.UW:∀t:Tr,iC t.enc (.int 0)=.ok (.str t.hd)
 |.bO _ _=>rfl
 |.bP _=>rfl
 |.un _ _=>rfl
 |.two _ _ _=>rfl
theorem uu (t:Tr)(h:ρ[0]?=Y (Y (g,t.enc))):Tt [] Φ (.tv<|.cmp .Eq (.ix (.var 0)<|.int 0)<|.str w) ρ (decide (t.hd=w)):=aT (cL (k:=decide (t.hd=w)) (aO (aC h) aE.e t.UW rfl).e aN.e (by show Res.ok (bX (.str _)<|.str _)=_;rw[iV])).e rfl
def Tr.tx:Tr->U
 |.bO n f=>n++(" >= ":U)++f
 |.bP n=>n
 |.un u t=>eJ u++(" ":U)++t.tx
 |.two o a b=>("( ":U)++a.tx++(" ":U)++opS o++(" ":U)++b.tx++(" )":U)
def UX:decide (("is":U)=("at":U))=false:=by decide
def E5 (u:Un):decide (eJ u=("at":U))=Z6/\decide (eJ u=("is":U))=false:=by ext u<;>decide
def E6 (u:Un):(eJ u).length<=4:=by ext u<;>decide
def E7 (o:Bool):decide (opS o=("at":U))=Z6/\decide (opS o=("is":U))=false:=by ext o<;>decide
def UY:∀(t:Tr) k,t.dp<=k->t.tx.length<=9000->iO k [t.enc]=.ok (.fr,.str t.tx):=by
 intro t
 induction t with
 |bO n f=>
  intro k hk hl;obtain _|k:=k
  .exact absurd hk (by unfold Tr.dp;omega)
  refine eC ?_;unfold Tr.tx at hl;rw[bF,bF]at hl;exact iU (uu _ rfl) (qx rfl) (bR<|dJ<|aI (aI (aO (aC rfl) aE.e rfl rfl).e aN.e (oZ ZQ) rfl).e (aO (aC rfl) aE.e rfl rfl).e (oZ (by rw[bF];omega)) rfl)
 |bP n=>
  intro k hk hl;obtain _|k:=k
  .exact absurd hk (by unfold Tr.dp;omega)
  exact eC (gK (uu _ rfl) UX<|iU (uu _ rfl) (qx rfl)<|bR<|dJ<|aO (aC rfl) aE.e rfl rfl)
 |un u t ih=>
  intro k hk hl;obtain _|k:=k
  .exact absurd hk (by unfold Tr.dp;omega)
  refine eC ?_;unfold Tr.tx at hl;rw[bF]at hl;refine gK (uu _ rfl) (E5 u).1 (gK (uu _ rfl) (E5 u).2<|iU (pR (cF (aW (aC rfl) bE) rfl rfl).e) rfl<|bR<|dJ<|aI (aI (aO (aC rfl) aE.e rfl rfl).e aN.e (oZ (by have:=E6 u;show(eJ u).length+1<=_;omega)) rfl).e (eO (aW (aO (aC rfl) aE.e rfl t.im).e bE) rfl (ih k (ek hk) ZQ) rfl).e (oZ ZQ) rfl)
 |two o a b ia ib=>
  intro k hk hl;obtain _|k:=k
  .exact absurd hk (by unfold Tr.dp;omega)
  refine eC ?_;unfold Tr.tx at hl;have hd:max a.dp b.dp+1<=k+1:=hk;rw[bF,bF,bF,bF,bF,bF]at hl;refine gK (uu _ rfl) (E7 o).1<|gK (uu _ rfl) (E7 o).2<|gK (pR (cF (aW (aC rfl) bE) rfl rfl).e) rfl<|bR<|dJ ?_;exact aI (aI (aI (aI (aI (aI aN.e (eO (Κ:=[]) (f:="_law_text") (aW (aO (aC (ρ:=[Y (G.od,(Tr.two o a b).enc)]) (i:=0) rfl) (aE (i:=1)).e rfl a.im).e bE) (show[iO k][0]?=_ from rfl) (ia k ZQ ZQ) rfl).e (oZ ZQ) rfl).e aN.e (oZ (by rw[bF];omega)) rfl).e (aO (aC rfl) aE.e rfl rfl).e (oZ (by rw[bF,bF];omega)) rfl).e aN.e (oZ (by rw[bF,bF,bF];omega)) rfl).e (eO (Κ:=[]) (f:="_law_text") (aW (aO (aC (ρ:=[Y (G.od,(Tr.two o a b).enc)]) (i:=0) rfl) (aE (i:=2)).e rfl b.im).e bE) (show[iO k][0]?=_ from rfl) (ib k ZQ ZQ) rfl).e (oZ (by rw[bF,bF,bF,bF];omega)) rfl).e aN.e (oZ (by rw[bF,bF,bF,bF,bF];omega)) rfl
def Tr.lf:Tr->Bool
 |.bO _ _=>J
 |.bP _=>J
 |_=>Z6
def UZ {t:Tr}(h:c∈t.kids):c.dp+1<=t.dp:=by
 cases t with
 |bO=>ext h
 |bP=>ext h
 |un u t=>rw[ai.mp h];exact ag _
 |two o a b=>
  show c.dp+1<=max a.dp b.dp+1;rcases ak.mp h with rfl|h
  .omega
  .rw[ai.mp h];omega
def U0 (t:Tr):1<=t.dp:=by ext t<;>(unfold Tr.dp;omega)
theorem Tr.bK:∀t:Tr,imm (t.lk nf ks)=J
 |.bO _ _=>rfl
 |.bP n=>by unfold Tr.lk;split<;>rfl
 |.un _ t=>by show(J&&(imm (t.lk nf ks)&&J))=J;rw[t.bK];rfl
 |.two o a b=>by show(J&&(imm (a.lk nf ks)&&(imm (b.lk nf ks)&&J)))=J;rw[a.bK,b.bK];rfl
def yA (t:Tr)(hf:t.lf=Z6):t.lk nf ks=.tuple ([.str t.hd]++t.kids.map (Tr.lk nf ks)):=by
 cases t with
 |bO=>ext hf
 |bP=>ext hf
 |_=>rfl
def U1 (t:Tr):t.kids.length<=2:=by ext t<;>(unfold Tr.kids;simp)
def KY (h:(nmOk nf f).isSome=J):∃i,nf f=Y i/\1<=i/\i<=10 ^ 30:=by
 unfold nmOk at h;split at h
 .rename_i i e;split at h
  .rename_i a;exact{(i),e,a}
  .cases h
 .cases h
def dec (i:Int):U:=(toString i:String)
def U2 (h0:0<=i)(h:i<10 ^ 40):(dec i).length<=40:=by
 let{n,rfl}:=fk h0;unfold dec;rw[Str.ofString_eq_toList];show(List.toArray<|List.map qm n.repr.toList).size<=40;rw[br,am,k8,nl];refine(Nat.length_toDigits_le_iff dc dc).mpr ?_;have:n<((10 ^ 40:Nat):Int):=by simpa using h
 exact Int.ofNat_lt.mp this
def U3 {i:Int}(h0:0<=i)(h:i<10 ^ 40):i.natAbs.log2<1920:=by
 by_cases z:i.natAbs=0
 .rw[z];decide
 .have a:i.natAbs<2 ^ 200:=by omega
  have:=(Nat.log2_lt z).mpr a;omega
def U4 (n:Nat):(dec (n:Int))[[]]=(k9 10 n).map qm:=by have e:(toString (n:Int):String)=n.repr:=rfl;unfold dec;rw[e,Str.ofString_eq_toList,k8,nl]
def U5:∀n,∀c∈(k9 10 n).map qm,33<=c/\c<127:=by
 have dc:∀d,d<10->(Nat.digitChar d).toNat=48+d:=by decide
 intro n
 induction n using Nat.strongRecOn with
 |_ n b=>
  by_cases h:n<10
  .rw[Nat.toDigits_of_lt_base h];intro c a;rw[ai.mp a,dc n h];omega
  .have t:k9 10 (n/10)++k9 10 (n%10)=k9 10 (10*(n/10)+n%10):=Nat.toDigits_append_toDigits ZP ZQ ZQ;rw[show 10*(n/10)+n%10=n by omega]at t;rw[<-t,cr];intro c a;rcases bg.mp a with a|a
   .exact b (n/10) ZQ c a
   .exact b (n%10) ZQ c a
abbrev dX (b:Nat)(f:U):Prop:=f.length<=b/\∀c∈f[[]],33<=c/\c<127
def U6 (h0:0<=i)(h:i<10 ^ 40):dX 40 (dec i):=by refine{U2 h0 h,?_};let{n,rfl}:=fk h0;intro c a;exact U5 n c (U4 n▸a)
def Tr.vB (b:Nat)(ns:List U):Tr->Prop
 |.bO w f=>w∈ns/\dX b f
 |.bP w=>w∈ns
 |.un _ t=>t.vB b ns
 |.two _ x y=>x.vB b ns/\y.vB b ns
abbrev Tr.GM (_:Bool)(ns:List U)(t:Tr):Prop:=t.vB 40 ns
def U7 (h0:0<=k)(h:k<10 ^ 40):gP "str" [.int k]=.ok (.str<|dec k):=by show(if k.natAbs.log2<1920 then _ else _)=_;rw[qq<|U3 h0 h];rfl
def KZ {d:G}{ns:List U}(hn:ns.length=27)(f:ρ[1]?=Y (Y (g,ns[_])))(h:ρ[3]?=Y (Y (d,.int m)))(a:0<j/\j<=27):∃w∈ns,Vv [] Φ (.ix (.var 1)<|.bin .Mod (.var 3)<|.int j) ρ (.str w):=by
 have b:0<=m%j:=i4 _ ZQ;have c:m%j<ns.length:=by have:=ll m a.1;omega
 exact{ns.getD (m%j).toNat {#[]},getD_mem b c,aO (aC f) (aI (aC h) aE.e (cS a.1) rfl).e (pO b c) rfl}
def U8 {n:Int}{ns:List U}(hn:ns.length=27):∃t:Tr,t.lf=J/\t.GM Z6 ns/\mK [.int n,ns[_]]=.ok (.fr,t.enc):=by
 let Q:Res Out->Prop:=λr=>∃t:Tr,t.lf=J/\t.GM Z6 ns/\r=.ok (.rt .fr t.enc)
 suffices h:Q (aH [] [] rE [Y (.od,.int n),Y (.od,ns[_]),Z8,Z8,Z8]) by let{t,l,A,f}:=h;exact{t,l,A,eC f}
 unfold rE;refine aG (bZ<|aI (aC rfl) aE.e (cS ZP) rfl)<|aG (bZ<|aI (d:=.int<|n/10) (aC rfl) aE.e (jL ZP ZP) rfl) ?_;generalize n/10=m;show Q (aH [] [] _ [Y (.od,.int n),Y (.od,ns[_]),Y (.al,.int<|n%10),Y (.al,.int m),Z8]);have g:∀{ρ:Rho} {j:Int},ρ[1]?=Y (Y (.od,ns[_]))->ρ[3]?=Y (Y (.al,.int m))->0<j/\j<=27->∃t:Tr,t.lf=J/\t.GM Z6 ns/\aH [] [] (.ret<|.tup<|.cons (.str "is")<|.cons (.ix (.var 1)<|.bin .Mod (.var 3)<|.int j) .nil) ρ=.ok (.rt .fr t.enc):=λl f u=>by let{w,v,e}:=KZ (Φ:=[]) hn l f u;exact{.bP w,rfl,v,dJ<|eD<|aF aN<|aF e bG}
 have o:∀{ρ:Rho} {j i:Int} {c:C},ρ[1]?=Y (Y (.od,ns[_]))->ρ[3]?=Y (Y (.al,.int m))->0<j/\j<=27->Ev [] [] c ρ (.int i)->1<=i->i<=1000000000000000000000000000000->∃t:Tr,t.lf=J/\t.GM Z6 ns/\aH [] [] (.ret<|.tup<|.cons (.str "at")<|.cons (.ix (.var 1)<|.bin .Mod (.var 3)<|.int j)<|.cons (.bi "str"<|.cons c .nil) .nil) ρ=.ok (.rt .fr t.enc):=λl f u B x y=>by let{w,v,e}:=KZ (Φ:=[]) hn l f u;exact{.bO w<|dec _,rfl,{v,U6 ZQ ZQ},dJ<|eD<|aF aN<|aF e<|aF (cF (aW B bE) (U7 ZQ ZQ) rfl) bG}
 have z:∀{ρ:Rho} {p q:S},(∃t:Tr,t.lf=J/\t.GM Z6 ns/\aH [] [] p ρ=.ok (.rt .fr t.enc))->Q (aH [] [] (.seq p q) ρ):=λ⟨t,a,b,c⟩=>{t,a,b,bR c};refine mL (aT (cL (k:=decide (n%10<3)) (aC rfl) aE.e rfl).e rfl) (λ_=>?_) λ_=>?_
 .let{t,a,b,c}:=g (ρ:=[Y (.od,.int n),Y (.od,ns[_]),Y (.al,.int<|n%10),Y (.al,.int m),Z8]) (j:=6) rfl rfl ZP;exact{_,_,bR c,t,a,b,rfl}
 refine mL (aT (cL (k:=decide (n%10<6)) (aC rfl) aE.e rfl).e rfl) (λ_=>?_) λ_=>?_
 .have x:0<=m/3%4:=by omega
  have y:m/3%4<(([1,2+m/12%5,1000000000000000000000000000000,m/12%1000000000000000000000000000000+1]:List Int).length:Int):=by show _<(4:Int);omega
  have hm:=getD_mem (d:=(0:Int)) x y;simp only[ak,gz,or_false]at hm;have ev:∀{ρ:Rho},ρ[4]?=Y (Y (.fr,.list<|([1,2+m/12%5,1000000000000000000000000000000,m/12%1000000000000000000000000000000+1]:List Int).map .int))->ρ[3]?=Y (Y (.al,.int m))->Ev [] [] (.ix (.var 4)<|.bin .Mod (.bin .FloorDiv (.var 3)<|.int 3)<|.int 4) ρ (.int<|([1,2+m/12%5,1000000000000000000000000000000,m/12%1000000000000000000000000000000+1]:List Int).getD (m/3%4).toNat 0):=λD f=>(aO (aC D) (aI (aI (d:=.int<|m/3) (aC f) aE.e (jL ZP ZP) rfl).e aE.e (cS ZP) rfl).e (t7 x y) rfl).e;have s:∀{ρ:Rho},ρ[3]?=Y (Y (.al,.int m))->Vv [] [] (.bin .FloorDiv (.var 3)<|.int 12) ρ (.int<|m/12):=λf=>aI (aC f) aE.e (jL ZP ZP) rfl;let{t,a,b,c}:=o (ρ:=[Y (.od,.int n),Y (.od,ns[_]),Y (.al,.int<|n%10),Y (.al,.int m),Y (.fr,.list<|([1,2+m/12%5,1000000000000000000000000000000,m/12%1000000000000000000000000000000+1]:List Int).map .int)]) (j:=3) rfl rfl ZP (ev rfl rfl) ZQ ZQ;refine{_,_,dI (fS (dR (ds:=([1,2+m/12%5,1000000000000000000000000000000,m/12%1000000000000000000000000000000+1]:List Int).map .int)<|aF aE<|aF (aI aE.e (aI (s rfl).e aE.e (cS ZP) rfl).e rfl rfl)<|aF D3<|aF (aI (aI (s rfl).e D3.e (cS ZP) rfl).e aE.e rfl rfl) bG) rfl)<|bR c,t,a,b,rfl}
 refine mL (pR<|aC rfl) (λ_=>?_) λ_=>?_
 .let{t,a,b,c}:=o (ρ:=[Y (.od,.int n),Y (.od,ns[_]),Y (.al,.int<|n%10),Y (.al,.int m),Z8]) (j:=9) (c:=.bin .Add (.int 1)<|.bin .Mod (.bin .FloorDiv (.var 3)<|.int 9)<|.int 3) rfl rfl ZP (aI (d:=.int<|1+m/9%3) aE.e (aI (aI (d:=.int<|m/9) (aC rfl) aE.e (jL ZP ZP) rfl).e aE.e (cS ZP) rfl).e rfl rfl).e ZQ ZQ;exact{_,_,bR c,t,a,b,rfl}
 refine mL (pR<|aC rfl) (λ_=>?_) λ_=>z<|g rfl rfl ZP;let{t,a,b,c}:=g (ρ:=[Y (.od,.int n),Y (.od,ns[_]),Y (.al,.int<|n%10),Y (.al,.int m),Z8]) (j:=10) rfl rfl ZP;exact{_,_,bR c,t,a,b,rfl}
def K0 (h:ρ[i]?=Y (Y (.fr,.list<|(pre++[t]).map Tr.enc))):aH [] Φ (.pop j i) ρ=.ok (.nx<|((ρ.set i<|Y (.fr,.list<|pre.map Tr.enc)).map z0h).set j<|Y (.al,t.enc)):=by
 show(match ρ[i]? with|some (Y (.fr,.list a))=>(match nB a with|some d=>Res.ok (Out.nx<|((ρ.set i<|Y (.fr,.list a.dropLast)).map z0h).set j<|Y (.al,d))|none=>.no)|_=>.no)=_;have e:nB ((pre++[t]).map Tr.enc)=Y t.enc:=by unfold nB;rw[cr];simp[Tr.im]
 have b:((pre++[t]).map Tr.enc).dropLast=pre.map Tr.enc:=by rw[cr];simp
 rw[h]
 dsimp only
 rw[e];rw[b]
def AF (h:ρ[i]?=Y (Y (.fr,.list<|(pre++[t]).map Tr.enc)))(m:pre.length<=100)(j:(ρ.set i<|Y (.fr,.list<|pre.map Tr.enc)).map z0h=ρ1)(f:Vv [] Φ a ρ x)(g:Av [] Φ r ρ1 b):aH [] Φ (.pap i a r) ρ=.ok (.nx<|(ρ1.set i<|Y (.fr,.list<|pre.map Tr.enc++[.tuple (x::t.enc::b)])).map z0h):=by
 show(aJ [] Φ a ρ>>=λx=>match ρ[i]? with|some (Y (.fr,.list c))=>(match nB c with|some d=>dO [] Φ r ((ρ.set i<|Y (.fr,.list c.dropLast)).map z0h)>>=λb=>if(imm x.2&&imms (b.map (·.2))&&decide (c.length<=LIM))=J then Res.ok (Out.nx ((((ρ.set i<|Y (.fr,.list c.dropLast)).map z0h).set i (Y (.fr,.list (c.dropLast++[.tuple (x.2::d::b.map (·.2))])))).map z0h))else .no|none=>.no)|_=>.no)=_;have e:nB ((pre++[t]).map Tr.enc)=Y t.enc:=by unfold nB;rw[cr];simp[Tr.im]
 have k:((pre++[t]).map Tr.enc).dropLast=pre.map Tr.enc:=by rw[cr];simp
 rw[f.1,Res.aB,h]
 dsimp only
 rw[e]
 dsimp only
 rw[k,j,g.1,Res.aB];have l:(b.map λd=>((G.fr,d):GD)).map (·.2)=b:=by rw[dw];exact nj _
 rw[l,f.2,g.2,qx (show((pre++[t]).map Tr.enc).length<=LIM by rw[am,ax];show pre.length+1<=LIM;unfold LIM;omega)];rfl
abbrev RT (x0 x1:D)(ts:List Tr)(u3 u4:Option GD):Rho:=[Y (.od,x0),Y (.od,x1),Y (.fr,.list<|ts.map Tr.enc),u3,u4]
def vC (pre:List Tr)(t:Tr):(pre++[t]).map Tr.enc=pre.map Tr.enc++[t.enc]:=by rw[cr];rfl
def merge {b:Tr}{W:C}(hl:pre.length<=90)(hW:Vv [] Φ W (RT x0 x1 (pre++[a]) (z0h u3)<|Y (.al,b.enc))<|.str<|opS o):
  ∃v3,aH [] Φ (.seq (.pop 4 2)<|.seq (.pap 2 W<|.cons (.var 4) .nil) .nil) (RT x0 x1 (pre++[a]++[b]) u3 u4)=.ok (.nx<|RT x0 x1 (pre++[.two o a b]) v3<|Y (.al,b.enc)):=by
 have e2:=AF (ρ:=RT x0 x1 (pre++[a]) (z0h u3)<|Y (.al,b.enc)) (ρ1:=RT x0 x1 pre (z0h<|z0h u3)<|Y (.al,b.enc)) (i:=2) (r:=.cons (.var 4) .nil) rfl ZQ (by show[_,_,_,_,z0h<|Y (.al,b.enc)]=_;rw[vx b.im];rfl) hW<|aF (v_var rfl b.im) bG;refine{z0h<|z0h<|z0h u3,dI (K0 rfl)<|dI (e2.trans ?_) iH};show Res.ok (Out.nx [_,_,Y (.fr,.list<|pre.map Tr.enc++[.tuple [.str<|opS o,a.enc,b.enc]]),_,z0h<|Y (.al,b.enc)])=_;rw[vx b.im];show _=Res.ok (Out.nx [_,_,Y (.fr,.list<|(pre++[Tr.two o a b]).map Tr.enc),_,_]);rw[vC];rfl
def Tr.nd:Tr->Nat
 |.bO _ _=>1
 |.bP _=>1
 |.un _ t=>t.nd+1
 |.two _ a b=>a.nd+b.nd
theorem AG:∀t:Tr,1<=t.nd
 |.bO _ _=>ag _
 |.bP _=>ag _
 |.un _ t=>by show 1<=t.nd+1;omega
 |.two _ a b=>by show 1<=a.nd+b.nd;have:=AG a;omega
theorem yB:∀t:Tr,t.dp<=t.nd
 |.bO _ _=>ag _
 |.bP _=>ag _
 |.un _ t=>ee (yB t)
 |.two _ a b=>by show max a.dp b.dp+1<=a.nd+b.nd;have:=yB a;have:=yB b;have:=AG a;have:=AG b;omega
structure Cl (P:Tr->Prop)(w:Tr->Nat):Prop where
 pos:∀t,1<=w t
 w2:∀o a b,w (.two o a b)=w a+w b
 w1:∀a,w (.un .no a)=w a+1
 p2:∀o a b,P a->P b->P (.two o a b)
 p1:∀a,P a->P (.un .no a)
def jT (P:Tr->Prop)(w:Tr->Nat)(B:Nat)(ts:List Tr):Prop:=(∀t∈ts,P t)/\(ts.map w).sum<=B
section
variable {P:Tr->Prop}{w:Tr->Nat}{B:Nat}{ts pre:List Tr}{a b t:Tr}{o:Bool}
def vD (c:Cl P w)(h:jT P w B ts):ts.length<=B:=by
 refine bj ?_ h.2;clear h
 induction ts with
 |nil=>exact ag _
 |cons t ts a=>rw[bu,on,ay];have:=c.pos t;omega
def E8 (h:∀x∈pre,P x)(b:P t)(hs:(pre.map w).sum+w t<=c):jT P w c (pre++[t]):=by
 refine{λx d=>?_,?_}
 .rcases bg.mp d with a|a
  .exact h x a
  .rw[ai.mp a];exact b
 .simp;omega
def AH (c:Cl P w)(h:jT P w B<|pre++[a]++[b]):jT P w B (pre++[.two o a b]):=by have z:=h.2;simp at z;exact E8 (λx d=>h.1 x<|by simp[d]) (c.p2 o a b (h.1 a ZO)<|h.1 b ZO) (by rw[c.w2];omega)
theorem K1 (h:jT P w B ts)(a:P t)(b:w t=1):jT P w (B+1) (ts++[t]):=E8 h.1 a (by have:=h.2;omega)
def K2 (c:Cl P w)(h:jT P w B<|pre++[a]):jT P w (B+1) (pre++[.un .no a]):=by have z:=h.2;simp at z;exact E8 (λx b=>h.1 x<|by simp[b]) (c.p1 a<|h.1 a ZO) (by rw[c.w1];omega)
theorem K3 (h:jT P w B ts):jT P w (B+1) ts:={h.1,p4 h.2}
end
theorem K4 (x:a.GM m ns)(y:b.GM m ns):(Tr.two o a b).GM m ns:={(x),y}
theorem vE (ns:List U):Cl (Tr.GM Z6 ns) Tr.nd:={AG,λ_ _ _=>rfl,λ_=>rfl,λ_ _ _=>K4,λ_ h=>h}
def vb {ts:List Tr}(h:1<ts.length):∃pre a b,ts=pre++[a]++[b]:=by refine{ts.dropLast.dropLast,ts.dropLast.getLast (λz=>by have:=congrArg gq z;rw[m9]at this;simp at this;omega),ts.getLast (λz=>by rw[z]at h;simp at h),?_};rw[i5,i5]
theorem va (h:ts≠[]):∃pre a,ts=pre++[a]:={ts.dropLast,ts.getLast h,(i5 h).symm}
theorem len_T {ts:List Tr}(h:ρ[2]?=Y (Y (g,.list<|ts.map Tr.enc))):Vv [] Φ (.bi "len"<|.cons (.var 2) .nil) ρ (.int (ts.length:Int)):=cF (aW (aC h) bE) (by show Res.ok (ZU ((ts.map Tr.enc).length:Int))=_;rw[am]) rfl
def yC (a:ws=([("and":U),("or":U)])\/ws=([("or":U),("and":U)]))(h0:0<=i)(b:i<2):∃o,iC ws[_] (.int i)=.ok (.str<|opS o):=by
 rcases a with rfl|rfl<;>rcases(show i=0\/i=1 by omega)with rfl|rfl
 .exact{(J),rfl}
 .exact{(Z6),rfl}
 .exact{(Z6),rfl}
 .exact{(J),rfl}
theorem K5 {P:Rho->Prop}(I:Nat->Rho->Prop)(hs:∀k b,I k b->(c b=.ok Z6/\P b)\/∃d a,k=d+1/\c b=.ok J/\f b=.ok (.nx a)/\I d a):∀k n b,k<n->I k b->∃a,rX c f n b=.ok (.nx a)/\P a
 |k,0,_,h,_=>by omega
 |k,n+1,b,h,l=>by
  rcases hs k b l with⟨g,i⟩|⟨d,a,rfl,g,i,m⟩
  .exact{b,by show(c b>>=_)=_;rw[g];rfl,i}
  .let{j,e,p}:=K5 I hs d n a ZQ m;refine{j,?_,p};show(c b>>=_)=_;rw[g,i];exact e
def oP {Q:Res Out->Prop}{P:Rho->Prop}(I:Nat->Rho->Prop)(k:Nat)(hn:k<n)(h0:I k d)(hs:∀k d,I k d->(Tt Κ Φ c d Z6/\P d)\/∃f a,k=f+1/\Tt Κ Φ c d J/\aH Κ Φ b d=.ok (.nx a)/\I f a)(g:∀a,P a->Q (aH Κ Φ rest a)):Q (aH Κ Φ (.seq (.wh n c b) rest) d):=by let{a,e,p}:=K5 I hs k n d hn h0;exact aG e (g a p)
theorem jU (b:Tt Κ Φ c ρ k)(d:k=J->Nx I (aH Κ Φ p ρ))(f:k=Z6->Nx I (aH Κ Φ q ρ)):Nx I (aH Κ Φ (.seq (.bW c p q) .nil) ρ):=EL (Q:=Nx I) (rest:=.nil) b (λh=>by
 let{a,e,z}:=d h;exact{a,e,pA z}) λh=>by
 let{a,e,z}:=f h;exact{a,e,pA z}
def K6 (hn:ns.length=27)(h0:ds≠[])(E:ds.length<=20):∃t:Tr,t.GM Z6 ns/\t.nd<=ds.length/\iN [.list<|ds.map .int,ns[_]]=.ok (.fr,t.enc):=by
 let Q:Res Out->Prop:=λr=>∃t:Tr,t.GM Z6 ns/\t.nd<=ds.length/\r=.ok (.rt .fr t.enc)
 suffices h:Q (aH [] [mK] um [Y (.od,ds[()]),Y (.od,ns[_]),Z8,Z8,Z8]) by let{t,u,v,w}:=h;exact{t,u,v,eC w}
 refine aG (fS (dR bG) rfl) (q_nm (DY rfl rfl rfl) (λ_=>rfl) (λpre j=>∃c f d,j=RT ds[()] ns[_] c f d/\jT (Tr.GM Z6 ns) Tr.nd pre.length c/\(pre≠[]->c≠[])) {[],Z8,Z8,rfl,{nofun,ag _},λz=>absurd rfl z} ?_ ?_)
 .rintro pre x s j y ⟨c,f,d,rfl,ok,ne⟩
  have p:=congrArg gq y;rw[ax]at p;have m:=vD (vE ns) ok;have pl:(pre++[x]).length=pre.length+1:=by simp
  refine jU (eP (aT (k:=decide ((1:Int)<c.length)) (cL (k:=decide ((1:Int)<c.length)) (len_T rfl).e aE.e rfl).e rfl) λ_=>aT (cL (k:=decide (x%5<2)) (aI (aC rfl) aE.e (cS ZP) rfl).e aE.e rfl).e rfl) (λh=>?_) λh=>jU (eP (aT (k:=decide ((0:Int)<c.length)) (cL (k:=decide ((0:Int)<c.length)) (len_T rfl).e aE.e rfl).e rfl) λ_=>pR (aI (aC rfl) aE.e (cS ZP) rfl).e) (λh=>?_) λh=>?_
  .rw[aj,decide_eq_true_eq]at h;let{g,a,b,rfl}:=vb (ts:=c) (by grind);let{o,q}:=yC (i:=x/5%2) (.inl rfl) ZQ ZQ;have l:g.length<=90:=by simp at m;omega
   let{A,e}:=merge (x0:=ds[()]) (u3:=Y (.al,.int x)) (a:=a) (W:=.ix (.lst<|.cons (.str "and")<|.cons (.str "or") .nil)<|.bin .Mod (.bin .FloorDiv (.var 3)<|.int 5)<|.int 2) l<|aO (Ev.of<|dR<|aF aN<|aF aN bG) (aI (aI (aC rfl) aE.e (jL ZP ZP) rfl).e aE.e (cS ZP) rfl).e q rfl;exact{_,e,_,_,_,rfl,by rw[pl];exact K3<|AH (vE ns) ok,λ_ z=>by simp at z}
  .rw[aj]at h;let{g,a,rfl}:=va (ts:=c) (λz=>by rw[z]at h;have:=h.1;simp at this);have l:g.length<=90:=by simp at m;omega
   refine{_,dI (AF (Φ:=[mK]) (ρ:=RT ds[()] ns[_] (g++[a]) (Y (.al,.int x)) d) (ρ1:=RT ds[()] ns[_] g (Y (.al,.int x))<|z0h d) (i:=2) (a:=.str "not") (t:=a) rfl ZQ rfl aN bG) iH,g++[.un .no a],Y (.al,.int x),z0h<|z0h d,?_,by rw[pl];exact K2 (vE ns) ok,λ_ z=>by simp at z};show([_,_,Y (G.fr,ZW<|g.map Tr.enc++[(Tr.un .no a).enc]),_,_]:Rho)=_;rw[<-vC];rfl
  .let{t,B,C,D}:=U8 (n:=x/5) hn;refine aG (xQ (eO (aW (aI (aC rfl) aE.e (jL ZP ZP) rfl).e<|aW (aC rfl) bE) rfl D t.im) rfl<|by grind)<|pA {c++[t],Y (.al,.int x),z0h d,?_,by rw[pl];exact K1 ok C (by ext t<;>first|rfl|ext B),λ_ z=>by simp at z};rw[<-vC];rfl
 .rintro j ⟨c,f,d,rfl,ok,ne⟩
  have m:=vD (vE ns) ok;have F:=ky.mpr<|ne h0;refine oP (P:=λj=>∃t f d,j=RT ds[()] ns[_] [t] f d/\jT (Tr.GM Z6 ns) Tr.nd ds.length [t]) (λk j=>∃c f d,j=RT ds[()] ns[_] c f d/\jT (Tr.GM Z6 ns) Tr.nd ds.length c/\c.length=k+1) (c.length-1) ZQ {c,f,d,rfl,ok,by omega} ?_ ?_
  .rintro k j ⟨c,f,d,rfl,ok,hk⟩
   have m:=vD (vE ns) ok;have tc:Tt [] [mK] (.tv<|.cmp .Gt (.bi "len"<|.cons (.var 2) .nil)<|.int 1) (RT ds[()] ns[_] c f d) (decide ((1:Int)<c.length)):=aT (cL (len_T rfl).e aE.e rfl).e rfl;cases k with
   |zero=>let{g,a,rfl}:=va (ts:=c) (λz=>by rw[z]at hk;ext hk);have p:=dq (by simpa using hk);subst p;exact .inl {tc,(a),f,d,rfl,ok}
   |succ k=>
    rw[qx ZQ]at tc;let{g,a,b,rfl}:=vb (ts:=c) ZQ;have l:g.length=k:=by simpa using hk
    let{o,q}:=yC (i:=((g++[a]).length:Int)%2) (.inr rfl) ZQ ZQ;let{A,e}:=merge (W:=.ix (.lst<|.cons (.str "or")<|.cons (.str "and") .nil)<|.bin .Mod (.bi "len"<|.cons (.var 2) .nil)<|.int 2) ZQ<|aO (Ev.of<|dR<|aF aN<|aF aN bG) (aI (len_T rfl).e aE.e (cS ZP) rfl).e q rfl;exact .inr {k,_,rfl,tc,e,_,_,_,rfl,AH (vE ns) ok,by simp[l]}
  .rintro j ⟨t,f,d,rfl,ok⟩
   exact{t,ok.1 t ZO,by have:=ok.2;simpa using this,bR<|dJ<|aO (aC rfl) aE.e rfl t.im}
def Tr.wt:Tr->Nat
 |.bO _ _=>70
 |.bP _=>70
 |.un _ t=>t.wt+5
 |.two _ a b=>a.wt+b.wt
theorem AI:∀t:Tr,t.wt<=70*t.nd
 |.bO _ _=>ag _
 |.bP _=>ag _
 |.un _ t=>by show t.wt+5<=70*(t.nd+1);have:=AI t;omega
 |.two _ a b=>by show a.wt+b.wt<=70*(a.nd+b.nd);have:=AI a;have:=AI b;omega
def K7 (o:Bool):(opS o).length<=3:=by ext o<;>decide
theorem AJ (c:d<=41)(hs:∀w∈ns,w.length<=13):∀{t:Tr},t.vB d ns->t.tx.length+10<=t.wt
 |.bO w f,h=>by show(w++(" >= ":U)++f).length+10<=70;rw[bF,bF];have:=hs w h.1;have:=h.2.1;have e:(" >= ":U).length=4:=rfl;omega
 |.bP w,h=>by show w.length+10<=70;have:=hs w h;omega
 |.un u t,h=>by show(eJ u++(" ":U)++t.tx).length+10<=t.wt+5;rw[bF,bF];have:=AJ c hs (t:=t) h;have g:=E6 u;have i:(" ":U).length=1:=rfl;omega
 |.two o a b,h=>by show(("( ":U)++a.tx++(" ":U)++opS o++(" ":U)++b.tx++(" )":U)).length+10<=a.wt+b.wt;rw[bF,bF,bF,bF,bF,bF];have:=AJ c hs h.1;have:=AJ c hs h.2;have:=K7 o;have g:("( ":U).length=2:=rfl;have i:(" ":U).length=1:=rfl;have j:(" )":U).length=2:=rfl;omega
theorem K8:Vv [] Φ (.bin .Pow (.int 10)<|.int 34) a (.int 10000000000000000000000000000000000):=aI aE.e aE.e rfl rfl
def U9 (c:Int):∃L:List Int,L.length=32/\oW [.int c,.int 32]=.ok (.fr,L[()]):=by
 let E (L:List Int) a (b f g:Option GD):Rho:=[Y (.od,.int c),Y (.od,.int 32),Y (.fr,L[()]),Y (.al,.int a),b,f,g]
 let Q:Res Out->Prop:=λr=>∃L:List Int,L.length=32/\r=.ok (.rt .fr L[()])
 suffices h:Q (aH [] [] uk [Y (.od,.int c),Y (.od,.int 32),Z8,Z8,Z8,Z8,Z8]) by let{L,p,q}:=h;exact{L,p,eC q}
 refine aG (fS (dR bG) rfl) (aG (bZ<|aI (aC rfl) aE.e (jL ZP ZP) rfl)<|q_nm (xs:=dz 32) (xR (aW (aC rfl) bE)<|t9 ZP ZP) (λ_=>rfl) (λpre i=>∃L a b f g,i=E L a b f g/\L.length=pre.length) {[],_,Z8,Z8,Z8,rfl,rfl} ?_ ?_)
 .rintro pre k l i o ⟨L,a,b,f,g,rfl,j⟩
  have hk:k∈dz 32:=by rw[o];simp
  have s:=congrArg gq o;simp at s;have hk:=ef.mp hk;have t:∃n,0<=n/\n<2147483629/\(c%1000000007+7919*k*k+104729)*48271%2147483629=n:={_,by omega,by omega,rfl};let{n,A,B,u}:=t;have v:∃m,0<=m/\m<2147483587/\n*n%2147483587=m:={_,by omega,by omega,rfl};let{m,m0,C,w}:=v;refine aG (bZ<|aI (aI (aI (aI (aI (aC rfl) aE.e (cS ZP) rfl).e ((λh=>aI (aI aE.e (aC h) (oQ ZQ) rfl).e (aC h) (oQ ZQ) rfl) rfl).e rfl rfl).e aE.e rfl rfl).e aE.e (oQ ZP) rfl).e aE.e (by rw[cS ZP,u]) rfl)<|aG (bZ<|aI (aI (aC rfl) (aC rfl) (oQ ZQ) rfl).e aE.e (by rw[cS ZP,w]) rfl)<|aG (bZ<|aI (d:=.int<|m*(m+1)*69621*(m+k+2)/97) (aI (aI (aI (aC rfl) (aI (aC rfl) aE.e rfl rfl).e (oQ ZQ) rfl).e aE.e (oQ ZP) rfl).e (aI (aI (aC rfl) (aC rfl) rfl rfl).e aE.e rfl rfl).e (oQ ZQ) rfl).e aE.e (jL ZP ZP) rfl) ?_;generalize m*(m+1)*69621*(m+k+2)/97=z;refine aG (xQ (aI (aO (Ev.of<|dR (ds:=([z,a]:List Int).map .int)<|aF (v_var rfl rfl)<|aF (v_var rfl rfl) bG) (aI (aC rfl) aE.e (cS ZP) rfl).e (t7 ZQ<|(λx y=>by show c%2<2;omega) z a) rfl).e K8.e (cS ZP) rfl) rfl<|by grind)<|aG (bZ<|aI (aC rfl) K8.e (jL ZP ZP) rfl)<|pA {L++[([z,a]:List Int).getD (c%2).toNat 0%10000000000000000000000000000000000],a/10000000000000000000000000000000000,Y (.al,.int k),Y (.al,.int m),Y (.al,.int z),?_,by rw[ax,ax,j];rfl};simp only[E,cr];rfl
 .rintro i ⟨L,a,b,f,g,rfl,j⟩
  exact{L,j,bR<|z7s rfl}
abbrev nA (ns:List U)(i:Nat):U:=ns.getD i {#[]}
def pT (ns:List U):List U:=(cut ns Z8<|Y 3).map (λn=>("fact ":U)++n)++[("open ":U)++nA ns 3++(" for ":U)++nA ns 0++(" against ":U)++nA ns 1]++[("word ":U)++nA ns 4++(" if ":U)++nA ns 3]++[("open ":U)++nA ns 5++(" for against ":U)++nA ns 4]++[("claim ":U)++nA ns 6++(" if some ":U)++nA ns 2]
def K9:(cut ns Z8<|Y j).length<=ns.length:=by unfold cut;rw[du,df];omega
def U' (hn:ns.length=27)(hs:∀w∈ns,w.length<=13):yo [.list<|ns.map .str]=.ok (.fr,.list<|(pT ns).map .str):=by
 refine eC ?_;have a:∀i,i<27->(nA ns i).length<=13:=λi h=>hs _ (by have:=getD_mem (ns:=ns) (i:=i) (d:={#[]}) ZQ ZQ;rwa [dh]at this);have v:∀{f:Rho} (i:Nat),f[0]?=Y (Y (.od,ns[_]))->i<27->Vv [] [] (.ix (.var 0)<|.int i) f (.str<|nA ns i):=λi h o=>aO (aC h) aE.e (by rw[pO ZQ ZQ,dh]) rfl;have b:=z4d (Κ:=[]) (Φ:=[]) (ρ:=[Y (.od,ns[_]),Z8]) (nt:=1) (js:=[]) (N':=["_law_name"]) (tg:=.nm 0) (it:=.tv<|.sl (.var 0) .nil<|.tv<|.int 3) (elt:=.bin .Add (.str "fact ")<|.var 0) (λ_=>J) (λn=>.str<|("fact ":U)++n) (fI (jS (λ_=>rfl) (aC rfl) kC<|fL aE.e) rfl) rfl (λn=>[Y (.al,.str n)]) (λn _=>rfl) (λ_ _=>uc)<|λn hm _=>aI aN.e (aC rfl) (add_str (by have:=hs n<|ez<|e8 hm;show 5+n.length<=1000;omega)) rfl;rw[fv.mpr λ_ _=>rfl]at b;have m:((cut ns Z8<|Y 3).map λn=>ZX<|("fact ":U)++n)=((cut ns Z8<|Y 3).map λn=>("fact ":U)++n).map .str:=by rw[dw];rfl
 rw[m]at b;generalize hf:((cut ns Z8<|Y 3).map λn=>("fact ":U)++n)=fs at b;have fl:fs.length<=27:=by rw[<-hf,am];have:=K9 (ns:=ns) (j:=3);omega
 have p:=a 0 ZP;have q:=a 1 ZP;have r:=a 2 ZP;have s:=a 3 ZP;have t:=a 4 ZP;have u:=a 5 ZP;have y:=a 6 ZP;have l1:("open ":U).length=5:=rfl;have l2:(" for ":U).length=5:=rfl;have z:(" against ":U).length=9:=rfl;have A:("word ":U).length=5:=rfl;have B:(" if ":U).length=4:=rfl;have D:(" for against ":U).length=13:=rfl;have E:("claim ":U).length=6:=rfl;have F:(" if some ":U).length=9:=rfl;have g:∀{L:List U} {c:C} {x:U},L.length<=40->Vv [] [] c [Y (.od,ns[_]),Y (.fr,L[_])] (.str x)->aH [] [] (.mut "append" 1<|.cons c .nil) [Y (.od,ns[_]),Y (.fr,L[_])]=.ok (.nx [Y (.od,ns[_]),Y (.fr,.list<|(L++[x]).map .str)]):=λ{L c x} h k=>by rw[xQ k rfl (by grind),cr];rfl
 have l:∀{L:List U} {c:C} {x:U},L.length<=40->Vv [] [] c [Y (.od,ns[_]),Y (.fr,L[_])] (.str x)->aH [] [] (.ret<|.bin .Add (.var 1)<|.lst<|.cons c .nil) [Y (.od,ns[_]),Y (.fr,L[_])]=.ok (.rt .fr<|.list<|(L++[x]).map .str):=λ{L c x} h k=>by rw[cr];exact sr nofun (qY (aC rfl) (Ev.of<|dR<|aF k bG) (add_list (by rw[am];show L.length+1<=1000;omega))<|cr▸jG _)
 unfold pT;rw[hf];refine dI (fS b<|jG _) (dI (g ZQ<|aI (aI (aI (aI (v_add aN.e (v 3 rfl ZP).e ZQ).e aN.e (add_str (by rw[bF];omega)) rfl).e (v 0 rfl ZP).e (add_str (by rw[bF,bF];omega)) rfl).e aN.e (add_str (by rw[bF,bF,bF];omega)) rfl).e (v 1 rfl ZP).e (add_str (by rw[bF,bF,bF,bF];omega)) rfl)<|dI (g (by grind)<|aI (aI (v_add aN.e (v 4 rfl ZP).e ZQ).e aN.e (add_str (by rw[bF];omega)) rfl).e (v 3 rfl ZP).e (add_str (by rw[bF,bF];omega)) rfl)<|dI (g (by grind)<|aI (aI (v_add aN.e (v 5 rfl ZP).e ZQ).e aN.e (add_str (by rw[bF];omega)) rfl).e (v 4 rfl ZP).e (add_str (by rw[bF,bF];omega)) rfl)<|bR<|l (by grind)<|aI (aI (v_add aN.e (v 6 rfl ZP).e ZQ).e aN.e (add_str (by rw[bF];omega)) rfl).e (v 2 rfl ZP).e (add_str (by rw[bF,bF];omega)) rfl)
def sG (ns:List U):List D:=(cut ns Z8<|Y 3).map (λn=>ZV [.str "fact",.str n])++[.tuple [.str "open",.str<|nA ns 3,.tuple [.str<|nA ns 0],.tuple [.str<|nA ns 1]]]
def AK (ns:List U):List D:=[.tuple [.str "word",.str<|nA ns 4,.tuple [.str "is",.str<|nA ns 3]],.tuple [.str "open",.str<|nA ns 5,.tuple [],.tuple [.str<|nA ns 4]]]
def uv (ns:List U):List D:=sG ns++AK ns++[.tuple [.str "claim",.str<|nA ns 6,.tuple [.str "some",.tuple [.str "at",.str<|nA ns 2,.int 1]]]]
theorem yD (c:imms a=J)(d:imms b=J):imms (a++b)=true:=mX.mpr λx e=>(bg.mp e).elim (mX.mp c x) (mX.mp d x)
theorem yE (ns:List U):imms (sG ns)=true:=yD (mX.mpr λx a=>by let{n,_,rfl}:=ci.mp a;rfl) rfl
def Va (hn:ns.length=27):yp [.list<|ns.map .str]=.ok (.fr,.list<|uv ns):=by
 refine eC ?_;have v:∀{b:Rho} i,b[0]?=Y (Y (.od,ns[_]))->0<=i->i<27->Vv [] [] (.ix (.var 0)<|.int i) b (.str<|nA ns i.toNat):=λi h h0 d=>aO (aC h) aE.e (pO h0 ZQ) rfl;have c:=z4d (Κ:=[]) (Φ:=[]) (ρ:=[Y (.od,ns[_]),Z8]) (nt:=1) (js:=[]) (N':=["_law_name"]) (tg:=.nm 0) (it:=.tv<|.sl (.var 0) .nil<|.tv<|.int 3) (elt:=.tup<|.cons (.str "fact")<|.cons (.var 0) .nil) (λ_=>J) (λn=>.tuple [.str "fact",.str n]) (fI (jS (λ_=>rfl) (aC rfl) kC<|fL aE.e) rfl) rfl (λn=>[Y (.al,.str n)]) (λn _=>rfl) (λ_ _=>uc)<|λn hm _=>eD<|aF aN<|aF (v_var rfl rfl) bG;rw[fv.mpr λ_ _=>rfl]at c;have f:=K9 (ns:=ns) (j:=3);have g:(sG ns).length<=28:=by unfold sG;rw[ax,am];show _+1<=28;omega
 exact dI (fS (qY (Ev.of c) (Ev.of<|dR<|aF (eD<|aF (aN)<|aF (v 3 rfl ZP ZP)<|aF (eD<|aF (v 0 rfl ZP ZP) bG)<|aF (eD<|aF (v 1 rfl ZP ZP) bG) bG) bG) (add_list (by rw[am];show _+1<=1000;omega))<|yE ns)<|yE ns) (dI (fS (qY (ρ:=[Y (.od,ns[_]),Y (.fr,.list<|sG ns)]) (a:=.var 1) (xs:=sG ns++AK ns) (aC rfl) (Ev.of<|dR<|aF (eD<|aF (aN)<|aF (v 4 rfl ZP ZP)<|aF (eD<|aF (aN)<|aF (v 3 rfl ZP ZP) bG) bG)<|aF (eD<|aF (aN)<|aF (v 5 rfl ZP ZP)<|aF (eD bG)<|aF (eD<|aF (v 4 rfl ZP ZP) bG) bG) bG) (add_list (by show _+2<=1000;omega))<|yD (yE ns) rfl)<|yD (yE ns) rfl)<|bR<|sr nofun (qY (ρ:=[Y (.od,ns[_]),Y (.fr,.list<|sG ns++AK ns)]) (a:=.var 1) (xs:=uv ns) (aC rfl) (Ev.of<|dR<|aF (eD<|aF (aN)<|aF (v 6 rfl ZP ZP)<|aF (eD<|aF (aN)<|aF (eD<|aF (aN)<|aF (v 2 rfl ZP ZP)<|aF (aE) bG) bG) bG) bG) (add_list (by rw[ax];show _+2+1<=1000;omega))<|yD (yD (yE ns) rfl) rfl))
theorem vF:∀{a b:List U},a≠[]->b≠[]->eN [z] (a++b)=eN [z] a++[z]++eN [z] b
 | [],_,h,_=>absurd rfl h
 | [x],[],_,h=>absurd rfl h
 | [x],y::b,_,_=>by
  show eN [z] (x::y::b)=_;rw[iW];have:eN [z] [x]=x[[]]:=by show x[[]]++[]=_;rw[b7]
  rw[this];simp
 |x::y::a,b,_,h=>by show eN [z] (x::y::(a++b))=_;rw[iW,iW,show y::(a++b)=(y::a)++b from rfl,vF (z:=z) (a:=y::a) ZO h];simp
theorem AL:∀t:Tr,t.ws≠[]
 |.bO _ _=>by simp[Tr.ws]
 |.bP _=>by simp[Tr.ws]
 |.un _ _=>by simp[Tr.ws]
 |.two _ _ _=>by simp[Tr.ws]
def sI (z:List Nat)(x:U):eN z [x]=x[[]]:=by show x[[]]++[]=_;rw[b7]
theorem rJ:∀t:Tr,t.tx[[]]=eN [32] t.ws
 |.bO n f=>by show(n++(" >= ":U)++f)[[]]=eN [32] [n,">=",f];rw[dS,dS,iW,iW,sI,show(" >= ":U)[[]]=[32,62,61,32]from rfl,show(">=":U)[[]]=[62,61]from rfl];simp
 |.bP n=>by show n[[]]=eN [32] [n];rw[sI]
 |.un u t=>by show(eJ u++(" ":U)++t.tx)[[]]=eN [32] ([eJ u]++t.ws);rw[dS,dS,vF ZO<|AL t,sI,rJ t];rfl
 |.two o a b=>by show(("( ":U)++a.tx++(" ":U)++opS o++(" ":U)++b.tx++(" )":U))[[]]=eN [32] ([("(":U)]++(a.ws++([opS o]++(b.ws++[(")":U)]))));rw[dS,dS,dS,dS,dS,dS,vF ZO ZO,vF (AL a) ZO,vF ZO ZO,vF (AL b) ZO,sI,sI,sI,rJ a,rJ b,show("( ":U)[[]]=[40,32]from rfl,show(" ":U)[[]]=[32]from rfl,show(" )":U)[[]]=[32,41]from rfl,show("(":U)[[]]=[40]from rfl,show(")":U)[[]]=[41]from rfl];simp
theorem Vb (t:Tr):t.tx=z0u " " t.ws:=pQ (by rw[rJ,oY];rfl)
theorem AM (hn:∀w∈ns,Ch p1 w):∀{t:Tr},t.vB g ns->∀w∈t.ws,∀c∈w[[]],33<=c/\c<127
 |.bO n f,h,w,d=>by
  have d:w∈[n,">=",f]:=d;simp at d;rcases d with rfl|rfl|rfl
  .intro c e;have:=hn w h.1 c e;unfold p1 at this;rw[aj,decide_eq_true_eq,decide_eq_true_eq]at this;omega
  .decide
  .exact h.2.2
 |.bP n,h,w,d=>by rw[ai.mp d];intro c e;have:=hn n h c e;unfold p1 at this;rw[aj,decide_eq_true_eq,decide_eq_true_eq]at this;omega
 |.un u t,h,w,d=>by
  rcases ak.mp d with rfl|d
  .cases u<;>decide
  .exact AM hn (t:=t) h w d
 |.two o a b,h,w,d=>by
  rcases ak.mp d with rfl|d
  .decide
  rcases bg.mp d with d|d
  .exact AM hn h.1 w d
  rcases ak.mp d with rfl|d
  .cases o<;>decide
  rcases bg.mp d with d|d
  .exact AM hn h.2 w d
  .rw[ai.mp d];decide
def E9 {a:List U}:((a.map ZX).any λy=>bX y (match o with|some s=>.str s|none=>.none))=decide (∃s∈a,o=Y s):=by
 rw[i3,j9,decide_eq_true_iff];constructor
 .rintro⟨x,b,e⟩
  let{s,hs,rfl}:=ci.mp b;cases o with
  |none=>ext e
  |some w=>
   rw[iV]at e;have:s=w:=by simpa using e
   exact{s,hs,by rw[this]}
 .rintro⟨s,hs,rfl⟩
  refine{.str s,ci.mpr {(s),hs,rfl},?_};rw[iV];simp
abbrev kdS (c:Bool):U:=if c=J then "claim"else "word"
def zpz (a:isn w=J):rdRw isn nfg (kdS c::w::("if":U)::ws) b []=match inT3 (kdS c) w (rdM isn nfg (kdS c::w::("if":U)::ws) b c 8 3 [])with
  |none=>Z8
  |some (d,p,s)=>if p<(kdS c::w::("if":U)::ws).length then Z8 else Y (d,p,s):=by
 unfold rdRw dA;have hd:gC isn (kdS c::w::("if":U)::ws) 1=true:=by unfold gC;rw[show Mi.pk (kdS c::w::("if":U)::ws) 1=w from rfl,a];rfl
 rw[qq hd,qq hd];cases c with
 |true=>rw[show Mi.pk (kdS J::w::("if":U)::ws) 0="claim"from rfl];rfl
 |false=>rw[show Mi.pk (kdS Z6::w::("if":U)::ws) 0="word"from rfl];rfl
def uw {t:Tr}(a:isn w=J)(hn:∀n∈t.nms,isn n=J):rdRw isn nfg (kdS c::w::("if":U)::t.ws) ks []=if(t.dp<=8/\t.ok nfg=J)/\t.wf c=J then Y (.tuple [.str<|kdS c,.str w,t.lk nfg ks],3+t.ws.length,t.sy)else none:=by
 rw[zpz a,zrd (AD ZP) (show isn "("=Z6 by decide+kernel) (AD ZP) (AD ZP) t c 8 3 [] [] (by rw[b7];rfl) hn (by rw[EY];decide)];by_cases h:(t.dp<=8/\t.ok nfg=J)/\t.wf c=J
 .rw[qq h,qq h];show(if 3+t.ws.length<(kdS c::w::("if":U)::t.ws).length then Z8 else Y _)=_;rw[qr<|by grind];rfl
 .rw[qr h,qr h];rfl
def E' (d:D):Prop:=ui isn d/\∀s,kM isn nfg d=.tw s\/kM isn nfg d=.un s->ZY s=J
open Classical in
def pU:Fn:=λds=>match ds with
 | [d]=>if E' d then .ok (.fr,vq<|kM isn nfg d)else .no
 |_=>.no
def K' (W:Rx):Prop:=match W with|.tw s=>NW s|.un s=>NW s|_=>True
theorem NW.sk (h:NW s):ZY s=true:=UA (yx h.ch)
def Vc {W:Rx}(hr:∀r∈rs,mM r)(f:rs.length<=20)(hn:rs≠[])(h:iL isn nfg 0 [] [] rs=W)(b:K' W):pU [.str<|z0u "\n" rs]=.ok (.fr,vq W):=by
 have c:=Az UH (λr a=>UB (hr r a).asc) hn;have d:kM isn nfg (.str<|z0u "\n" rs)=W:=by show iL isn nfg 0 [] [] (spW 10<|z0u "\n" rs)=_;rw[c,h]
 have g:(z0u "\n" rs).length<=11801*20:=by exact bj (AB λr h=>(hr r h).len) (Nat.mul_le_mul (ag _) f)
 have ok:E' (.str<|z0u "\n" rs):=⟨⟨ES,λt e=>by
  ext e;exact{{UL hr,by unfold LIM;omega},by unfold LIM;omega,by rw[c];omega}⟩,λs z=>by
  rw[d]at z;rcases z with z|z<;>rw[z]at b<;>exact NW.sk b⟩
 rw[<-d];exact qq ok
theorem Vd (b:imms a=J)(c:a.length<=100)(d:∀e∈a,gX k [e,e]=.ok (.fr,.bool J)):gX (k+1) [.tuple a,.tuple a]=.ok (.fr,.bool J):=vz (.inl rfl) b c d
theorem Ap (h:imms a=J)(b:imm x=J):imms (a++[x])=true:=mX.mpr λe c=>(bg.mp c).elim (mX.mp h e) λz=>by rw[ai.mp z];exact b
def w7 (n0 n1 n2 n3 n4 n5 n6:U):List (List U):=[["fact",n0],["fact",n1],["fact",n2],pS n3 [n0] [n1],["word",n4,"if",n3],pS n5 [] [n4],["claim",n6,"if","some",n2]]
def d7 (n0 n1 n2 n3 n4 n5 n6:U):List D:=[.tuple [.str "fact",.str n0],.tuple [.str "fact",.str n1],.tuple [.str "fact",.str n2],yy n3 [n0] [n1],.tuple [.str "word",.str n4,.tuple [.str "is",.str n3]],yy n5 [] [n4],.tuple [.str "claim",.str n6,.tuple [.str "some",KU n2]]]
def k7 (n0 n1 n2 n3 n4 n5 n6:U):List (U×U):=[(n0,"fact"),(n1,"fact"),(n2,"fact"),(n3,"open"),(n4,"word"),(n5,"open"),(n6,"claim")]
theorem yF:∀{L:List U},(∀n∈L,∃s∈([("fact":U),("open":U),("word":U)]),lkG ks n=Y s)->bU ks (L.map λw=>eS w OFT)=Z8
 | [],_=>rfl
 |n::L,h=>by exact(qq<|E9.trans<|qx<|h n<|.head _).trans (yF λn hn=>h n<|.tail _ hn)
def rd7 (hd:([d,f,g,i,j,k,l]:List U).Nodup)(hn:∀x∈([d,f,g,i,j,k,l]:List U),isn x=J)(hs:∀ws∈w7 d f g i j k l,spW 32 (z0u " " ws)=ws)(rest:List U):
  iL isn nfg 0 [] [] ((w7 d f g i j k l).map (z0u " ")++rest)=iL isn nfg 7 (d7 d f g i j k l) (k7 d f g i j k l) rest:=by
 have sub:∀a b x,a++x::b=[d,f,g,i,j,k,l]->x∉a:=λa b x e z=>by rw[<-e,jc]at hd;exact hd.2.2 x z x (.head _) rfl
 have pre:∀a b,a++b=[d,f,g,i,j,k,l]->a.Nodup:=λa b e=>by rw[<-e,jc]at hd;exact hd.1
 have o:=hn d ZO;have p:=hn f ZO;have q:=hn g ZO;have r:=hn i ZO;have s:=hn j ZO;have u:lkG [(d,"fact"),(f,"fact"),(g,"fact"),(i,"open")] i=Y ("open":U):=rH (pre [d,f,g,i] [j,k,l] rfl) ZO;have w1:=uw (c:=Z6) (ks:=[(d,"fact"),(f,"fact"),(g,"fact"),(i,"open")]) (t:=.bP i) s (λx m=>by rw[ai.mp m];exact r);unfold Tr.lk at w1;rw[u]at w1;refine(uq ZP (hs _<|.head _) (E2 o) rfl rfl).trans<|(uq (ks:=[(d,"fact")]) ZP (hs _<|.tail _<|.head _) (E2 p) (ur<|sub [d] _ f rfl) rfl).trans<|(uq (ks:=[(d,"fact"),(f,"fact")]) ZP (hs _<|.tail _<|.tail _<|.head _) (E2 q) (ur<|sub [d,f] _ g rfl) rfl).trans<|(uq ZP (hs _<|.tail _<|.tail _<|.tail _<|.head _) (zen (nf:=nfg) (ks:=[(d,"fact"),(f,"fact"),(g,"fact")]) r (λx m=>by rw[ai.mp m];exact o) (λx m=>by rw[ai.mp m];exact p) (show 0≠4 by decide)) (ur<|sub [d,f,g] _ i rfl)<|yF (L:=[d,f]) λn h=>{"fact",by simp,rH (pre [d,f,g] _ rfl) (by simp at h;rcases h with rfl|rfl<;>simp)}).trans<|(uq ZP (hs _<|.tail _<|.tail _<|.tail _<|.tail _<|.head _) w1 (ur<|sub [d,f,g,i] _ j rfl)<|yF λn h=>{"open",by simp,by rw[ai.mp h];exact u}).trans<|(uq ZP (hs _<|.tail _<|.tail _<|.tail _<|.tail _<|.tail _<|.head _) (zen (nf:=nfg) (ks:=[(d,"fact"),(f,"fact"),(g,"fact"),(i,"open"),(j,"word")]) (a:=[]) (hn k ZO) nofun (λx m=>by rw[ai.mp m];exact s) (show 1≠4 by decide)) (ur<|sub [d,f,g,i,j] _ k rfl)<|yF λn h=>{"word",by simp,by rw[ai.mp h];exact rH (pre [d,f,g,i,j] _ rfl) ZO}).trans ?_;have l2:lkG [(d,"fact"),(f,"fact"),(g,"fact"),(i,"open"),(j,"word"),(k,"open")] g=Y ("fact":U):=rH (pre [d,f,g,i,j,k] _ rfl) ZO;have w2:=uw (c:=J) (ks:=[(d,"fact"),(f,"fact"),(g,"fact"),(i,"open"),(j,"word"),(k,"open")]) (t:=.un .so<|.bP g) (hn l ZO) (λx m=>by rw[ai.mp m];exact q);unfold Tr.lk Tr.lk at w2;rw[qq l2]at w2;refine(uq ZP (hs _<|.tail _<|.tail _<|.tail _<|.tail _<|.tail _<|.tail _<|.head _) w2 (ur<|sub [d,f,g,i,j,k] _ l rfl)<|yF λn h=>{"fact",by simp,by rw[ai.mp h];exact l2}).trans ?_;rfl
def Ve:∀(t:Tr) k,gX (k+t.dp+1) [t.lk nf ks,t.lk nf ks]=.ok (.fr,.bool J):=by
 have c:∀k a b i,gX (k+2) [.tuple [.str a,.str b,.int i],.tuple [.str a,.str b,.int i]]=.ok (.fr,.bool J):=λk a b i=>vz (.inl rfl) rfl (show 3<=100 by decide) λe d=>by
  simp at d;rcases d with rfl|rfl|rfl
  .exact nK k _
  .exact nK k _
  .exact ET k _
 intro t
 induction t with
 |bO n f=>intro k;exact c k _ _ _
 |bP n=>
  intro k;unfold Tr.lk;split
  .exact c k _ _ _
  .exact Ay (nK k _) (nK k _) rfl
 |un u t g=>intro k;exact Ay (nK (k+t.dp) _) (g k) (by show(J&&(imm (t.lk nf ks)&&J))=J;rw[t.bK];rfl)
 |two o a b h j=>
  intro k;refine vz (.inl rfl) (by show(J&&(imm (a.lk nf ks)&&(imm (b.lk nf ks)&&J)))=J;rw[a.bK,b.bK];rfl) (show 3<=100 by decide) λe d=>?_;simp at d;rcases d with rfl|rfl|rfl
  .exact nK (k+max a.dp b.dp) _
  .have :=h<|k+(max a.dp b.dp-a.dp);rw[show k+(max a.dp b.dp-a.dp)+a.dp+1=k+max a.dp b.dp+1 by omega]at this;exact this
  .have :=j<|k+(max a.dp b.dp-b.dp);rw[show k+(max a.dp b.dp-b.dp)+b.dp+1=k+max a.dp b.dp+1 by omega]at this;exact this
def yG (h:7<=ns.length):uv ns=d7 (nA ns 0) (nA ns 1) (nA ns 2) (nA ns 3) (nA ns 4) (nA ns 5) (nA ns 6):=by
 match ns,h with
 |a::b::c::r,h=>
  unfold uv sG AK;have e:cut (a::b::c::r) Z8 (Y 3)=[a,b,c]:=by show((a::b::c::r).drop 0).take (min 3 (r.length+3)-0)=_;rw[i6 ZQ];rfl
  rw[e];rfl
theorem rK (h:0<=v):Mi.bC n d (Y v)=min v.toNat n:=qr ZQ
def Vf {ns:List U}(h:j<=ns.length):cut ns Z8 (Y (j:Int))=ns.take j:=by unfold cut;rw[rK ZQ,dh,i6 h];rfl
def yH (hd:([a,b,c,d,f,g,i]:List U).Nodup)(n:U):n∈([a,b,c,d,f,g]:List U)↔∃s∈([("fact":U),("open":U),("word":U)]),lkG (k7 a b c d f g i) n=Y s:=by
 constructor
 .intro h
  have hm:∃s∈([("fact":U),("open":U),("word":U)]),(n,s)∈k7 a b c d f g i:=by
   simp at h;unfold k7;rcases h with rfl|rfl|rfl|rfl|rfl|rfl
   .exact{"fact",by simp,by simp}
   .exact{"fact",by simp,by simp}
   .exact{"fact",by simp,by simp}
   .exact{"open",by simp,by simp}
   .exact{"word",by simp,by simp}
   .exact{"open",by simp,by simp}
  let{s,hs,hm}:=hm;exact{s,hs,rH hd hm}
 .rintro⟨s,hs,e⟩
  by_cases h:n∈([a,b,c,d,f,g]:List U)
  .exact h
  .by_cases j:n=i
   .have k:lkG (k7 a b c d f g i) i=Y ("claim":U):=rH hd (by unfold k7;simp);rw[j,k]at e;ext e;exact absurd hs dc
   .have:lkG (k7 a b c d f g i) n=none:=zds fun z=>by
     exact(bg.mp z).elim h λz=>j (ai.mp z)
    rw[this]at e;ext e
def Fb (hd:([a,b,c,d,f,g,i]:List U).Nodup)(n:U):n∈([a,b,c]:List U)↔∃s∈([("fact":U)]),lkG (k7 a b c d f g i) n=Y s:=by
 constructor
 .intro h;refine{"fact",by simp,rH hd ?_};simp at h;unfold k7;rcases h with rfl|rfl|rfl<;>simp
 .rintro⟨s,hs,e⟩
  rw[ai.mp hs]at e;have j:=(yH hd n).mpr {"fact",by simp,e};have k:∀x s,(x,s)∈k7 a b c d f g i->s≠("fact":U)->n≠x:=λx s hm hs z=>by have:=rH (ks:=k7 a b c d f g i) hd hm;rw[<-z,e]at this;exact hs (qt this).symm
  simp at j ⊢;rcases j with h|h|h|h|h|h
  .exact .inl h
  .exact .inr (.inl h)
  .exact .inr (.inr h)
  .exact absurd h (k _ "open" (by unfold k7;simp) dc)
  .exact absurd h (k _ "word" (by unfold k7;simp) dc)
  .exact absurd h (k _ "open" (by unfold k7;simp) dc)
theorem Vg (h:w∉([a,b,c,d,e,f,g]:List U)):cJ (k7 a b c d e f g) w=false:=ur h
theorem zF (c:Ev Κ Φ a ρ x)(hk:(if xP x then !b else b)=k):Tt Κ Φ (.tv<|.nW b a) ρ k:=hk▸aT (SI c).e rfl
theorem Vh (n:U):z0u " " [n]=n:=pQ (by rw[oY];show n[[]]++[]=_;rw[b7])
def Fc (n:U):("fact ":U)++n=z0u " " ["fact",n]:=by have:=US "fact" n [] "fact " Z';rw[Vh]at this;exact this
theorem Vi (a b:U):("word ":U)++a++" if "++b=z0u " " ["word",a,"if",b]:=pQ (by rw[dS,dS,dS,oY,sF];show _=_++32::(_++32::(_++32::(b[[]]++[])));rw[show("word ":U)[[]]=("word":U)[[]]++[32]from Z',show(" if ":U)[[]]=32::(("if":U)[[]]++[32])from Z'];simp)
theorem Vj (a b:U):("claim ":U)++a++" if some "++b=z0u " " ["claim",a,"if","some",b]:=pQ (by rw[dS,dS,dS,oY,sF];show _=_++32::(_++32::(_++32::(_++32::(b[[]]++[]))));rw[show("claim ":U)[[]]=("claim":U)[[]]++[32]from Z',show(" if some ":U)[[]]=32::(("if":U)[[]]++32::(("some":U)[[]]++[32]))from Z'];simp)
def Tr.wq:Tr->Nat
 |.un .no t=>t.wq+1
 |.two _ a b=>a.wq+b.wq
 |_=>1
theorem AN:∀t:Tr,1<=t.wq
 |.bO _ _=>ag _
 |.bP _=>ag _
 |.un .no t=>ee (c9 _)
 |.un .so _=>ag _
 |.un .al _=>ag _
 |.two _ a b=>bj (AN a) (ig _ _)
def QP (ns:List U)(t:Tr):Prop:=t.GM J ns/\t.nd<=7*t.wq/\t.dp<=6+t.wq
theorem vG (ns:List U):Cl (QP ns) Tr.wq:=⟨AN,λ_ _ _=>rfl,λ_=>rfl,λo a b x y=>⟨K4 x.1 y.1,by
 show a.nd+b.nd<=7*(a.wq+b.wq);have:=x.2.1;have:=y.2.1;omega,by
 show max a.dp b.dp+1<=6+(a.wq+b.wq);have:=x.2.2;have:=y.2.2;have:=AN a;have:=AN b;omega⟩,λa x=>⟨x.1,by
 show a.nd+1<=7*(a.wq+1);have:=x.2.1;omega,by
 show a.dp+1<=6+(a.wq+1);have:=x.2.2;omega⟩⟩
def Vk (hu:u≠.no)(h:t.GM Z6 ns)(hn:t.nd<=6):QP ns (.un u t)/\(Tr.un u t).wq=1:=by
 have w:(Tr.un u t).wq=1:=by ext u<;>first|rfl|exact absurd rfl hu
 refine{{h,?_,?_},w}
 .rw[w];show t.nd+1<=7;omega
 .rw[w];show t.dp+1<=7;have:=yB t;omega
def Vl (h0:0<=i)(a:i<2):∃u,u≠.no/\iC (.list<|([("some":U),("all":U)]).map .str) (.int i)=.ok (.str<|eJ u):=by
 rcases(show i=0\/i=1 by omega)with rfl|rfl
 .exact{.so,nofun,rfl}
 .exact{.al,nofun,rfl}
abbrev RQ (x0 x1 x2:D)(ts:List Tr)(u4 u5 u6 u7:Option GD):Rho:=[Y (.od,x0),Y (.od,x1),Y (.od,x2),Y (.fr,.list<|ts.map Tr.enc),u4,u5,u6,u7]
def zjm {c d:D}{b:Tr}{W:C}(m:pre.length<=90)(g:Vv [] Φ W (RQ c d e (pre++[a]) (z0h u4) (z0h u5) (Y (.al,b.enc))<|z0h f)<|.str<|opS o):
  ∃h j k,aH [] Φ (.seq (.pop 6 3)<|.seq (.pap 3 W<|.cons (.var 6) .nil) .nil) (RQ c d e (pre++[a]++[b]) u4 u5 n f)=.ok (.nx<|RQ c d e (pre++[.two o a b]) h j (Y (.al,b.enc)) k):=by
 have l:=AF (ρ:=RQ c d e (pre++[a]) (z0h u4) (z0h u5) (Y (.al,b.enc))<|z0h f) (ρ1:=RQ c d e pre (z0h<|z0h u4) (z0h<|z0h u5) (Y (.al,b.enc))<|z0h<|z0h f) (i:=3) (a:=W) (r:=.cons (.var 6) .nil) (pre:=pre) (t:=a) rfl ZQ (by show[_,_,_,_,_,_,z0h<|Y (.al,b.enc),_]=_;rw[vx b.im];rfl) g<|aF (v_var rfl b.im) bG;refine{z0h<|z0h<|z0h u4,z0h<|z0h<|z0h u5,z0h<|z0h<|z0h f,dI (K0 rfl)<|dI (l.trans ?_) iH};show Res.ok (Out.nx [_,_,_,Y (.fr,.list<|pre.map Tr.enc++[.tuple [.str<|opS o,a.enc,b.enc]]),_,_,z0h<|Y (.al,b.enc),_])=_;rw[vx b.im];show _=Res.ok (Out.nx [_,_,_,Y (.fr,.list<|(pre++[Tr.two o a b]).map Tr.enc),_,_,_,_]);rw[vC];rfl
theorem AO {ts:List Tr}(h:ρ[3]?=Y (Y (g,.list<|ts.map Tr.enc))):Vv [] Φ (.bi "len"<|.cons (.var 3) .nil) ρ (.int (ts.length:Int)):=cF (aW (aC h) bE) (by show Res.ok (ZU ((ts.map Tr.enc).length:Int))=_;rw[am]) rfl
theorem La (h:0<=v):Mi.bC n d (Y v)=min v.toNat n:=qr ZQ
def Vm (h:L.length=30)(c:0<=k)(hk:k<=3)(h0:0<=m)(d:m<=5):cut L (Y<|7*k+1) (Y<|7*k+2+m)≠[]/\(cut L (Y<|7*k+1)<|Y<|7*k+2+m).length<=6:=by
 let{a,rfl}:=fk c;let{b,rfl}:=fk h0;have e:(cut L (Y<|7*a+1)<|Y<|7*a+2+b).length=1+b:=by unfold cut;rw[La ZQ,La ZQ,du,df];omega
 exact{λz=>by rw[z]at e;exact absurd (show 0=1+b from e) ZQ,by rw[e];omega}
def Vn {ds:List Int}(hn:ns.length=27)(hd:ds.length=30)(S:1<=B/\B<=4):∃t,QP ns t/\t.wq<=B.toNat/\yq [.list<|ds.map .int,ns[_],.int B]=.ok (.fr,t.enc):=by
 let Q:Res Out->Prop:=λr=>∃t,QP ns t/\t.wq<=B.toNat/\r=.ok (.rt .fr t.enc)
 suffices h:Q (aH [] [iN] EA [Y (.od,ds[()]),Y (.od,ns[_]),Y (.od,.int B),Z8,Z8,Z8,Z8,Z8]) by let{t,D,E,F}:=h;exact{t,D,E,eC F}
 refine aG (fS (dR bG) rfl) (q_nm (xR (aW (aC rfl) bE)<|t9 ZQ ZQ) (λ_=>rfl) (λpre p=>∃c j l f g,p=RQ ds[()] ns[_] (.int B) c j l f g/\jT (QP ns) Tr.wq pre.length c/\(pre≠[]->c≠[])) {[],Z8,Z8,Z8,Z8,rfl,{nofun,ag _},λz=>absurd rfl z} ?_ ?_)
 .rintro pre k A p C ⟨c,j,l,f,g,rfl,ok,ne⟩
  have v:=congrArg gq C;rw[ax,dk]at v;have w:k∈dz B.toNat:=by rw[C];simp
  have hk:=ef.mp w;have s:=vD (vG ns) ok;have pl:(pre++[k]).length=pre.length+1:=by simp
  refine aG (bZ<|aO (aC rfl) (aI aE.e (aC rfl) (t8 ZP) rfl).e (t7 ZQ ZQ) rfl) ?_;generalize ds.getD (7*(k:Int)).toNat 0=x;refine jU (eP (aT (k:=decide ((1:Int)<c.length)) (cL (k:=decide ((1:Int)<c.length)) (AO rfl).e aE.e rfl).e rfl) λ_=>aT (cL (aI (aC rfl) aE.e (cS ZP) rfl).e aE.e rfl).e rfl) (λh=>?_) λh=>jU (eP (aT (k:=decide ((0:Int)<c.length)) (cL (k:=decide ((0:Int)<c.length)) (AO rfl).e aE.e rfl).e rfl) λ_=>pR (aI (aC rfl) aE.e (cS ZP) rfl).e) (λh=>?_) λh=>?_
  .rw[aj,decide_eq_true_eq]at h;let{n,a,b,rfl}:=vb (ts:=c) (by grind);let{o,y}:=yC (i:=x/5%2) (.inl rfl) ZQ ZQ;have q:n.length<=90:=by simp at s;omega
   let{H,I,ZK,e}:=zjm (u4:=Y (.al,.int k)) (u5:=Y (.al,.int x)) (W:=.ix (.lst<|.cons (.str "and")<|.cons (.str "or") .nil)<|.bin .Mod (.bin .FloorDiv (.var 5)<|.int 5)<|.int 2) q<|aO (Ev.of<|dR<|aF aN<|aF aN bG) (aI (aI (aC rfl) aE.e (jL ZP ZP) rfl).e aE.e (cS ZP) rfl).e y rfl;exact{_,e,_,_,_,_,_,rfl,by rw[pl];exact K3<|AH (vG ns) ok,λ_ z=>by simp at z}
  .rw[aj]at h;let{n,a,rfl}:=va (ts:=c) (λz=>by rw[z]at h;have:=h.1;simp at this);have q:n.length<=90:=by simp at s;omega
   refine{_,dI (AF (Φ:=[iN]) (ρ:=RQ ds[()] ns[_] (.int B) (n++[a]) (Y (.al,.int k)) (Y (.al,.int x)) f g) (ρ1:=RQ ds[()] ns[_] (.int B) n (Y (.al,.int k)) (Y (.al,.int x)) (z0h f)<|z0h g) (i:=3) (a:=.str "not") rfl ZQ rfl aN bG) iH,n++[.un .no a],Y (.al,.int k),Y (.al,.int x),z0h<|z0h f,z0h<|z0h g,?_,by rw[pl];exact K2 (vG ns) ok,λ_ z=>by simp at z};show([_,_,_,Y (G.fr,ZW<|n.map Tr.enc++[(Tr.un .no a).enc]),_,_,_,_]:Rho)=_;rw[<-vC];rfl
  .let{K,T}:=Vm hd (k:=k) (m:=x/10%6) ZQ ZQ ZQ ZQ;let{t,L,ZL,M}:=K6 hn K ZQ;let{u,hu,N}:=Vl (i:=x/5%2) ZQ ZQ;let{O,R}:=Vk hu L ZQ;refine aG (bZ<|eO (aW (Ev.of<|jS (λ_=>rfl) (aC rfl) (fL (aI (d:=.int<|7*k+1) (aI aE.e (aC rfl) (t8 ZP) rfl).e aE.e rfl rfl).e)<|fL (aI (d:=.int<|7*k+2+x/10%6) (aI (aI aE.e (aC rfl) (t8 ZP) rfl).e aE.e rfl rfl).e (aI (aI (aC rfl) aE.e (jL ZP ZP) rfl).e aE.e (cS ZP) rfl).e rfl rfl).e)<|aW (aC rfl) bE) rfl M t.im)<|aG (xQ (eD<|aF (aO (Ev.of<|dR<|aF aN<|aF aN bG) (aI (aI (aC rfl) aE.e (jL ZP ZP) rfl).e aE.e (cS ZP) rfl).e N rfl)<|aF (v_var rfl t.im) bG) rfl<|by grind)<|pA {c++[.un u t],Y (.al,.int k),Y (.al,.int x),z0h f,z0h<|Y (.al,t.enc),?_,by rw[pl];exact K1 ok O R,λ_ z=>by simp at z};show([_,_,_,Y (G.fr,ZW<|c.map Tr.enc++[(Tr.un u t).enc]),_,_,_,_]:Rho)=_;rw[<-vC];rfl
 .rintro p ⟨c,j,l,f,g,rfl,ok,ne⟩
  rw[dk]at ok;have s:=vD (vG ns) ok;have V:=ky.mpr (ne λz=>by have:=congrArg gq z;rw[dk]at this;simp at this;omega);refine oP (P:=λp=>∃t j l f g,p=RQ ds[()] ns[_] (.int B) [t] j l f g/\jT (QP ns) Tr.wq B.toNat [t]) (λk p=>∃c j l f g,p=RQ ds[()] ns[_] (.int B) c j l f g/\jT (QP ns) Tr.wq B.toNat c/\c.length=k+1) (c.length-1) ZQ {c,j,l,f,g,rfl,ok,by omega} ?_ ?_
  .rintro k p ⟨c,j,l,f,g,rfl,ok,hk⟩
   have s:=vD (vG ns) ok;have tc:Tt [] [iN] (.tv<|.cmp .Gt (.bi "len"<|.cons (.var 3) .nil)<|.int 1) (RQ ds[()] ns[_] (.int B) c j l f g) (decide ((1:Int)<c.length)):=aT (cL (AO rfl).e aE.e rfl).e rfl;cases k with
   |zero=>let{n,a,rfl}:=va (ts:=c) (λz=>by rw[z]at hk;ext hk);have v:=dq (by simpa using hk);subst v;exact .inl {tc,a,_,_,_,_,rfl,ok}
   |succ k=>
    rw[qx ZQ]at tc;let{n,a,b,rfl}:=vb (ts:=c) ZQ;have q:n.length=k:=by simpa using hk
    let{o,y}:=yC (i:=((n++[a]).length:Int)%2) (.inr rfl) ZQ ZQ;let{H,I,ZK,e}:=zjm (W:=.ix (.lst<|.cons (.str "or")<|.cons (.str "and") .nil)<|.bin .Mod (.bi "len"<|.cons (.var 3) .nil)<|.int 2) ZQ<|aO (Ev.of<|dR<|aF aN<|aF aN bG) (aI (AO rfl).e aE.e (cS ZP) rfl).e y rfl;exact .inr {k,_,rfl,tc,e,_,_,_,_,_,rfl,AH (vG ns) ok,by simp[q]}
  .rintro p ⟨t,j,l,f,g,rfl,ok⟩
   exact{t,ok.1 t ZO,by have:=ok.2;simpa using this,bR<|dJ<|aO (aC rfl) aE.e rfl t.im}
inductive It where
 |tk (w:U)|tf (m:Bool) (t:Tr)
def kO (w:U):Un:=if w="not"then .no else if w="some"then .so else .al
def bL:List It->Option (List It)
 |.tf m t::.tk w::r=>if w="not"then Y (.tf m (.un .no t)::r)else if m=Z6/\(w="some"\/w="all")then Y (.tf J (.un (kO w) t)::r)else Z8
 |.tk c::.tf m b::.tk o::.tf m' a::.tk p::r=>if(c=")"/\p="(")/\(o="and"\/o="or")/\m'=m then Y (.tf m' (.two (decide (o="and")) a b)::r)else Z8
 |_=>Z8
theorem sJ:bL (.tf m t::.tk w::r)=if w="not"then Y (.tf m (.un .no t)::r)else if m=Z6/\(w="some"\/w="all")then Y (.tf J (.un (kO w) t)::r)else none:=rfl
theorem AQ:bL (.tk c::.tf m b::.tk o::.tf d a::.tk p::r)=if(c=")"/\p="(")/\(o="and"\/o="or")/\d=m then Y (.tf d (.two (decide (o="and")) a b)::r)else none:=rfl
def fP:Nat->List It->List It
 |0,s=>s
 |n+1,s=>match bL s with
  |some s'=>fP n s'
  |none=>s
def red (s:List It):List It:=fP s.length s
def It.ws:It->List U
 |.tk w=>[w]
 |.tf _ t=>t.ws
def yl:List It->List U
 | []=>[]
 |x::s=>yl s++x.ws
section
variable {nb:U->Bool}{nf:U->Option Int}
def It.ok (nb:U->Bool)(nf:U->Option Int):It->Prop
 |.tk _=>True
 |.tf m t=>t.wf m=J/\t.ok nf=J/\∀n∈t.nms,nb n=J
def Lb {w:U}(h:w=("some":U)\/w=("all":U)):eJ (kO w)=w/\∀t:Tr,(Tr.un (kO w) t).wf J=t.wf false:=by
 rcases h with rfl|rfl
 .exact{rfl,λ_=>rfl}
 .exact{rfl,λ_=>rfl}
def Fd {o:U}(h:o=("and":U)\/o=("or":U)):opS (decide (o="and"))=o:=by rcases h with rfl|rfl<;>rfl
def Vo (e:bL s=Y g)(h:∀x∈s,x.ok nb nf):(g.length<s.length/\yl g=yl s)/\∀x∈g,x.ok nb nf:=by
 unfold bL at e;split at e
 .rename_i m t w r;have i:=h _<|.head _;have hr:=λx d=>h x<|.tail _<|.tail _ d;split at e
  .rename_i j;subst j;ext e
   exact⟨{by simp,by simp[yl,It.ws,Tr.ws,eJ]},λx d=>by
    rcases ak.mp d with rfl|d
    .exact i
    .exact hr x d⟩
  .split at e
   .rename_i hm;let{rfl,j}:=hm;ext e;let{q,u}:=Lb j
    exact⟨{by simp,by simp[yl,It.ws,Tr.ws,q]},λx d=>by
     rcases ak.mp d with rfl|d
     .exact{(u t).trans i.1,i.2}
     .exact hr x d⟩
   .cases e
 .rename_i c m b o f a p r;split at e
  .rename_i v;let{{rfl,rfl},y,rfl}:=v;ext e;have k:=h (.tf f b) ZO;have l:=h (.tf f a) ZO;refine{{by simp only[ay];omega,by simp[yl,It.ws,Tr.ws,Fd y]},λx d=>?_};rcases ak.mp d with rfl|d
   .refine{?_,?_,λn hn=>(bg.mp hn).elim (l.2.2 n)<|k.2.2 n}
    .show(a.wf f&&b.wf f)=J;rw[l.1,k.1];rfl
    .show(a.ok nf&&b.ok nf)=J;rw[l.2.1,k.2.1];rfl
   .exact h x (by simp[d])
  .cases e
 .cases e
def yI (e:bL s=Y s'):s'.length<s.length:=by
 unfold bL at e;split at e
 .split at e
  .cases e;simp
  .split at e
   .cases e;simp
   .cases e
 .split at e
  .cases e;simp only[ay];omega
  .cases e
 .cases e
theorem Lc:∀{n k:Nat} {s:List It},s.length<=n->s.length<=k->fP n s=fP k s
 |0,0,_,_,_=>rfl
 |0,k+1,s,h,_=>by have:s=[]:=dq<|qc.mp h;subst this;rfl
 |n+1,0,s,_,h=>by have:s=[]:=dq<|qc.mp h;subst this;rfl
 |n+1,k+1,s,b,c=>by
  show(match bL s with|some a=>fP n a|none=>s)=(match bL s with|some a=>fP k a|none=>s);cases e:bL s with
  |none=>rfl
  |some a=>have:=yI e;exact Lc ZQ ZQ
def yJ (e:bL s=Y a):red s=red a:=by have:=yI e;unfold red;obtain⟨k,hk⟩:∃k,s.length=k+1:={s.length-1,by omega};rw[hk];show(match bL s with|some a=>fP k a|none=>s)=_;rw[e];exact Lc ZQ (ag _)
def AR (e:bL s=Z8):red s=s:=by
 unfold red;cases s.length with
 |zero=>rfl
 |succ k=>show(match bL s with|some a=>fP k a|none=>s)=_;rw[e]
def Vp (h:∀x∈s,x.ok nb nf):yl (red s)=yl s/\∀x∈red s,x.ok nb nf:=by
 unfold red;generalize s.length=n
 induction n generalizing s with
 |zero=>exact{rfl,(h)}
 |succ n b=>
  show yl (match bL s with|some a=>fP n a|none=>s)=_/\∀x∈(match bL s with|some a=>fP n a|none=>s),x.ok nb nf;cases e:bL s with
  |none=>exact{rfl,(h)}
  |some a=>let{{_,c},d}:=Vo e h;have:=b d;exact{this.1.trans c,this.2}
theorem Vq {c:U}(h:c≠")"):red (.tk c::s)=.tk c::s:=AR (by
 unfold bL;split
 .rename_i e;ext e
 .rename_i e;ext e;rw[qr λz=>h z.1.1]
 .rfl)
def runN (nb:U->Bool)(nf:U->Option Int):Nat->List It->List U->Option (List It)
 |_,s,[]=>Y s
 |0,_,_::_=>Z8
 |n+1,s,w::r=>if nb w=J then(if Mi.pk r 0=">="then(if(nmOk nf<|Mi.pk r 1).isSome=J then runN nb nf n (red (.tf Z6 (.bO w<|Mi.pk r 1)::s)) (r.drop 2)else Z8)else runN nb nf n (red (.tf Z6 (.bP w)::s)) r)else runN nb nf n (red (.tk w::s)) r
def runW (nb:U->Bool)(nf:U->Option Int)(s:List It)(ws:List U):Option (List It):=runN nb nf ws.length s ws
theorem AS:∀{n k:Nat} {s:List It} {ws:List U},ws.length<=n->ws.length<=k->runN nb nf n s ws=runN nb nf k s ws
 |n,k,s,[],_,_=>by ext n<;>ext k<;>rfl
 |0,_,_,_::_,h,_=>absurd h ZO
 |_,0,_,_::_,_,h=>absurd h ZO
 |n+1,k+1,s,w::r,a,b=>by
  have l1:=ek a;have l2:=ek b;have d:(r.drop 2).length<=r.length:=by rw[df];omega
  unfold runN;rw[AS (s:=red (.tf Z6 (.bO w<|Mi.pk r 1)::s)) (bj d l1)<|bj d l2,AS (s:=red (.tf Z6 (.bP w)::s)) l1 l2,AS l1 l2]
def vH:runW nb nf s (w::r)=if nb w=J then(if Mi.pk r 0=">="then(if(nmOk nf<|Mi.pk r 1).isSome=J then runW nb nf (red (.tf Z6 (.bO w<|Mi.pk r 1)::s)) (r.drop 2)else Z8)else runW nb nf (red (.tf Z6 (.bP w)::s)) r)else runW nb nf (red (.tk w::s)) r:=by show runN nb nf (r.length+1) s (w::r)=_;unfold runN runW;rw[AS (by grind)<|ag _]
def Vr (h0:Mi.pk r 0=">=")(c:Mi.pk r 1≠""):r=(">=":U)::Mi.pk r 1::r.drop 2:=by
 rcases r with _|⟨a,_|⟨b,r⟩⟩
 .exact absurd rfl c
 .exact absurd rfl c
 .have :a=">=":=h0;subst this;rfl
theorem Ld (f:nf ""=Z8):∀{n:Nat} {s a:List It} {ws:List U},ws.length<=n->runW nb nf s ws=Y a->(∀x∈s,x.ok nb nf)->yl a=yl s++ws/\∀x∈a,x.ok nb nf
 |_,s,a,[],_,e,h=>by have:s=a:=qt e;subst this;exact{(b7 _).symm,h}
 |0,_,_,_::_,b,_,_=>absurd b ZO
 |n+1,s,a,w::r,b,e,h=>by
  have b:=ek b;rw[vH]at e;have go:∀{x:It} {ws:List U},x.ok nb nf->ws.length<=n->runW nb nf (red (x::s)) ws=Y a->w::r=x.ws++ws->yl a=yl s++w::r/\∀x∈a,x.ok nb nf:=λ{x ws} g i j k=>by let{l,m}:=Vp λy o=>(ak.mp o).elim (λz=>z▸g)<|h y;let{p,q}:=Ld f i j m;exact{by rw[p,l,k];show(yl s++x.ws)++ws=_;rw[jb],q}
  by_cases c:nb w=J
  .rw[qq c]at e;by_cases d:Mi.pk r 0=">="
   .rw[qq d]at e;by_cases hk:(nmOk nf<|Mi.pk r 1).isSome=J
    .rw[qq hk]at e;have ne:Mi.pk r 1≠"":=λz=>by rw[z]at hk;unfold nmOk at hk;rw[f]at hk;ext hk
     exact go (x:=.tf Z6<|.bO w<|Mi.pk r 1) {rfl,hk,λn hn=>by rw[ai.mp hn];exact c} (by grind) e (congrArg (w:: ·)<|Vr d ne)
    .rw[qr hk]at e;ext e
   .rw[qr d]at e;exact go (x:=.tf Z6<|.bP w) {rfl,rfl,λn hn=>by rw[ai.mp hn];exact c} b e rfl
  .rw[qr c]at e;exact go (x:=.tk w) trivial b e rfl
def zvr (k:nb "not"=Z6)(l:nb "("=Z6)(p:nb "some"=Z6)(q:nb "all"=Z6)(v:nb "and"=Z6)(w:nb "or"=Z6)(x:nb ")"=Z6):∀t m s rest,t.wf m=J->t.ok nf=J->(∀n∈t.nms,nb n=J)->Mi.pk rest 0≠">="->
  runW nb nf s (t.ws++rest)=runW nb nf (red (.tf m t::s)) rest:=by
 have tk:∀{s:List It} {c:U} {r:List U},nb c=Z6->c≠")"->runW nb nf s (c::r)=runW nb nf (.tk c::s) r:=λh y=>by rw[vH,qr (by rw[h];decide),Vq y]
 intro t
 induction t with
 |bO n f=>
  intro m s rest d g hn hr;cases m with
  |true=>ext d
  |false=>show runW nb nf s (n::(">=":U)::f::rest)=_;rw[vH,qq<|hn n<|.head _,qq (show(nmOk nf<|Mi.pk ((">=":U)::f::rest) 1).isSome=J from g)];rfl
 |bP n=>
  intro m s rest d g hn hr;cases m with
  |true=>ext d
  |false=>show runW nb nf s (n::rest)=_;rw[vH,qq<|hn n<|.head _,qr hr]
 |un u t i=>
  intro m s rest d g hn hr;show runW nb nf s (eJ u::(t.ws++rest))=_;have hu:nb (eJ u)=Z6/\eJ u≠")":=by ext u<;>first|exact⟨k,by decide⟩|exact⟨p,by decide⟩|exact⟨q,by decide⟩
  rw[tk hu.1 hu.2];cases u with
  |no=>rw[i m _ rest d g hn hr];exact congrArg (runW nb nf · rest) (yJ<|sJ.trans<|qq rfl)
  |so=>have d:(m&&t.wf Z6)=true:=d;rw[aj]at d;rw[d.1,i Z6 _ rest d.2 g hn hr];exact congrArg (runW nb nf · rest) (yJ<|sJ.trans<|(qr ZP).trans<|qq {rfl,.inl rfl})
  |al=>have d:(m&&t.wf Z6)=true:=d;rw[aj]at d;rw[d.1,i Z6 _ rest d.2 g hn hr];exact congrArg (runW nb nf · rest) (yJ<|sJ.trans<|(qr ZP).trans<|qq {rfl,.inr rfl})
 |two o a b A B=>
  intro m s rest d g hn hr;have d:(a.wf m&&b.wf m)=true:=d;have g:(a.ok nf&&b.ok nf)=true:=g;rw[aj]at d g;have e:(Tr.two o a b).ws++rest=("(":U)::(a.ws++opS o::(b.ws++(")":U)::rest)):=by simp[Tr.ws]
  have j:nb (opS o)=Z6/\opS o≠")"/\opS o≠">=":=by ext o<;>first|exact⟨v,by decide,by decide⟩|exact⟨w,by decide,by decide⟩
  rw[e,tk l ZP,A m _ (opS o::(b.ws++(")":U)::rest)) d.1 g.1 (λn h=>hn n<|cq _ h) j.2.2];rw[AR (s:=.tf m a::.tk "("::s) (by rw[sJ,qr ZP,qr<|λz=>absurd z.2 ZP]),tk j.1 j.2.1,B m _ _ d.2 g.2 (λn h=>hn n<|bp _ h) (by rw[sX];decide)];rw[AR (s:=.tf m b::.tk (opS o)::.tf m a::.tk "("::s) (by rw[sJ,qr (by ext o<;>decide),qr<|λz=>absurd z.2 (by ext o<;>decide)]),vH,qr (by rw[x];decide)];refine congrArg (runW nb nf · rest)<|yJ ?_;rw[AQ,qq {{(rfl),rfl},KW o,rfl}];have:decide (opS o="and")=o:=by ext o<;>decide
  rw[this]
def sM (e:Mi.pk ws p=x)(h:x≠""):ws.drop p=x::ws.drop (p+1):=by
 cases hd:ws.drop p with
 |nil=>exact absurd ((EZ hd).symm.trans e).symm h
 |cons y r=>rw[<-e,(lG hd).1,(lG hd).2]
theorem AU (i0:nb ""=Z6)(n0:nf ""=Z8):∀(r:Nat) (m:Bool) (p:Nat) (sd:List D) (d:D) (q:Nat) (s':List D),rdM nb nf ws ks m r p sd=Y (d,q,s')->∃t:Tr,t.wf m=J/\t.ok nf=J/\(∀n∈t.nms,nb n=J)/\ws.drop p=t.ws++ws.drop q
 |0,m,p,sd,d,q,s',e=>by ext m<;>ext e
 |r+1,m,p,sd,d,q,s',e=>by
  have bo:∀{f:Nat->List D->Ro},(∀p sd d q s',f p sd=Y (d,q,s')->rdM nb nf ws ks m r p sd=Y (d,q,s'))->kJ ws f p sd=Y (d,q,s')->∃t:Tr,t.wf m=J/\t.ok nf=J/\(∀n∈t.nms,nb n=J)/\ws.drop p=t.ws++ws.drop q:=λ{f} hf e=>by
   unfold kJ at e;split at e
   case isFalse=>ext e
   rename_i h0;split at e
   .cases e
   rename_i d1 p1 s1 e1;split at e
   case isFalse=>ext e
   rename_i ho;split at e
   .cases e
   rename_i d2 p2 s2 e2;split at e
   case isFalse=>ext e
   rename_i hc;ext e;let{a,a1,a2,a3,a4}:=AU i0 n0 r m _ _ _ _ _<|hf _ _ _ _ _ e1;let{b,b1,b2,b3,b4}:=AU i0 n0 r m _ _ _ _ _<|hf _ _ _ _ _ e2;refine{.two (decide (Mi.pk ws p1="and")) a b,?_,?_,λn hn=>(bg.mp hn).elim (a3 n)<|b3 n,?_}
   .show(a.wf m&&b.wf m)=J;rw[a1,b1];rfl
   .show(a.ok nf&&b.ok nf)=J;rw[a2,b2];rfl
   .rw[sM h0 ZP,a4,sM rfl (by rcases ho with h|h<;>rw[h]<;>decide),b4,sM hc ZP];show _=(("(":U)::(a.ws++opS _::(b.ws++[(")":U)])))++_;rw[Fd ho];simp
  have un:∀{u:Un} {m':Bool} {x:U},Mi.pk ws p=x->x≠""->eJ u=x->(∀t:Tr,t.wf m'=J->(Tr.un u t).wf m=J)->∀{o:Ro},o=rdM nb nf ws ks m' r (p+1) sd->fN x o=Y (d,q,s')->∃t:Tr,t.wf m=J/\t.ok nf=J/\(∀n∈t.nms,nb n=J)/\ws.drop p=t.ws++ws.drop q:=λ{u m' x} h0 hx hu hw {o} ho e=>by
   cases o with
   |none=>ext e
   |some z=>let{d1,p1,s1}:=z;ext e;let{t,t1,t2,t3,t4}:=AU i0 n0 r m' _ _ _ _ _ ho.symm;refine{.un u t,hw t t1,t2,t3,?_};rw[sM h0 hx,t4];show _=eJ u::t.ws++_;rw[hu];rfl
  cases m with
  |true=>
   have e:z1p nb nf ws ks (r+1) p sd=_:=e;rw[yz]at e;split at e
   .exact bo (λ_ _ _ _ _ z=>z) e
   split at e
   .rename_i h0;exact un (u:=.no) h0 ZP rfl (λ_ z=>z) rfl e
   split at e
   .rename_i h0;rcases h0 with h0|h0
    .rw[h0]at e;exact un (u:=.so) h0 ZP rfl (λ_ z=>z) rfl e
    .rw[h0]at e;exact un (u:=.al) h0 ZP rfl (λ_ z=>z) rfl e
   .cases e
  |false=>
   have e:z18 nb nf ws ks (r+1) p sd=_:=e;rw[vA]at e;split at e
   .rename_i h0;exact un (u:=.no) h0 ZP rfl (λ_ z=>z) rfl e
   split at e
   .exact bo (λ_ _ _ _ _ z=>z) e
   unfold iJ at e;split at e
   case isFalse=>ext e
   rename_i hb;have ne:Mi.pk ws p≠"":=λz=>by rw[z,i0]at hb;ext hb
   split at e
   .rename_i hg;unfold kI at e;rw[qq hg]at e;cases hf:nf (Mi.pk ws<|p+1+1)with
    |none=>rw[hf]at e;ext e
    |some k=>
     rw[hf]at e
     dsimp only at e
     by_cases hk:1<=k/\k<=10 ^ 30
     .rw[qq hk]at e;ext e;refine{.bO (Mi.pk ws p)<|Mi.pk ws<|p+1+1,rfl,?_,λn hn=>by rw[ai.mp hn];exact hb,?_}
      .show(nmOk nf _).isSome=J;unfold nmOk;rw[hf];dsimp only;rw[qq hk];rfl
      .rw[sM rfl ne,sM hg ZP,sM rfl (λz=>by rw[z,n0]at hf;ext hf)];rfl
     .rw[qr hk]at e;ext e
   .cases e;exact{.bP<|Mi.pk ws p,rfl,rfl,λn hn=>by rw[ai.mp hn];exact hb,sM rfl ne}
end
def isOne (c:Bool):Option (List It)->Option Tr
 |some [.tf m t]=>if m=c/\t.dp<=8 then Y t else Z8
 |_=>Z8
def Vs:isn ""=false:=by decide+kernel
def Vt:isn "not"=Z6/\isn "("=Z6/\isn "some"=Z6/\isn "all"=Z6/\isn "and"=Z6/\isn "or"=Z6/\isn ")"=false:=by decide+kernel
def Fe:runW isn nfg [] ws=Y [.tf m t]↔ws=t.ws/\t.wf m=J/\t.ok nfg=J/\∀n∈t.nms,isn n=true:=by
 constructor
 .intro e;let{a,b}:=Ld EX (ag _) e nofun;have c:=b _<|.head _;exact{by have a:[]++t.ws=[]++ws:=a;simpa using a.symm,c}
 .rintro⟨rfl,a,b,c⟩
  let{d,f,g,h,i,j,k7}:=Vt;have:=zvr d f g h i j k7 t m [] [] a b c (by rw[EY];decide);rw[b7]at this;rw[this];rfl
def Vu (b:isn w=J):rdRw isn nfg (kdS c::w::("if":U)::ws) d []=(isOne c<|runW isn nfg [] ws).map λt=>(.tuple [.str<|kdS c,.str w,t.lk nfg d],3+ws.length,t.sy):=by
 by_cases h:∃(t:Tr) (m:Bool),ws=t.ws/\t.wf m=J/\t.ok nfg=J/\∀n∈t.nms,isn n=J
 .let{t,m,f,a,g,i}:=h;rw[Fe.mpr {(f),a,g,i}];subst f;rw[uw b i];show _=Option.map _ (if m=c/\t.dp<=8 then Y t else Z8);by_cases hm:m=c/\t.dp<=8
  .rw[qq hm,qq {{hm.2,(g)},hm.1▸a}];rfl
  .rw[qr hm,qr λz=>hm {?_,z.1.1}]
   .rfl
   .have :=E4 t m a;ext m<;>ext c<;>first|rfl|exact absurd (z.2.symm.trans this) ZP
 .have k:isOne c (runW isn nfg [] ws)=none:=by
   unfold isOne;split
   .rename_i m t e;exact absurd {t,m,Fe.mp e} h
   .rfl
  rw[k,zpz b];cases e:rdM isn nfg (kdS c::w::("if":U)::ws) d c 8 3 []with
  |none=>rfl
  |some z=>refine qq<|Classical.byContradiction λl=>h ?_;let{t,o,p,q,j}:=AU Vs EX _ _ _ _ _ _ _ e;rw[iu<|qk.mp l,b7]at j;exact{(t),c,j,o,p,q}
def Vw (c:Nat):decide (c∈("abcdefghijklmnopqrstuvwxyz":U)[[]])=p1 c:=by
 have e:("abcdefghijklmnopqrstuvwxyz":U)[[]]=List.range' 97 26:=by decide+kernel
 rw[e,i3,decide_eq_true_iff,List.mem_range'_1];unfold p1;rw[aj,decide_eq_true_eq,decide_eq_true_eq];omega
def Vx (a:w.length<=1000):z54 (.str w)=.ok (w[[]].map λc=>ZX {#[c]}):=by show(if w.length<=LIM then _ else _)=_;rw[qq (by unfold LIM;omega)]
def Le (h:w.length<=1000):rF [.str w]=.ok (.fr,.bool<|isn w):=by
 refine eC ?_
 let Q:Res Out->Prop:=λr=>r=.ok (.rt .fr<|.bool<|isn w)
 show Q _;refine zhq (SK rfl ZP rfl<|Vx h) (λpre a=>(∃u,a=[Y (.od,.str w),u])/\pre.all p1=J) {{(Z8),rfl},rfl} ?_ ?_
 .rintro pre x d a i ⟨⟨u,rfl⟩,c⟩
  refine{[Y (.od,.str w),Y (.al,.str {#[x]})],rfl,?_};have f:Tt [] [] (.tv<|.cmp .NotIn (.var 1)<|.str "abcdefghijklmnopqrstuvwxyz") [Y (.od,.str w),Y (.al,.str {#[x]})] (!(p1 x)):=aT (cL (aC rfl) aN.e (by show(Res.ok (decide (x∈("abcdefghijklmnopqrstuvwxyz":U)[[]]))>>=λb=>Res.ok<|!b)=_;rw[Vw];rfl)).e rfl;cases hd:p1 x with
  |true=>exact .inl {_,gK f (by rw[hd];rfl) iH,{_,rfl},by rw[List.all_append,c,b8,hd];rfl}
  |false=>
   refine .inr {.fr,.bool Z6,iU f (by rw[hd];rfl)<|bR<|dJ iG,?_};show _=Res.ok (Out.rt .fr<|.bool<|isn w)
   have:w[[]].all p1=false:=by
    cases j:w[[]].all p1 with
    |false=>rfl
    |true=>have:=bc.mp j x (by rw[i];simp);rw[hd]at this;ext this
   unfold isn;rw[this,Bool.false_and,Bool.and_false]
 .rintro a ⟨⟨u,rfl⟩,c⟩
  show aH _ _ _ _=Res.ok (Out.rt .fr<|.bool<|isn w);have g:Tt [] [] (.tv<|.cmp .In (.var 0)<|.lst<|.cons (.str "and")<|.cons (.str "or")<|.cons (.str "not")<|.cons (.str "if")<|.cons (.str "is")<|.cons (.str "some")<|.cons (.str "all")<|.cons (.str "for")<|.cons (.str "against") .nil) [Y (.od,.str w),u] (pB w):=aT (cL (aC rfl) (Ev.of<|dR<|aF aN<|aF aN<|aF aN<|aF aN<|aF aN<|aF aN<|aF aN<|aF aN<|aF aN bG) rfl).e rfl;unfold isn;rw[c];cases hk:pB w with
  |true=>rw[show(J&& !true)=Z6 from rfl,Bool.and_false];exact iU g hk (bR<|dJ iG)
  |false=>rw[show(J&& !false)=J from rfl,Bool.and_true];exact gK g hk (bR<|dJ<|yw aE.e (cF (aW (aC rfl) bE) (len_str (by unfold LIM;omega)) rfl).e aE.e rfl rfl)
def Lf:∀c,c<128->Unicode.isDigit c=iP c:=by decide+kernel
def Vy (h:Ev [] Φ a b<|.str z):Vv [] Φ (.dig a) b (.bool (decide (z.length>0)&&z.cps.all Unicode.isDigit)):=by let{g,h}:=h;refine{?_,rfl};show(aJ [] Φ a b>>=λx=>tN x.2>>=λd=>Res.ok (G.fr,d))=_;rw[h];rfl
def Vz {f:U}(h:∀c∈f[[]],c<128):(decide (f.length>0)&&f.cps.all Unicode.isDigit)=(decide (f.length>0)&&f[[]].all iP):=by
 congr 1
 rw[<-j7,i3,bc,bc];exact{λz c a=>by rw[<-Lf c (h c a)];exact z c a,λz c a=>by rw[Lf c<|h c a];exact z c a}
theorem Lg:∀(l:List Nat) n,n<=l.foldl (λn c=>n*10+(c-48)) n
 | [],n=>ag _
 |c::l,n=>bj ZQ (Lg l<|n*10+(c-48))
def VA (a:iP c=J)(h:c≠48):1<=iD (c::r):=by unfold iP at a;rw[aj,decide_eq_true_eq]at a;exact bj (show 1<=0*10+(c-48) by omega) (Lg r _)
section
variable {Κ:List D}{Φ:List Fn}{ρ:Rho}{c:C}{a b:S}
def AV (h:Tt Κ Φ c ρ J):aH Κ Φ (.bW c a b) ρ=aH Κ Φ a ρ:=by show(dP Κ Φ c ρ>>=λk=>if k then aH Κ Φ a ρ else aH Κ Φ b ρ)=_;rw[h];rfl
def Fg (h:Tt Κ Φ c ρ Z6):aH Κ Φ (.bW c a b) ρ=aH Κ Φ b ρ:=by show(dP Κ Φ c ρ>>=λk=>if k then aH Κ Φ a ρ else aH Κ Φ b ρ)=_;rw[h];rfl
end
def VB (o:f.length<=1000)(h:∀c∈f[[]],c<128):Au [.str f]=.ok (.fr,.bool (nmOk nfg f).isSome):=by
 refine eC ?_
 let Q:Res Out->Prop:=λr=>r=.ok (.rt .fr<|.bool (nmOk nfg f).isSome)
 show Q (aH [] [] EC [Y (.od,.str f)]);have j:=str_len f;refine mL (gT (qP<|aT (Vy<|aC rfl).e (by rw[Vz h];rfl)) λz=>gT (aT (cL (k:=decide ((31:Int)<f.length)) (cF (aW (aC rfl) bE) (len_str (by unfold LIM;omega)) rfl).e aE.e rfl).e rfl) (k':=decide (f[[]].head?=Y 48)) λ_=>?_) (λn=>{_,_,bR<|dJ iG,?_}) λl=>?_
 .cases e:f[[]] with
  |nil=>rw[e]at j;rw[show f.length=0 from j.symm]at z;ext z
  |cons x r=>exact aT (cL (k:=decide (Y x=Y 48)) (aO (aC rfl) aE.e (KN e o) rfl).e aN.e<|(KO x 48).trans ZO).e rfl
 .have:nmOk nfg f=none:=by
   unfold nmOk nfg;split
   .rename_i i e;split at e
    case isFalse=>ext e
    rename_i m;ext e;rw[m.2.1,qx (show f.length>0 by omega),qy (show ¬(31:Int)<f.length by omega)]at n;have a:=qw n;cases e:f[[]] with
    |nil=>rw[e]at a;ext a
    |cons x r=>
     rw[e]at a m;obtain rfl:x=48:=qt a;cases r with
     |nil=>rfl
     |cons y r=>exact absurd {rfl,by simp} m.2.2
   .rfl
  show _=Res.ok (Out.rt .fr<|.bool (nmOk nfg f).isSome);rw[this];rfl
 .have l:(!(decide (f.length>0)&&f[[]].all iP)||(decide ((31:Int)<f.length)||decide (f[[]].head?=Y 48)))=false:=l;rw[nn,nn,Bool.not_eq_false',aj,decide_eq_true_eq,decide_eq_false_iff_not,decide_eq_false_iff_not]at l;let{{p,g},b,a}:=l;have e:nfg f=Y (iD f[[]]:Int):=by unfold nfg;rw[qq {{by omega,by omega},g,λz=>a z.1}]
  have p1:1<=(iD f[[]]:Int):=by
   cases e:f[[]] with
   |nil=>rw[e]at j;have:0=f.length:=j;omega
   |cons x r=>rw[e]at g a;have:=VA (r:=r) (by rw[b8]at g;exact(aD g).1) λz=>a (by rw[z];rfl);omega
  show _=Res.ok (Out.rt .fr<|.bool (nmOk nfg f).isSome);unfold nmOk;rw[e]
  dsimp only
  have:=bR (Κ:=[]) (Φ:=[]) (b:=.nil)<|dJ<|cL (op:=.LtE) (k:=decide ((iD f[[]]:Int)<=10 ^ 30)) (cF (aW (aC (ρ:=[Y (.od,.str f)]) (i:=0) rfl) bE) (EV ZQ ZQ g) rfl).e D3.e rfl;rw[this];by_cases d:(iD f[[]]:Int)<=10 ^ 30
  .rw[qq {p1,(d)},qx d];rfl
  .rw[qr λz=>d z.2,qy d];rfl
def Lh {i:Nat}:cut ws (Y (i:Int)) (Y<|(i:Int)+1)=(ws.drop i).take 1:=by
 unfold cut;rw[rK ZQ,rK ZQ,dh,show((i:Int)+1).toNat=i+1 by omega];by_cases h:i<ws.length
 .rw[i6<|gm h,i6 (show i+1<=ws.length from h),Nat.add_sub_cancel_left]
 .rw[Nat.min_eq_right (show ws.length<=i by omega),iu (show ws.length<=i by omega)];simp
def yK:Mi.pk ws (p+j)=Mi.pk (ws.drop p) j:=by unfold Mi.pk;rw[ah,ah,lc]
def yL {i:Nat}(b:Ev [] Φ a ρ ws[_])(c:Ev [] Φ lo ρ<|.int i)(d:Ev [] Φ hi ρ<|.int<|(i:Int)+1):Vv [] Φ (.cmp .Eq (.sl a (.tv lo)<|.tv hi)<|.lst<|.cons (.str ">=") .nil) ρ (.bool (decide (Mi.pk ws i=">="))):=by
 refine cL (Ev.of<|jS (λ_=>rfl) b (fL c)<|fL d) (Ev.of<|dR<|aF aN bG) ?_;rw[Lh];rw[show Mi.pk ws i=Mi.pk (ws.drop i) 0 from yK (j:=0)];cases ws.drop i with
 |nil=>rfl
 |cons y r=>show Res.ok (bX (.str y) (.str ">=")&&J)=_;rw[iV,Bool.and_true,sX]
def jM (six three:List U):List U->Option U
 | []=>Z8
 |w::r=>if isn w=J then(if(!decide (w∈six)||(decide (Mi.pk r 0=">=")&& !decide (w∈three)))=J then Y w else jM six three r)else jM six three r
def ux (h:isn w=Z6):jM a three (w::r)=jM a three r:=by rw[jM,qr (by rw[h];decide)]
def VC (h:(nmOk nfg f).isSome=J):isn f=false:=by
 let{i,e,_}:=KY h;unfold nfg at e;split at e
 case isFalse=>ext e
 rename_i d;cases k:isn f with
 |false=>rfl
 |true=>
  have g:=(aD (aD k).2).1;cases hf:f[[]] with
  |nil=>rw[hf]at d;simp_all
  |cons c r=>rw[hf,b8,aj]at g;have j:=d.2.1;rw[hf,b8,aj]at j;have a:=g.1;have b:=j.1;unfold p1 at a;unfold iP at b;rw[aj,decide_eq_true_eq,decide_eq_true_eq]at a b;omega
section
variable {ks:List<|U×U}{six three:List U}(h6:∀n,n∈six↔∃s∈([("fact":U),("open":U),("word":U)]),lkG ks n=Y s)(h3:∀n,n∈three↔∃s∈([("fact":U)]),lkG ks n=Y s)(Li:∀n,n∈three->n∈six)
include h6 h3 Li in
def Fh:∀(t:Tr) (rest:List U) (L:List D),t.ok nfg=J->(∀n∈t.nms,isn n=J)->Mi.pk rest 0≠">="->jM six three rest=bU ks L->jM six three (t.ws++rest)=bU ks (t.sy++L):=by
 intro t
 induction t with
 |bO n f=>
  intro rest L ho hn hr e;show jM six three (n::(">=":U)::f::rest)=bU ks (.tuple [.str n,.tuple<|(([("fact":U)])).map .str]::L);rw[Ej,jM,qq<|hn n<|.head _,ux Z',ux<|VC ho,e];have ha:((([("fact":U)]).map ZX).any λy=>bX y<|lF ks n)=decide (n∈three):=E9.trans<|decide_eq_decide.mpr (h3 n).symm;rw[ha];show(if(!decide (n∈six)||(J&& !decide (n∈three)))=J then _ else _)=_;by_cases h:n∈three
  .rw[qx h,qx<|Li n h];rfl
  .rw[qy h];simp
 |bP n=>
  intro rest L ho hn hr e;show jM six three (n::rest)=bU ks (.tuple [.str n,.tuple<|(([("fact":U),("open":U),("word":U)])).map .str]::L);rw[Ej,jM,qq<|hn n<|.head _,qy hr,e];have ha:((([("fact":U),("open":U),("word":U)]).map ZX).any λy=>bX y<|lF ks n)=decide (n∈six):=E9.trans<|decide_eq_decide.mpr (h6 n).symm;rw[ha,Bool.false_and,lx];by_cases h:n∈six
  .rw[qx h];rfl
  .rw[qy h];simp
 |un u t ih=>intro rest L ho hn hr e;show jM six three (eJ u::(t.ws++rest))=_;rw[ux (by ext u<;>decide+kernel)];exact ih rest L ho hn hr e
 |two o a b ia ib=>
  intro rest L ho hn hr e;have ho:(a.ok nfg&&b.ok nfg)=true:=ho;rw[aj]at ho;have e0:(Tr.two o a b).ws++rest=("(":U)::(a.ws++opS o::(b.ws++(")":U)::rest)):=by simp[Tr.ws]
  rw[e0,ux Z',show(Tr.two o a b).sy++L=a.sy++(b.sy++L)from jb ..];refine ia _ _ ho.1 (λn h=>hn n<|cq _ h) (by rw[sX];ext o<;>decide) ?_;rw[ux (by ext o<;>decide+kernel)];refine ib _ _ ho.2 (λn h=>hn n<|bp _ h) (by rw[sX];decide) ?_;rw[ux Z'];exact e
end
def len_strs (ns:List U):gP "len" [.list<|ns.map .str]=.ok (.int (ns.length:Int)):=by show Res.ok (ZU ((ns.map ZX).length:Int))=_;rw[am]
def oD:Option U->D
 |some s=>.str s
 |none=>.none
theorem Lj (a:ρ[1]?=Y (Y (g,ns[_])))(c:ρ[3]?=Y (Y (d,.str w))):Tt [] Φ (.tv<|.cmp .NotIn (.var 3)<|.sl (.var 1) .nil<|.tv<|.int j) ρ (!decide (w∈cut ns Z8 (Y j))):=aT (k:=!decide (w∈cut ns Z8 (Y j))) (cL (k:=!decide (w∈cut ns Z8 (Y j))) (aC c) (Ev.of<|jS (m:=ZX) (λ_=>rfl) (aC a) kC<|fL aE.e) (by show(inD (.str _) (.list _)>>=λb=>Res.ok<|!b)=_;rw[KC];rfl)).e rfl
def VD (s:∀w∈ws,w.length<=1000)(t:ws.length<=1000):yt [.list<|ws.map .str,ns[_]]=.ok (.fr,oD<|jM (cut ns Z8<|Y 6) (cut ns Z8<|Y 3) ws):=by
 refine eC ?_
 let R:=jM (cut ns Z8<|Y 6) (cut ns Z8<|Y 3)
 let Q:Res Out->Prop:=λr=>r=.ok (.rt .fr<|oD<|R ws)
 show Q (aH [] [rF] EE [Y (.od,ws[_]),Y (.od,ns[_]),Z8,Z8]);refine zhq (xR (aW (cF (aW (aC rfl) bE) (len_strs ws) rfl).e bE)<|by rw[t9 ZQ ZQ,dh]) (λpre i=>(∃m l,i=[Y (.od,ws[_]),Y (.od,ns[_]),m,l])/\R (ws.drop pre.length)=R ws) {{(Z8),Z8,rfl},rfl} ?_ ?_
 .rintro pre k p i q ⟨⟨m,l,rfl⟩,b⟩
  have hk:k=pre.length:=by have e:=congrArg (·[pre.length]?) q;simp at e;rw[<-(az.mp e).2,List.getElem_range]
  have c:k<ws.length:=ef.mp (by rw[q];simp);subst hk;have hd:=et c;generalize f:ws[pre.length]=w at hd;refine{_,EG rfl,?_};have pl:(pre++[pre.length]).length=pre.length+1:=by simp
  let E:Rho:=[Y (.od,ws[_]),Y (.od,ns[_]),Y (.al,.int pre.length),Y (.al,.str w)]
  have n:aH [] [rF] (.asg (.nm 3)<|.ix (.var 0)<|.var 2) [Y (.od,ws[_]),Y (.od,ns[_]),Y (.al,.int pre.length),l]=.ok (.nx E):=bZ<|aO (aC rfl) (aC rfl) (by rw[pO ZQ ZQ,dh,ah,bn c,f];rfl) rfl;have g:Tt [] [rF] (.tv<|.call 0 "_law_is_name"<|.cons (.var 3) .nil) E (isn w):=aT (eO (aW (aC rfl) bE) rfl (Le<|s w<|f▸jj c) rfl).e rfl;have o:=gT (Lj (Φ:=[rF]) (ρ:=E) (j:=6) rfl rfl) λ_=>eP (aT (yL (a:=.var 0) (lo:=.bin .Add (.var 2)<|.int 1) (hi:=.bin .Add (.var 2)<|.int 2) (aC rfl) (aI (aC rfl) aE.e rfl rfl).e (aI (d:=.int<|((pre.length+1:Nat):Int)+1) (aC rfl) aE.e (by congr 2) rfl).e).e rfl) λ_=>Lj (j:=3) rfl rfl;rw[yK (j:=0)]at o;rw[hd]at b;cases h:isn w with
  |false=>rw[h]at g;exact .inl {_,dI n<|gK g rfl iH,{_,_,rfl},by rw[pl,<-b];exact(ux h).symm}
  |true=>
   rw[h]at g;have b:(if isn w=J then _ else _)=R ws:=b;rw[qq h]at b;cases hu:(!decide (w∈cut ns Z8 (Y 6))||(decide (Mi.pk (ws.drop<|pre.length+1) 0=">=")&& !decide (w∈cut ns Z8 (Y 3))))with
   |true=>rw[qq hu]at b;exact .inr {_,_,dI n<|iU g rfl<|iU o hu<|bR<|dJ<|v_var rfl rfl,by show _=Res.ok (Out.rt .fr<|oD<|R ws);rw[<-b];rfl}
   |false=>rw[qr (by rw[hu];decide)]at b;exact .inl {_,dI n<|dI ((AV g).trans<|gK o hu iH) iH,{_,_,rfl},by rw[pl];exact b}
 .rintro i ⟨⟨m,l,rfl⟩,b⟩
  rw[dk,jk]at b;show _=Res.ok (Out.rt G.fr<|oD<|R ws);rw[<-b];exact bR (dJ zX)
def Lk (ha:Ev Κ Φ a ρ<|.int i):Vv Κ Φ (.neg a) ρ (.int<|-i):=by let{g1,ha}:=ha;exact{by rw[Sr];rw[ha];rfl,rfl}
def It.h:It->D
 |.tk w=>.str w
 |.tf m _=>.int (if m=J then 2 else 1)
def It.d:It->D
 |.tk w=>.tuple [.str w]
 |.tf m t=>.tuple [.int (if m=J then 2 else 1),t.lk nfg [],.int t.dp]
def It.im (x:It):imm x.d=true:=by
 cases x with
 |tk w=>rfl
 |tf m t=>show(J&&(imm (t.lk nfg [])&&J))=J;rw[t.bK];rfl
def It.hd (x:It):iC x.d (.int 0)=.ok x.h:=by ext x<;>rfl
abbrev eF (s:List It):List D:=s.reverse.map It.d
theorem yM (s:List It):imms (eF s)=true:=mX.mpr λx a=>by let{t,_,rfl}:=ci.mp a;exact t.im
def Fi (s:List It):(eF s).length=s.length:=by rw[am,gw]
def AW (x:It)(s:List It):eF (x::s)=eF s++[x.d]:=by unfold eF;rw[List.reverse_cons,cr];rfl
def VE (h:s[k]?=Y x):iC (.list<|eF s) (.int<|-((k+1:Nat):Int))=.ok x.d:=by have hk:=(az.mp h).1;show Res.gF (cN (eF s)<|-((k+1:Nat):Int))=_;unfold cN kT;rw[Fi,qr ZQ,qq ZQ];show Res.gF ((eF s)[(-((k+1:Nat):Int)+s.length).toNat]?)=_;rw[show(-((k+1:Nat):Int)+s.length).toNat=s.length-1-k by omega,bv,List.getElem?_reverse ZQ,show s.length-1-(s.length-1-k)=k by omega,h];rfl
def VF (c:b≠[]):cut (b++a).reverse Z8 (Y<|-((b.length:Nat):Int))=a.reverse:=by
 have:=ky.mpr c;unfold cut;unfold Mi.bC
 dsimp only
 rw[qq ZQ,List.reverse_append,ax,gw,gw,show(-(b.length:Int)+((a.length+b.length:Nat):Int)).toNat=a.length by omega];exact List.take_left' (gw)
section
variable {Φ:List Fn}{ρ:Rho}{g:G}{s:List It}
theorem pC (h0:ρ[0]?=Y (Y (g,.list<|eF s)))(h:s[k]?=Y x):Vv [] Φ (.ix (.var 0)<|.neg<|.int ((k+1:Nat):Int)) ρ x.d:=aO (aC h0) (Lk aE.e).e (VE h) x.im
theorem fQ {x:It}(h:Ev [] Φ a ρ x.d):Vv [] Φ (.ix a<|.int 0) ρ x.h:=aO h aE.e x.hd (by ext x<;>rfl)
def It.vI (x:It)(w:U):Bool:=match x with
 |.tk c=>decide (c=w)
 |.tf _ _=>Z6
def It.eI:It->Bool
 |.tk _=>Z6
 |.tf _ _=>J
theorem rL {x:It}(h:Ev [] Φ a ρ x.d):Tt [] Φ (.tv<|.cmp .Eq (.ix a<|.int 0)<|.str w) ρ (x.vI w):=aT (cL (k:=x.vI w) (fQ h).e aN.e (by ext x<;>first|rfl|(show Res.ok (bX (.str _)<|.str _)=_;rw[iV];rfl))).e rfl
theorem uy {x:It}(h:Ev [] Φ a ρ x.d):Tt [] Φ (.tv<|.cmp .In (.ix a<|.int 0)<|.lst<|.cons (.int 1)<|.cons (.int 2) .nil) ρ x.eI:=aT (cL (k:=x.eI) (fQ h).e (Ev.of<|dR<|aF aE<|aF aE bG) (by cases x with
 |tk w=>rfl
 |tf m t=>ext m<;>rfl)).e rfl
theorem Ll {x:It}(h:Ev [] Φ a ρ x.d):Tt [] Φ (.tv<|.cmp .In (.ix a<|.int 0)<|.lst<|.cons (.str w)<|.cons (.str z) .nil) ρ (x.vI w||x.vI z):=aT (cL (k:=x.vI w||x.vI z) (fQ h).e (Ev.of<|dR<|aF aN<|aF aN bG) (by cases x with
 |tf m t=>rfl
 |tk c=>show Res.ok (bX (.str w) (.str c)||(bX (.str z) (.str c)||Z6))=Res.ok (decide (c=w)||decide (c=z));rw[iV,iV,lx,decide_eq_decide.mpr<|eq_comm,decide_eq_decide.mpr<|eq_comm (a:=z)])).e rfl
theorem VG {j:Nat}(h0:ρ[0]?=Y (Y (g,.list<|eF s))):Tt [] Φ (.tv<|.cmp .Gt (.bi "len"<|.cons (.var 0) .nil)<|.int (j:Int)) ρ (decide (j<s.length)):=aT (cL (k:=decide (j<s.length)) (cF (aW (aC h0) bE) (by show Res.ok (ZU ((eF s).length:Int))=_;rw[Fi]) rfl).e aE.e (by show Res.ok (decide ((j:Int)<(s.length:Int)))=_;congr 1;rw[decide_eq_decide];omega)).e rfl
def Fj (h0:ρ[0]?=Y (Y (g,.list<|eF<|b++s)))(hb:b≠[])(hn:n=b.length)(hl:s.length<1000)(hx:Vv [] Φ a ρ x.d):aH [] Φ (.asg (.nm 0)<|.bin .Add (.sl (.var 0) .nil<|.tv<|.neg<|.int (n:Int))<|.lst<|.cons a .nil) ρ=.ok (.nx<|ρ.set 0<|Y (.fr,.list<|eF (x::s))):=by subst hn;have e:=jS (Κ:=[]) (Φ:=Φ) It.im (aC h0) kC<|fL (Lk (aE (i:=b.length)).e).e;rw[VF hb]at e;rw[AW];exact fS (qY (Ev.of e) (Ev.of<|dR<|aF hx bG) (add_list (by rw[am,gw];show s.length+1<=1000;omega)) (by rw[<-AW];exact yM _)) (by rw[<-AW];exact yM _)
end
abbrev EP (g:G)(s:List It)(b:Bool)(u2 u3 u4 u5:Option GD):Rho:=[Y (g,.list<|eF s),Y (.al,.bool b),u2,u3,u4,u5]
def VH:S->S
 |.seq _ (.seq (.wh _ _ b) _)=>b
 |s=>s
abbrev Fl:S:=VH Aw
def eT (g:G)(s:List It):G×List It×Bool:=match bL s with
 |some s'=>(.fr,s',Z6)
 |none=>(g,s,J)
def VI (hs:s≠[])(Q:s.length<=900):Nx (λF=>∃u2 n q u,F=EP (eT g s).1 (eT g s).2.1 (eT g s).2.2 u2 n q u) (aH [] [] Fl<|EP g s b u2 n q u):=by
 let{v,i,rfl}:=List.exists_cons_of_ne_nil hs;have l1:i.length<1000:=by have:i.length+1<=900:=Q;omega
 let I:Rho->Prop:=λF=>∃u2 n q u,F=EP (eT g (v::i)).1 (eT g (v::i)).2.1 (eT g (v::i)).2.2 u2 n q u
 have l:∀{o u2 n q u},eT g (v::i)=o->Nx I (aH [] [] .nil<|EP o.1 o.2.1 o.2.2 u2 n q u):=λh=>pA {_,_,_,_,by rw[h]};have stay:bL (v::i)=Z8->eT g (v::i)=(g,v::i,J):=λe=>by unfold eT;rw[e]
 have A:∀{s'},bL (v::i)=Y s'->eT g (v::i)=(.fr,s',Z6):=λe=>by unfold eT;rw[e]
 have B:∀{j:Nat} {u2 n q u},Tt [] [] (.tv<|.cmp .Gt (.bi "len"<|.cons (.var 0) .nil)<|.int (j:Int)) (EP g (v::i) J u2 n q u) (decide (j<(v::i).length)):=VG rfl;refine aG (bZ iG)<|aG (bZ<|pC rfl rfl) ?_;cases v with
 |tf m t=>
  have no:∀{N:Prop} {a b:Bool},(a&&(Z6&&b))=J->N:=λz=>by cases(aD z).2
  rcases i with _|⟨f,r⟩
  .exact jU (eP (B) (k':=J) λz=>by ext z) (λz=>by ext z) λ_=>jU (eP (B) (k':=J) λz=>by ext z) (λz=>by ext z) λ_=>jU (eP (B) (k':=J) λz=>by ext z) (λz=>by ext z) λ_=>l (stay rfl)
  have R:imm (t.lk nfg [])=true:=t.bK;have M:r.length<1000:=by have:r.length+1<1000:=l1;omega
  have H:∀{n q u},Ev [] [] (.ix (.var 0)<|.neg<|.int 2) (EP g (.tf m t::f::r) J (Y (.al,(It.tf m t).d)) n q u) f.d:=(pC rfl rfl).e;have new:∀{n q u w} {z:U},Vv [] [] w (EP g (.tf m t::f::r) J (Y (.al,(It.tf m t).d)) n q u) (.str z)->Av [] [] (.cons (.tup<|.cons w<|.cons (.ix (.var 2)<|.int 1) .nil)<|.cons (.bin .Add (.ix (.var 2)<|.int 2)<|.int 1) .nil) (EP g (.tf m t::f::r) J (Y (.al,(It.tf m t).d)) n q u) [.tuple [.str z,t.lk nfg []],.int ((t.dp+1:Nat):Int)]:=λZK=>aF (eD<|aF ZK<|aF (aO (aC rfl) aE.e rfl R) bG)<|aF (aI (aO (aC rfl) aE.e rfl rfl).e aE.e rfl rfl) bG;refine jU (eP (B) λ_=>eP (uy<|aC rfl) λ_=>rL H) (λh=>?_) λh=>jU (eP (B) λ_=>eP (aT (k:=!m) (cL (fQ<|aC rfl).e aE.e (by ext m<;>rfl)).e rfl) λ_=>Ll H) (λG=>?_) λG=>jU (eP (B) λ_=>eP (rL<|aC rfl) (k':=J) λz=>by ext z) no λ_=>l (stay ?_)
  .have h:=(aD (aD h).2).2;cases f with
   |tf=>ext h
   |tk w=>obtain rfl:=qw h;exact aG (Fj (b:=[.tf m t,.tk "not"]) rfl nofun rfl M (eD<|aF (fQ (x:=.tf m t)<|aC rfl)<|new aN)) (aG (bZ iG)<|l<|A<|sJ.trans<|qq rfl)
  .let{hm,G}:=aD (aD G).2;cases m with
   |true=>ext hm
   |false=>
    cases f with
    |tf=>ext G
    |tk w=>
     have ZK:=((mv _ _).mp G).imp qw qw;have e:(It.tf J<|.un (kO w) t).d=.tuple [.int 2,.tuple [.str w,t.lk nfg []],.int ((t.dp+1:Nat):Int)]:=by show ZV [.int 2,.tuple [.str<|eJ<|kO w,t.lk nfg []],.int ((t.dp+1:Nat):Int)]=_;rw[(Lb ZK).1]
     exact aG (Fj (b:=[.tf Z6 t,.tk w]) (x:=.tf J<|.un (kO w) t) rfl nofun rfl M (by rw[e];exact eD<|aF aE<|new<|fQ H)) (aG (bZ iG)<|l<|A<|sJ.trans<|(qr (by rcases ZK with rfl|rfl<;>decide)).trans<|qq {rfl,(ZK)})
  .cases f with
   |tf=>rfl
   |tk w=>
    have l2:decide (1<(It.tf m t::It.tk w::r).length)=true:=qx ZO;rw[l2]at h G;rw[sJ,qr<|of_decide_eq_false h,qr]
    rintro⟨rfl,rfl|rfl⟩<;>exact absurd G ZP
 |tk c=>
  have no:∀{N:Prop} {a b:Bool},(a&&(Z6&&b))=J->N:=λz=>by cases(aD z).2
  refine jU (eP (B) λ_=>eP (uy<|aC rfl) (k':=J) λz=>by ext z) no λ_=>jU (eP (B) λ_=>eP (aT (cL (fQ<|aC rfl).e aE.e rfl).e rfl) (k':=J) λz=>by ext z) no λ_=>?_;by_cases K:4<(It.tk c::i).length
  case neg=>
   refine jU (k:=decide (4<(It.tk c::i).length)&&J) (eP (B) λz=>absurd (qw z) K) (λz=>absurd (qw (aD z).1) K) λ_=>l<|stay ?_;rcases i with _|⟨f,_|⟨C,_|⟨y,_|⟨D,r⟩⟩⟩⟩
   .rfl
   .cases f<;>rfl
   .cases f<;>ext C<;>rfl
   .cases f<;>ext C<;>ext y<;>rfl
   .exact absurd ZO K
  obtain⟨f,C,y,D,r,rfl⟩:∃f C y D r,i=f::C::y::D::r:=by rcases i with _|⟨f,_|⟨C,_|⟨y,_|⟨D,r⟩⟩⟩⟩<;>first|(simp at K;done)|exact⟨_,_,_,_,_,rfl⟩
  have M:r.length<1000:=by have:r.length+1+1+1+1<1000:=l1;omega
  have O:∀{k:Nat} {x:It} {n q u},(It.tk c::f::C::y::D::r)[k]?=Y x->Vv [] [] (.ix (.var 0)<|.neg<|.int ((k+1:Nat):Int)) (EP g (.tk c::f::C::y::D::r) J (Y (.al,(It.tk c).d)) n q u) x.d:=λh=>pC rfl h;refine jU (eP (B) λ_=>eP (rL<|aC rfl) λ_=>eP (rL (O rfl).e) λ_=>Ll (O rfl).e) (λh=>?_) λh=>l (stay ?_)
  .let{S,h}:=aD (aD h).2;let{P,L}:=aD h;cases D with
   |tf=>ext P
   |tk p=>
   cases C with
   |tf=>ext L
   |tk o=>
   have L:=((mv _ _).mp L).imp qw qw;refine aG (bZ<|O rfl)<|aG (bZ<|pC rfl rfl) ?_;refine jU (eP (uy<|aC rfl) λ_=>aT (k:=bX y.h f.h) (cL (fQ<|aC rfl).e (fQ<|aC rfl).e (by ext y<;>ext f<;>rfl)).e rfl) (λh=>?_) λh=>l (stay ?_)
   .let{T,H}:=aD h;cases y with
    |tk=>ext T
    |tf E a=>
    cases f with
    |tk=>ext H
    |tf m t=>
    have hm:E=m:=by ext E<;>ext m<;>first|rfl|ext H
    subst hm;refine aG (bZ (d:=(Tr.two (decide (o="and")) a t).lk nfg []) ?_) (aG (Fj (b:=[.tk c,.tf E t,.tk o,.tf E a,.tk p]) (x:=.tf E<|.two (decide (o="and")) a t) rfl nofun rfl M (eD<|aF (fQ (x:=.tf E a)<|aC rfl)<|aF (v_var rfl<|Tr.bK _)<|aF (aI (d:=.int ((max a.dp t.dp+1:Nat):Int)) aE.e (cF (d:=.int ((max a.dp t.dp:Nat):Int)) (aW (aO (aC rfl) aE.e rfl rfl).e<|aW (aO (aC rfl) aE.e rfl rfl).e bE) ?_ rfl).e ?_ rfl) bG))<|aG (bZ iG)<|l<|A<|AQ.trans<|qq {{qw S,qw P},L,rfl})
    .show Vv [] [] _ _ (.tuple [.str<|opS (decide (o="and")),a.lk nfg [],t.lk nfg []]);rw[Fd L];exact eD (aF (fQ (x:=.tk o) (pC rfl rfl).e)<|aF (aO (aC rfl) aE.e rfl a.bK)<|aF (aO (aC rfl) aE.e rfl t.bK) bG)
    .show Res.ok (ZU<|max (a.dp:Int) (t.dp:Int))=_
     congr 2;omega
    .show Res.ok (ZU<|1+((max a.dp t.dp:Nat):Int))=_
     congr 2;omega
   .cases y with
    |tk=>ext f<;>rfl
    |tf E a=>
     cases f with
     |tk=>rfl
     |tf m t=>rw[AQ,qr λz=>by rw[z.2.2]at h;ext m<;>ext h]
  .rw[qx K]at h;cases f with
   |tk=>rfl
   |tf m b=>
   cases C with
   |tf=>rfl
   |tk o=>
   cases y with
   |tk=>rfl
   |tf E a=>
   cases D with
   |tf=>rfl
   |tk p=>
    rw[AQ,qr]
    rintro⟨⟨rfl,rfl⟩,rfl|rfl,_⟩<;>exact absurd h ZP
def chain:Nat->List It->Prop
 |0,_=>False
 |k+1,s=>match bL s with
  |none=>k=0
  |some s'=>chain k s'
theorem Lm:∀n s,s.length<=n->∃k,k<=n+1/\chain k s
 |0,s,h=>by have:s=[]:=dq<|qc.mp h;subst this;exact{1,ag _,rfl}
 |n+1,s,h=>by
  cases e:bL s with
  |none=>exact{1,by omega,by unfold chain;rw[e]}
  |some a=>have:=yI e;let{k,hk,b}:=Lm n a ZQ;exact{k+1,by omega,by unfold chain;rw[e];exact b}
def VJ (e:bL s=Y a):a≠[]:=by
 unfold bL at e;split at e
 .split at e
  .cases e;simp
  .split at e<;>ext e;simp
 .split at e<;>ext e;simp
 .cases e
theorem Ln:∀{n:Nat} {s:List It},(fP n s).length<=s.length
 |0,_=>ag _
 |n+1,s=>by
  show(match bL s with|some a=>fP n a|none=>s).length<=_;cases e:bL s with
  |none=>exact ag _
  |some a=>exact bj Ln (gm<|yI e)
def VL (hs:s≠[])(m:s.length<=900):∃g,yr [.list<|eF s]=.ok (g,.list<|eF<|red s):=by
 let Q:Res Out->Prop:=λr=>∃g,r=.ok (.rt g<|.list<|eF<|red s)
 suffices h:Q (aH [] [] Aw [Y (.od,.list<|eF s),Z8,Z8,Z8,Z8,Z8]) by let{g,h}:=h;exact{g,eC h}
 let{k,hk,c}:=Lm s.length s<|ag _;refine aG (bZ iG) (oP (P:=λl=>∃g d f i j,l=EP g (red s) J d f i j) (λk l=>∃g a b d f i j,l=EP g a b d f i j/\red a=red s/\a≠[]/\a.length<=900/\((b=J/\k=0/\bL a=Z8)\/(b=Z6/\chain k a))) k ZQ {.od,s,Z6,Z8,Z8,Z8,Z8,rfl,rfl,hs,m,.inr {rfl,(c)}} ?_ ?_)
 .rintro k l ⟨g,a,b,d,f,i,j,rfl,hr,hn,m,h⟩
  have o:Tt [] [] (.not<|.tv<|.var 1) (EP g a b d f i j) (!b):=qP<|aT (aC rfl) rfl;rcases h with⟨rfl,rfl,e⟩|⟨rfl,c⟩
  .exact .inl {o,g,d,f,i,j,by rw[<-hr,AR e]}
  .obtain _|k:=k
   .exact c.elim
   let{v,w,p,q,t,u,rfl}:=VI hn m;refine .inr {k,_,rfl,o,w,?_};unfold chain at c;cases e:bL a with
   |none=>rw[e]at c;exact{g,a,J,p,q,t,u,by unfold eT;rw[e],hr,hn,m,.inl {rfl,(c),e}}
   |some n=>rw[e]at c;have:=yI e;exact{.fr,n,Z6,p,q,t,u,by unfold eT;rw[e],(yJ e).symm.trans hr,VJ e,by omega,.inr {rfl,(c)}}
 .rintro l ⟨g,d,f,i,j,rfl⟩
  exact{jB g,bR rfl}
def Wq (I:Nat->Rho->Prop)(Q:Res Out->Prop)(k:Nat)(r:Res Out):Prop:=(∃k' bQ,k'<k/\r=.ok (.nx bQ)/\I k' bQ)\/∃g d,r=.ok (.rt g d)/\Q (.ok<|.rt g d)
theorem Lo {Κ:List D}{Φ:List Fn}{Q:Res Out->Prop}{c:C}{b rest:S}(I:Nat->Rho->Prop)(hs:∀k a,I k a->Tt Κ Φ c a Z6/\Q (aH Κ Φ rest a)\/Tt Κ Φ c a J/\Wq I Q k (aH Κ Φ b a)):∀n k {a:Rho},k<n->I k a->Q (aH Κ Φ (.seq (.wh n c b) rest) a)
 |0,k,_,h,_=>by omega
 |n+1,k,a,h,m=>by
  have e:∀{k} {o:Res Out},Tt Κ Φ c a k->(if k then(match aH Κ Φ b a with
   |.ok (.nx f)=>rX (dP Κ Φ c) (aH Κ Φ b) n f
   |.ok (.ct f)=>rX (dP Κ Φ c) (aH Κ Φ b) n f
   |.ok (.bk f)=>.ok (.nx f)
   |.ok (.rt g d)=>.ok (.rt g d)
   |.exc e=>.exc e
   |.no=>.no)else .ok<|.nx a)=o->aH Κ Φ (.wh (n+1) c b) a=o:=λj i=>by
   show(dP Κ Φ c a>>=_)=_;rw[j];exact i
  rcases hs k a m with⟨j,i⟩|⟨j,⟨p,f,hk,i,l⟩|⟨g,d,i,l⟩⟩
  .exact aG (e j rfl) i
  .have q:aH Κ Φ (.wh (n+1) c b) a=aH Κ Φ (.wh n c b) f:=e j (by rw[i];rfl);have:Q (lT (aH Κ Φ (.wh n c b) f)<|aH Κ Φ rest):=Lo I hs n p ZQ l;show Q (lT (aH Κ Φ (.wh (n+1) c b) a)<|aH Κ Φ rest);rw[q];exact this
  .rw[bR<|e j (by rw[i];rfl)];exact l
def VM (h:nfg f=Y i):gP "int" [.str f]=.ok (.int i):=by
 unfold nfg at h;split at h
 .rename_i z;ext h;exact EV z.1.1 z.1.2 z.2.1
 .cases h
def Lp {i:Nat}:cut ws (Y (i:Int)) Z8=ws.drop i:=by
 unfold cut;rw[rK ZQ,dh];by_cases h:i<=ws.length
 .rw[i6 h];exact j1 (df▸ag _)
 .rw[Nat.min_eq_right ZQ,jk,iu ZQ];simp
def vp (u:Option GD):Prop:=∀z,u=Y z->z.1=.al/\imm z.2=J
abbrev EH (ws:List U)(s:List It)(p:Nat)(u3 u4:Option GD):Rho:=[Y (.od,ws[_]),Y (.fr,.list<|eF s),Y (.al,.int (p:Int)),u3,u4]
abbrev gD:List Fn:=[yr,rF,Au]
def VN {ws:List U}(X:∀w∈ws,dX 41 w)(hl:ws.length<=800):vr [.list<|ws.map .str]=.ok (.fr,.list<|eF<|(runW isn nfg [] ws).getD []):=by
 unfold vr;refine eC ?_
 let Q:Res Out->Prop:=λr=>r=.ok (.rt .fr<|.list<|eF<|(runW isn nfg [] ws).getD [])
 unfold ED
 let I:Nat->Rho->Prop:=λk K=>∃s p N f,K=EH ws s p N f/\vp f/\p<=ws.length/\s.length<=p/\runW isn nfg s (ws.drop p)=runW isn nfg [] ws/\k=ws.length-p
 refine aG (fS (dR bG) rfl) (aG (bZ aE)<|Lo (Q:=Q) I ?_ _ ws.length ZQ {[],0,Z8,Z8,rfl,nofun,c9 _,ag _,rfl,rfl})
 rintro k K ⟨s,p,N,f,rfl,q,hp,hs,hr,rfl⟩
 have tc:Tt [] gD (.tv<|.cmp .Lt (.var 2)<|.bi "len"<|.cons (.var 0) .nil) (EH ws s p N f) (decide (p<ws.length)):=aT (cL (k:=decide (p<ws.length)) (aC rfl) (cF (aW (aC rfl) bE) (len_strs ws) rfl).e (by show Res.ok (decide ((p:Int)<ws.length))=_;congr 1;rw[decide_eq_decide];omega)).e rfl;by_cases n:p<ws.length
 case neg=>rw[qy n]at tc;rw[iu ZQ]at hr;refine .inl {tc,?_};show _=Res.ok (Out.rt G.fr<|ZW<|eF<|(runW isn nfg [] ws).getD []);rw[<-hr];exact bR (z7s rfl)
 rw[qx n]at tc;refine .inr {tc,?_};have hd:=et n;generalize O:ws[p]=w at hd;rw[hd,vH,<-yK (j:=0),<-yK (p:=p+1) (j:=1),j3]at hr
 let W:Res Out->Prop:=Wq I Q (ws.length-p)
 have u:∀{x:It} {l:Nat} {B A:Option GD},vp A->p<l->l<=ws.length->runW isn nfg (red (x::s)) (ws.drop l)=runW isn nfg [] ws->W (aH [] gD (.seq (.uR 0 1) .nil)<|EH ws (x::s) l B A):=λ{x l B A} q R t ZM=>by
  let{g,e}:=VL (s:=x::s) ZO (by grind);refine .inl {ws.length-l,EH ws (red (x::s)) l B A,by omega,dI ?_ iH,red (x::s),l,B,A,rfl,q,t,bj Ln (by grind),ZM,rfl};show(if imms (eF (x::s))=J then(match yr [.list<|eF (x::s)]with|.ok (_,.list S)=>if imms S=J then Res.ok (Out.nx<|(EH ws (x::s) l B A).set 1<|Y (.fr,.list S))else .no|_=>.no)else .no)=_;rw[qq<|yM _,e]
  dsimp only
  rw[qq<|yM _];rfl
 have P:∀{x:It} {l:Nat} {v:D} {f:Option GD} {c:C},imm v=J->vp f->Vv [] gD c (EH ws s l (Y (.al,v)) f) x.d->aH [] gD (.mut "append" 1<|.cons c .nil) (EH ws s l (Y (.al,v)) f)=.ok (.nx<|EH ws (x::s) l (Y (.al,v)) f):=λ{x l v f c} Z q h=>by
  rw[xQ h rfl (by grind),<-AW];show Res.ok (Out.nx [_,_,_,z0h<|Y (.al,v),z0h f])=_
  have L:z0h f=f:=by
   cases f with
   |none=>rfl
   |some z=>let{g,d}:=z;let{R,t}:=q _ rfl;obtain rfl:g=.al:=R;exact vx t
  rw[vx Z,L];rfl
 refine aG (Q:=W) (bZ (d:=.str w)<|aO (aC rfl) (aC rfl) (by rw[pO ZQ ZQ,dh,ah,bn n,O];rfl) rfl)<|aG (Q:=W) (bZ (d:=.int ((p+1:Nat):Int))<|aI (aC rfl) aE.e rfl rfl) ?_;have E:Tt [] gD (.tv<|.call 1 "_law_is_name"<|.cons (.var 3) .nil) (EH ws s (p+1) (Y (.al,.str w)) f) (isn w):=aT (eO (aW (aC rfl) bE) rfl (Le<|by grind) rfl).e rfl;have o:=eP E λ_=>aT (yL (Φ:=gD) (ρ:=EH ws s (p+1) (Y (.al,.str w)) f) (ws:=ws) (a:=.var 0) (lo:=.var 2) (hi:=.bin .Add (.var 2)<|.int 1) (i:=p+1) (aC rfl) (aC rfl) (aI (aC rfl) aE.e rfl rfl).e).e rfl;cases y:isn w&&decide (Mi.pk ws (p+1)=">=")with
 |true=>
  have o:Tt [] gD _ _ (isn w&&decide (Mi.pk ws (p+1)=">=")):=o;rw[y]at o;let{hn,hg}:=aD y;rw[qq hn,qq<|qw hg]at hr;have T:¬p+2<ws.length->Mi.pk ws (p+2)="":=λz=>by unfold Mi.pk;rw[ah,gh ZQ];rfl
  have H:(Mi.pk ws<|p+2).length<=1000/\∀c∈(Mi.pk ws<|p+2)[[]],c<128:=by
   by_cases t:p+2<ws.length
   .have e:Mi.pk ws (p+2)=ws[p+2]:=by unfold Mi.pk;rw[ah,bn t];rfl
    have:=X _<|jj t;rw[e];exact{by have:=this.1;omega,λc y=>by have:=this.2 c y;omega}
   .rw[T t];decide
  have ZL:=jS (Κ:=[]) (Φ:=gD) (ρ:=EH ws s (p+1) (Y (.al,.str w)) f) (m:=ZX) (xs:=ws) (a:=.var 0) (b:=.tv<|.bin .Add (.var 2)<|.int 1) (c:=.nil) (i:=Y ((p+2:Nat):Int)) (λ_=>rfl) (aC rfl) (fL (aI (aC rfl) aE.e rfl rfl).e) kC;rw[Lp]at ZL;have L:=bZ (i:=4) (d:=.str<|Mi.pk ws<|p+2)<|aO (E1 (a:=ws.drop<|p+2) (b:=[""]) (Ev.of ZL) (AE<|aW aN.e bE) (by rw[df];show ws.length-(p+2)+1<=1000;omega)) (aE (i:=0)).e (by rw[pO (i:=0) ZP ZO,show Mi.pk ws (p+2)=Mi.pk (ws.drop<|p+2) 0 from yK (j:=0)];cases ws.drop (p+2)<;>rfl) rfl;have M:Tt [] gD (.not<|.tv<|.call 2 "_law_is_number"<|.cons (.var 4) .nil) (EH ws s (p+1) (Y (.al,.str w))<|Y (.al,.str<|Mi.pk ws<|p+2)) (!(nmOk nfg<|Mi.pk ws<|p+2).isSome):=qP<|aT (eO (aW (aC rfl) bE) rfl (VB H.1 H.2) rfl).e rfl;cases ZK:(nmOk nfg<|Mi.pk ws<|p+2).isSome with
  |true=>
   rw[ZK]at hr;rw[ZK]at M;let{i,F,_}:=KY ZK;have V:vp (Y (.al,.str<|Mi.pk ws<|p+2)):=λz h=>by ext h;exact{(rfl),rfl}
   have t:p+2<ws.length:=Classical.byContradiction λz=>by rw[T z]at F;ext F
   refine aG (Q:=W) ((AV o).trans<|dI L<|gK M rfl<|dI (P (x:=.tf Z6<|.bO w<|Mi.pk ws<|p+2) rfl V ?_)<|dI (bZ (d:=.int ((p+3:Nat):Int))<|aI (aC rfl) aE.e rfl rfl) iH)<|u V ZQ ZQ hr;show Vv [] gD _ _ (.tuple [.int 1,.tuple [.str "at",.str w,.int<|(nfg<|Mi.pk ws<|p+2).getD 0],.int 1]);rw[F];exact eD (aF aE<|aF (eD<|aF aN<|aF (v_var rfl rfl)<|aF (cF (aW (aC rfl) bE) (VM F) rfl) bG)<|aF aE bG)
  |false=>rw[ZK]at hr;rw[ZK]at M;exact .inr {.fr,.list [],bR<|(AV o).trans<|dI L<|iU M rfl<|bR<|sr nofun (dR bG),by show _=Res.ok (Out.rt .fr<|.list<|eF<|(runW isn nfg [] ws).getD []);rw[<-hr];rfl}
 |false=>
  have o:Tt [] gD _ _ (isn w&&decide (Mi.pk ws (p+1)=">=")):=o;rw[y]at o;by_cases hn:isn w=J
  .rw[qq hn,qr λz=>by rw[hn,qx z]at y;ext y]at hr;rw[hn]at E;exact aG (Q:=W) ((Fg o).trans<|dI ((AV E).trans<|dI (P (x:=.tf Z6<|.bP w) rfl q<|eD<|aF aE<|aF (eD<|aF aN<|aF (v_var rfl rfl) bG)<|aF aE bG) iH) iH) (u q ZQ n hr)
  .rw[qr hn]at hr;rw[eq_false_of_ne_true hn]at E;exact aG (Q:=W) ((Fg o).trans<|dI ((Fg E).trans<|dI (P (x:=.tk w) rfl q<|eD<|aF (v_var rfl rfl) bG) iH) iH) (u q ZQ n hr)
theorem Lq (n:U):(Tr.bP n).lk nfg []=.tuple [.str "is",.str n]:=qr (by intro h;ext h)
theorem Tr.Ls:∀t:Tr,iC (t.lk nfg []) (.int 0)=.ok (.str t.hd)
 |.bO _ _=>rfl
 |.bP n=>by rw[Lq];rfl
 |.un _ _=>rfl
 |.two _ _ _=>rfl
theorem AX (t:Tr)(h:ρ[0]?=Y (Y (g,t.lk nfg []))):Tt [] Φ (.tv<|.cmp .Eq (.ix (.var 0)<|.int 0)<|.str w) ρ (decide (t.hd=w)):=aT (cL (k:=decide (t.hd=w)) (aO (aC h) aE.e t.Ls rfl).e aN.e (by show Res.ok (bX (.str _)<|.str _)=_;rw[iV])).e rfl
theorem VO (t:Tr)(hf:t.lf=Z6)(h:a[0]?=Y (Y (g,t.lk nfg []))):aJ [] Φ (.sl (.var 0) (.tv<|.int 1) .nil) a=.ok (.fr,.tuple<|t.kids.map<|Tr.lk nfg []):=(ua (aC h) (fL aE.e) kC (by ext t<;>first|(ext hf;done)|rfl) (by refine mX.mpr λx b=>?_;let{c,_,rfl}:=ci.mp b;exact c.bK)).1
theorem Lu (hk:∀n,n∈cut ns Z8 (Y 3)↔lkG ks n=Y ("fact":U)):∀k (t:Tr),t.dp<=k->oX k [t.lk nfg [],ns[_]]=.ok (.fr,t.lk nfg ks)
 |0,t,h=>absurd (U0 t) ZQ
 |k+1,t,h=>by
  refine eC ?_;have g:Tt [] [oX k] (.or (.tv<|.cmp .Eq (.ix (.var 0)<|.int 0)<|.str "at")<|.tv<|.cmp .Eq (.ix (.var 0)<|.int 0)<|.str "is") [Y (.od,t.lk nfg []),Y (.od,ns[_])] (decide (t.hd=("at":U))||decide (t.hd=("is":U))):=gT (AX t rfl) λ_=>AX t rfl;have i:t.hd≠"is"->Tt [] [oX k] (.and (.tv<|.cmp .Eq (.ix (.var 0)<|.int 0)<|.str "is")<|.tv<|.cmp .In (.ix (.var 0)<|.int 1)<|.sl (.var 1) .nil<|.tv<|.int 3) [Y (.od,t.lk nfg []),Y (.od,ns[_])] (decide (t.hd=("is":U))&&J):=λhn=>eP (AX t rfl) λz=>absurd (qw z) hn;cases hf:t.lf with
  |true=>
   cases t with
   |bO n f=>exact gK (i (show("at":U)≠"is" by decide)) rfl (iU g rfl<|bR<|dJ<|v_var rfl rfl)
   |bP n=>
    have j:=eP (AX (Φ:=[oX k]) (ρ:=[Y (.od,(Tr.bP n).lk nfg []),Y (.od,ns[_])]) (w:="is") (Tr.bP n) rfl) λ_=>aT (cL (op:=.In) (y:=.list<|(cut ns Z8<|Y 3).map .str) (k:=decide (n∈cut ns Z8 (Y 3))) (aO (a:=.var 0) (b:=.int 1) (aC rfl) aE.e rfl rfl).e (Ev.of<|jS (a:=.var 1) (λ_=>rfl) (aC rfl) kC<|fL aE.e)<|KC n _).e rfl;by_cases h:n∈cut ns Z8 (Y 3)
    .rw[show(Tr.bP n).lk nfg ks=.tuple [.str "at",.str n,.int 1]from qq<|(hk n).mp h];exact iU j (by rw[qx h];rfl) (bR<|dJ<|eD<|aF aN<|aF (aO (aC rfl) aE.e rfl rfl)<|aF aE bG)
    .have e:(Tr.bP n).lk nfg ks=(Tr.bP n).lk nfg []:=by rw[Lq];exact qr λz=>h ((hk n).mpr z)
     rw[e];exact gK j (by rw[qy h];rfl) (iU g rfl<|bR<|dJ<|v_var rfl<|Tr.bK _)
   |un=>ext hf
   |two=>ext hf
  |false=>
   have d:decide (t.hd=("at":U))=Z6/\decide (t.hd=("is":U))=false:=by
    cases t with
    |two o a b=>exact E7 o
    |un u t=>exact E5 u
    |_=>ext hf
   refine gK (i<|of_decide_eq_false d.2) (by rw[d.2];rfl)<|gK g (by rw[d.1,d.2];rfl)<|bR<|dJ ?_;have l:=z4d (Φ:=[oX k]) (ρ:=[Y (.od,t.lk nfg []),Y (.od,ns[_])]) (nt:=1) (js:=[1]) (N':=["_law_part","_law_names"]) (tg:=.nm 0) (it:=.tv<|.sl (.var 0) (.tv<|.int 1) .nil) (elt:=.call 0 "_law_looked"<|.cons (.var 0)<|.cons (.var 1) .nil) (λ_=>J) (Tr.lk nfg ks) (fI (VO t hf rfl) rfl) rfl (λc=>[Y (.al,c.lk nfg []),Y (.od,ns[_])]) (λc _=>EG c.bK) (λ_ _=>uc)<|λc m _=>eO (aW (v_var rfl c.bK).e<|aW (aC rfl) bE) rfl (Lu hk k c (by have:=UZ m;omega)) c.bK;rw[show(t.kids.filter λ_=>J)=t.kids by simp]at l;have im:=by have:=t.bK (nf:=nfg) (ks:=ks);rw[yA t hf]at this;exact this
   rw[yA (ks:=ks) t hf];exact DW (Ev.of<|qY (Ev.of<|dR<|aF (aO (aC rfl) aE.e t.Ls rfl) bG) (Ev.of l) (add_list (by rw[am];have:=U1 t;show 1+_<=_;omega)) im) rfl (Sj _ _) im
abbrev uz:List U:=["(",")","and","or","not","some","all",">=","if","is","for","","1","0","07","3","(a","a)"]
abbrev yN (ns:List U):List U:=["=",">","not","(",")","and",vy<|nA ns 0]
abbrev AY (ns:List U):List U:=[nA ns 0,nA ns 3,nA ns 4,nA ns 6,nA ns 8]
abbrev uA (ns:List U)(n:Int):U:=(uz++yN ns++AY ns).getD (n%30).toNat {#[]}
def Fo (hn:ns.length=27)(h:i<27):nA ns i∈ns:=by grind
theorem cat {Φ:List Fn}{ρ:Rho}{t u:C}{a b:List U}(c:Ev [] Φ t ρ a[_])(d:Ev [] Φ u ρ b[_])(e:a.length+b.length<=1000):aJ [] Φ (.bin .Add t u) ρ=.ok (.fr,.list<|(a++b).map .str):=qY c d (by rw[add_list (by rw[am,am];exact e),<-cr]) (jG _)
def Lw {ns:List U}(c:Np ns)(n:Int):uo [.int n,ns[_]]=.ok (.fr,.str<|uA ns n):=by unfold uo;refine eC ?_;unfold EB;have v:∀{d:Rho} (i:Nat),d[1]?=Y (Y (.od,ns[_]))->i<27->Vv [] [] (.ix (.var 1)<|.int i) d (.str<|nA ns i):=λi h g=>aO (aC h) aE.e (by rw[pO ZQ (by rw[c.1];omega),dh]) rfl;have f:=c.2.1 _<|Fo c.1 (i:=0) ZP;refine dI (fS (xs:=uz.map .str) (dR<|aF aN<|aF aN<|aF aN<|aF aN<|aF aN<|aF aN<|aF aN<|aF aN<|aF aN<|aF aN<|aF aN<|aF aN<|aF aN<|aF aN<|aF aN<|aF aN<|aF aN<|aF aN<|bG) rfl) (dI (fS (cat (a:=uz) (b:=yN ns) (aC rfl) (Ev.of<|dR<|aF aN<|aF aN<|aF aN<|aF aN<|aF aN<|aF aN<|aF (UD (v 0 rfl ZP).e f.ch (by have:=f.l2;omega)) bG) (show 18+7<=1000 by decide))<|jG _)<|dI (fS (cat (a:=uz++yN ns) (b:=AY ns) (aC rfl) (Ev.of<|dR<|aF (v 0 rfl ZP)<|aF (v 3 rfl ZP)<|aF (v 4 rfl ZP)<|aF (v 6 rfl ZP)<|aF (v 8 rfl ZP) bG) (show 25+5<=1000 by decide))<|jG _)<|bR<|dJ<|aO (aC rfl) (aI (aC rfl) aE.e (cS ZP) rfl).e (pO ZQ (by show n%30<30;omega)) rfl)
theorem NW.fg (h:NW w):dX 41 w:={by have :=h.l2;omega,λc a=>by have:=h.ch c a;unfold p1 at this;rw[aj,decide_eq_true_eq,decide_eq_true_eq]at this;omega}
theorem NW.up (h:NW w):dX 41 (vy w):={by rw[UC];have :=h.l2;omega,λc a=>by let{d,hd,rfl}:=ci.mp a;have:=h.ch d hd;unfold p1 at this;rw[aj,decide_eq_true_eq,decide_eq_true_eq]at this;omega}
def Lx (b:Np ns)(n:Int):dX 41 (uA ns n):=by
 have hm:=getD_mem (ns:=uz++yN ns++AY ns) (i:=n%30) (d:={#[]}) ZQ (by show n%30<30;omega);have e:∀{i:Nat},i<27->NW (nA ns i):=λh=>b.2.1 _<|Fo b.1 h;have a:∀x∈uz++([("=":U),">","not","(",")","and"]),x.length<=41/\∀c∈x[[]],33<=c/\c<127:=by decide+kernel
 rcases bg.mp hm with hm|hm
 .rcases bg.mp hm with hm|hm
  .exact a _ (cq _ hm)
  .have hm:uA ns n∈([("=":U),">","not","(",")","and"])++[vy<|nA ns 0]:=hm;rcases bg.mp hm with hm|hm
   .exact a _ (bp _ hm)
   .rw[ai.mp hm];exact(e ZP).up
 .simp only[ak,gz,or_false]at hm;show dX 41 ((uz++yN ns++AY ns).getD (n%30).toNat {#[]});rcases hm with hm|hm|hm|hm|hm<;>rw[hm]<;>exact(e ZP).fg
abbrev dB:List Fn:=[uo]
def VP {ns ws:List U}(q:Np ns){n:Int}(G:∀w∈ws,dX 41 w)(T:ws.length<=200)(h0:0<ws.length):∃f:List U,(∀w∈f,dX 41 w)/\f.length<=ws.length+4/\As [.list<|ws.map .str,.int n,ns[_]]=.ok (.fr,f[_]):=by
 let Q:Res Out->Prop:=λr=>∃f:List U,(∀w∈f,dX 41 w)/\f.length<=ws.length+4/\r=.ok (.rt .fr f[_])
 suffices h:Q (aH [] dB Ar [Y (.od,ws[_]),Y (.od,.int n),Y (.od,ns[_]),Z8,Z8,Z8,Z8]) by let{f,s,z,N}:=h;exact{f,s,z,eC N}
 unfold Ar;let{a,O}:=fk<|i4 (n/6/30) (show(ws.length:Int)≠0 by omega);have k:a<ws.length:=by have:=ll (n/6/30) (show(0:Int)<ws.length by omega);omega
 refine aG (bZ<|aI (aC rfl) aE.e (cS ZP) rfl)<|aG (bZ<|aI (d:=.int<|n/6) (aC rfl) aE.e (jL ZP ZP) rfl)<|aG (bZ (d:=.int a)<|aI (aI (d:=.int<|n/6/30) (aC rfl) aE.e (jL ZP ZP) rfl).e (cF (aW (aC rfl) bE) (len_strs ws) rfl).e (by rw[cS ZQ,O]) rfl) ?_;generalize n/6=m
 let E u:Rho:=[Y (.od,ws[_]),Y (.od,.int n),Y (.od,ns[_]),Y (.al,.int<|n%6),Y (.al,.int m),Y (.al,.int a),u]
 have p:∀{u:Option GD},Ev [] dB (.var 5) (E u) (.int a):=λ{u}=>aC rfl;have A:∀{u:Option GD},Ev [] dB (.bin .Add (.var 5)<|.int 1) (E u) (.int ((a+1:Nat):Int)):=λ{u}=>(aI (aC rfl) aE.e rfl rfl).e;have ZK:∀{u:Option GD},Ev [] dB (.bin .Add (.var 5)<|.int 2) (E u) (.int ((a+2:Nat):Int)):=λ{u}=>(aI (aC rfl) aE.e rfl rfl).e;have tk:∀{u:Option GD} {c:C} {j:Nat},j<=ws.length->Ev [] dB c (E u) (.int j)->Ev [] dB (.sl (.var 0) .nil<|.tv c) (E u) (.list<|(ws.take j).map .str):=λ{u c j} P h=>by have:=jS (Κ:=[]) (Φ:=dB) (ρ:=E u) (a:=.var 0) (b:=.nil) (m:=ZX) (xs:=ws) (λ_=>rfl) (aC rfl) kC<|fL h;rw[Vf P]at this;exact Ev.of this
 have dr:∀{u:Option GD} {c:C} {j:Nat},Ev [] dB c (E u) (.int j)->Ev [] dB (.sl (.var 0) (.tv c) .nil) (E u) (.list<|(ws.drop j).map .str):=λ{u c j} h=>by have:=jS (Κ:=[]) (Φ:=dB) (ρ:=E u) (a:=.var 0) (c:=.nil) (m:=ZX) (xs:=ws) (λ_=>rfl) (aC rfl) (fL h) kC;rw[Lp]at this;exact Ev.of this
 have K:∀{u:Option GD} {c I:C} {j:Nat},Ev [] dB c (E u) (.int j)->Ev [] dB I (E u) (.int ((j+1:Nat):Int))->Ev [] dB (.sl (.var 0) (.tv c)<|.tv I) (E u) (.list<|((ws.drop j).take 1).map .str):=λ{u c I j} h R=>by have:=jS (Κ:=[]) (Φ:=dB) (ρ:=E u) (a:=.var 0) (m:=ZX) (xs:=ws) (λ_=>rfl) (aC rfl) (fL h)<|fL R;rw[show((j+1:Nat):Int)=j+1 from rfl,Lh]at this;exact Ev.of this
 have wd:∀{u:Option GD},Ev [] dB (.lst<|.cons (.call 0 "_law_word"<|.cons (.var 4)<|.cons (.var 2) .nil) .nil) (E u) (.list<|[uA ns m].map .str):=λ{u}=>Ev.of<|dR<|aF (eO (aW (aC rfl)<|aW (aC rfl) bE) rfl (Lw q m) rfl) bG;have all:∀{x y:List U},(∀w∈x,dX 41 w)->(∀w∈y,dX 41 w)->∀w∈x++y,dX 41 w:=λs z w h=>(bg.mp h).elim (s w)<|z w;have B:∀{j:Nat},∀w∈ws.take j,dX 41 w:=λw h=>G w<|e8 h;have D:∀{j:Nat},∀w∈ws.drop j,dX 41 w:=λw h=>G w<|ez h;have L:∀{j:Nat},∀w∈(ws.drop j).take 1,dX 41 w:=λw h=>G w<|ez<|e8 h;have M:∀w∈[uA ns m],dX 41 w:=λw h=>by rw[ai.mp h];exact Lx q m
 have F:∀{u:Option GD} {j:Int},Tt [] dB (.tv<|.cmp .Eq (.var 3)<|.int j) (E u) (decide (n%6=j)):=λ{u j}=>pR<|aC rfl;have l:∀{t u:C} {x y:List U} {v:Option GD},aJ [] dB (.bin .Add t u) (E v)=.ok (.fr,.list<|(x++y).map .str)->(∀w∈x++y,dX 41 w)->(x++y).length<=ws.length+4->∃g d,aH [] dB (.seq (.ret<|.bin .Add t u) .nil) (E v)=.ok (.rt g d)/\Q (.ok<|.rt g d):=λe s z=>{_,_,bR<|sr nofun e,_,s,z,rfl};refine mL F (λ_=>l (cat (tk (gm k) p) (dr A) ?_) (all B D) ?_) λ_=>mL F (λ_=>l (cat (tk (j:=a+1) k A) (dr p) ?_) (all B D) ?_) λ_=>mL F (λ_=>l (cat (Ev.of<|cat (tk (gm k) p) wd ?_) (dr A) ?_) (all (all B M) D) ?_) λ_=>mL F (λ_=>l (cat (Ev.of<|cat (tk (gm k) p) wd ?_) (dr p) ?_) (all (all B M) D) ?_) λ_=>mL F (λ_=>?_) λ_=>?_
 rotate_left 10
 .refine{_,_,dI (fS (cat (K A ZK) (K p A) ?_)<|jG _)<|bR<|sr nofun (cat (Ev.of<|cat (ρ:=E<|Y (.fr,.list<|((ws.drop<|a+1).take 1++(ws.drop a).take 1).map .str)) (tk (gm k) p) (aC rfl) ?_) (dr ZK) ?_),_,all (all B<|all L L) D,?_,rfl}<;>simp<;>omega
 .let{o,S}:=yC (i:=m%2) (.inl rfl) ZQ ZQ;have H:dX 41 "("/\dX 41 ")"/\dX 41 "and"/\dX 41 "or":=by decide+kernel
  refine{_,?_,?_,bR<|sr nofun (cat (a:=[("(":U)]++ws) (b:=[opS o,nA ns 0,")"]) (Ev.of<|cat (a:=[("(":U)]) (b:=ws) (Ev.of<|dR<|aF aN bG) (aC rfl) (by show 1+ws.length<=1000;omega)) (Ev.of<|dR<|aF (aO (Ev.of<|dR<|aF aN<|aF aN bG) (aI (aC rfl) aE.e (cS ZP) rfl).e S rfl)<|aF (aO (aC rfl) aE.e (pO (i:=0) ZP (by rw[q.1];decide)) rfl)<|aF aN bG) (by show(ws.length+1)+3<=1000;omega))}
  .refine all (all (λw h=>by rw[ai.mp h];exact H.1) G) λw h=>?_;simp at h;rcases h with rfl|rfl|rfl
   .cases o<;>first|exact H.2.2.1|exact H.2.2.2
   .exact(q.2.1 _<|Fo q.1 (i:=0) ZP).fg
   .exact H.2.1
  .show(ws++_).length+1<=_;rw[ax];show ws.length+3+1<=_;omega
 all_goals simp;omega
def VQ (b:Ev Κ Φ a c<|.str s)(f:s.length<=LIM):aJ Κ Φ (.lP a<|.str " ") c=.ok (.fr,.list<|(spW 32 s).map .str):=by
 let{g,b}:=b;have e:(" ":U)={#[32]}:=by decide+kernel
 rw[SG,b];show(fG (.str s) (.str " ")>>=λd=>Res.ok (G.fr,d))=_;rw[e];have:fG (.str s) (.str {#[32]})=.ok (.list<|(spW 32 s).map ZX):=by show(if decide (s.length<=LIM)=J then Res.ok (ZW<|(aX 32 s[[]]).map λl=>ZX<|toS l)else .no)=_;rw[qq<|qx f];unfold spW;rw[dw];rfl
 rw[this];rfl
theorem AZ:∀t:Tr,t.ws.length+3<=6*t.nd
 |.bO _ _=>ag _
 |.bP _=>by show 1+3<=6;omega
 |.un _ t=>by have:=AZ t;show(t.ws.length+1)+3<=6*(t.nd+1);omega
 |.two o a b=>by have:=AZ a;have:=AZ b;show(a.ws++opS o::(b.ws++[(")":U)])).length+1+3<=6*(a.nd+b.nd);rw[ax,ay,ax];show a.ws.length+(b.ws.length+1+1)+1+3<=_;omega
def Fp {t:Tr}(hn:∀w∈ns,NW w)(h:t.GM m ns)(hd:t.nd<=28):(∀w∈t.ws,dX 41 w)/\t.ws.length<=168/\t.tx.length<=9000/\spW 32 t.tx=t.ws:=by
 have d:=AM (λw h=>(hn w h).ch) h;have e:=AJ ZP (λw h=>by have:=(hn w h).l2;omega) h;have g:=bj (AI t)<|Nat.mul_le_mul_left 70 hd;have i:=AZ t;refine{λw c=>{?_,d w c},by omega,by omega,by rw[Vb];exact Az sF (λr hr z=>by have:=d r hr 32 z;omega)<|AL t};clear d e g i hd
 induction t with
 |bO n f=>
  have c:w∈[n,">=",f]:=c;simp at c;rcases c with rfl|rfl|rfl
  .have:=(hn _ h.1).l2;omega
  .decide
  .have:=h.2.1;omega
 |bP n=>rw[ai.mp c];have:=(hn _ h).l2;omega
 |un u t j=>
  rcases ak.mp c with rfl|c
  .have:=E6 u;omega
  .exact j h c
 |two o a b k l=>
  rcases ak.mp c with rfl|c
  .decide
  rcases bg.mp c with c|c
  .exact k h.1 c
  rcases ak.mp c with rfl|c
  .have:=K7 o;omega
  rcases bg.mp c with c|c
  .exact l h.2 c
  .rw[ai.mp c];decide
def Ly (h:L.length=32)(h0:0<=m)(a:m<=29):(cut L (Y 2)<|Y<|3+m).length=m.toNat+1:=by unfold cut;rw[rK (v:=2) ZP,rK ZQ,du,df];omega
abbrev kP:List Fn:=[As,iO 21,iN,yq,uo]
abbrev EW (L:List Int)(k:Int)(ns:List U)(n:Int)(ws:List U)(u:Option GD):Rho:=[Y (.od,L[()]),Y (.od,.int k),Y (.od,ns[_]),Y (.al,.int n),Y (.fr,ws[_]),u]
def VR {L:List Int}(l:Np ns)(H:L.length=32)(k:Int):∃ws:List U,(∀w∈ws,dX 41 w)/\ws.length<=176/\yu [.list<|L.map .int,.int k,ns[_]]=.ok (.fr,ws[_]):=by
 let Q:Res Out->Prop:=λr=>∃ws:List U,(∀w∈ws,dX 41 w)/\ws.length<=176/\r=.ok (.rt .fr ws[_])
 suffices h:Q (aH [] kP EF [Y (.od,L[()]),Y (.od,.int k),Y (.od,ns[_]),Z8,Z8,Z8]) by let{ws,s,D,S}:=h;exact{ws,s,D,eC S}
 have v:∀{a:Rho} {g:G} i,a[0]?=Y (Y (g,L[()]))->0<=i->i<32->Vv [] kP (.ix (.var 0)<|.int i) a (.int<|L.getD i.toNat 0):=λi h h0 s=>aO (aC h) aE.e (t7 h0 ZQ) rfl;refine aG (bZ<|aI (d:=.int<|L.getD 0 0/2) (v 0 rfl ZP ZP).e aE.e (jL ZP ZP) rfl) ?_;generalize L.getD 0 0/2=n;have I:∀{a:Rho} {g:G} {j:Int},a[0]?=Y (Y (g,L[()]))->0<j->Ev [] kP (.bin .Add (.int 3)<|.bin .Mod (.ix (.var 0)<|.int 1)<|.int j) a (.int<|3+L.getD 1 0%j):=λh T=>(aI aE.e (aI (v 1 h ZP ZP).e aE.e (cS T) rfl).e rfl rfl).e;refine mL (pR (aI (aC rfl) aE.e (cS ZP) rfl).e) (λ_=>?_) λ_=>?_
 .have y:=Ly H (m:=L.getD 1 0%30) ZQ ZQ;have ZK:=z4d (ρ:=[Y (.od,L[()]),Y (.od,.int k),Y (.od,ns[_]),Y (.al,.int n),Z8,Z8]) (nt:=1) (js:=[2]) (N':=["_law_one","_law_names"]) (tg:=.nm 0) (it:=.tv<|.sl (.var 0) (.tv<|.int 2)<|.tv<|.bin .Add (.int 3)<|.bin .Mod (.ix (.var 0)<|.int 1)<|.int 30) (elt:=.call 4 "_law_word"<|.cons (.var 0)<|.cons (.var 1) .nil) (xs:=cut L (Y 2)<|Y<|3+L.getD 1 0%30) (λ_=>J) (λi=>.str<|uA ns i) (fI (jS (λ_=>rfl) (aC rfl) (fL aE.e)<|fL<|I rfl ZP) rfl) rfl (λi=>[Y (.al,.int i),Y (.od,ns[_])]) (λi _=>rfl) (λ_ _=>uc)<|λi _ _=>eO (aW (aC rfl)<|aW (aC rfl) bE) rfl (Lw l i) rfl;rw[fv.mpr λ_ _=>rfl]at ZK;refine{.fr,_,bR<|sr nofun ZK,(cut L (Y 2)<|Y<|3+L.getD 1 0%30).map<|uA ns,λw ZL=>?_,by rw[am];omega,by rw[dw];rfl};let{i,_,rfl}:=ci.mp ZL;exact Lx l i
 have o:∃(t:Tr) (m:Bool),t.GM m ns/\(t.nd<=28/\t.dp<=21)/\iN [.list<|(cut L (Y 2)<|Y<|3+L.getD 1 0%7).map .int,ns[_]]=.ok (.fr,t.enc):=by have y:=Ly H (m:=L.getD 1 0%7) ZQ ZQ;let{t,V,t2,W}:=K6 (ds:=cut L (Y 2)<|Y<|3+L.getD 1 0%7) l.1 (λz=>by rw[z]at y;simp at y) ZQ;exact{t,Z6,V,{by omega,by have:=yB t;omega},W}
 have ask:∃(t:Tr) (m:Bool),t.GM m ns/\(t.nd<=28/\t.dp<=21)/\yq [.list<|(L.drop 2).map .int,ns[_],.int<|1+L.getD 1 0%4]=.ok (.fr,t.enc):=by let{t,q,w,e}:=Vn (ds:=L.drop 2) (B:=1+L.getD 1 0%4) l.1 (by grind) {by omega,by omega};exact{t,J,q.1,{by have:=q.2.1;omega,by have:=q.2.2;omega},e}
 let{X,ma,K,M,ZM}:=o;let{Z,mb,N,O,b3}:=ask;have cd:cut L (Y 2) Z8=L.drop 2:=by unfold cut;rw[rK ZP];rw[i6 ZQ];exact j1 (df▸ag _)
 have split:∀{t:Tr} {m:Bool} {c:C} {a:Rho},t.GM m ns->t.nd<=28/\t.dp<=21->Ev [] kP c a t.enc->aH [] kP (.seq (.asg (.nm 4)<|.lP (.call 1 "_law_text"<|.cons c .nil)<|.str " ") .nil) a=.ok (.nx<|a.set 4<|Y (.fr,t.ws[_])):=λ{t m c a} h hd hc=>by let{_,_,f3,f4}:=Fp l.2.1 h hd.1;have e:=VQ (eO (f:="_law_text") (aW hc bE) (show kP[1]?=Y (iO 21)from rfl) (UY t 21 hd.2 f3) rfl).e (by unfold LIM;omega);rw[f4]at e;exact dI (fS e<|jG _) iH
 have p:∀b,(∀w∈b,dX 41 w)->b.length<=168->Q (aH [] kP (.seq (.cV (.nm 5) (.gM<|.cons (.bin .Mod (.bin .FloorDiv (.var 3)<|.int 4)<|.int 3) .nil)
 (.seq (.bW (.tv<|.cmp .Gt (.bi "len"<|.cons (.var 4) .nil)<|.int 0) (.seq (.asg (.nm 4)<|.call 0 "_law_changed"<|.cons (.var 4)<|.cons (.ix (.var 0)<|.bin .Add (.int 30)<|.var 5)<|.cons (.var 2) .nil) .nil) .nil) .nil)) (.seq (.ret<|.var 4) .nil)) (EW L k ns n b Z8)):=λb s D=>by
  refine q_nm (xR (aW (aI (aI (aC rfl) aE.e (jL ZP ZP) rfl).e aE.e (cS ZP) rfl).e bE)<|t9 ZQ ZQ) (λ_=>rfl) (λpre a=>∃(ws:List U) (u:Option GD),a=EW L k ns n ws u/\(∀w∈ws,dX 41 w)/\ws.length<=168+4*pre.length) {(b),Z8,rfl,s,D} ?_ ?_
  .rintro pre x P a R ⟨ws,u,rfl,A,g2⟩
   have HE:x<(n/4%3).toNat:=ef.mp (by rw[R];simp);have E:=congrArg gq R;rw[dk,ax]at E;have pl:(pre++[x]).length=pre.length+1:=by simp
   refine jU (aT (cL (k:=decide (0<ws.length)) (cF (aW (aC rfl) bE) (len_strs ws) rfl).e aE.e (by show Res.ok (decide ((0:Int)<ws.length))=_;congr 1;rw[decide_eq_decide];omega)).e rfl) (λhz=>?_) λ_=>pA {ws,_,rfl,A,by omega};let{F,c1,y,c3}:=VP l A ZQ<|qw hz;exact aG (fS (vi (aW (aC rfl)<|aW (aO (d:=.int<|L.getD (30+x) 0) (aC rfl) (aI (d:=.int ((30+x:Nat):Int)) aE.e (aC rfl) rfl rfl).e (by rw[t7 ZQ ZQ,dh]) rfl).e<|aW (aC rfl) bE) rfl c3)<|jG _) (pA {F,_,rfl,c1,by omega})
  .rintro a ⟨ws,u,rfl,A,g2⟩
   rw[dk]at g2;exact{ws,A,by omega,bR<|z7s rfl}
 refine EL (pR<|aC rfl) (λ_=>{_,split (c:=.call 2 "_law_tree"<|.cons (.sl (.var 0) (.tv<|.int 2)<|.tv<|.bin .Add (.int 3)<|.bin .Mod (.ix (.var 0)<|.int 1)<|.int 7)<|.cons (.var 2) .nil) K M (eO (aW (Ev.of<|jS (λ_=>rfl) (aC rfl) (fL aE.e)<|fL<|I rfl ZP)<|aW (aC rfl) bE) rfl ZM X.im).e,?_}) λ_=>{_,split (c:=.call 3 "_law_asking"<|.cons (.sl (.var 0) (.tv<|.int 2) .nil)<|.cons (.var 2)<|.cons (.bin .Add (.int 1)<|.bin .Mod (.ix (.var 0)<|.int 1)<|.int 4) .nil) N O (eO (aW (Ev.of<|cd▸jS (λ_=>rfl) (aC rfl) (fL aE.e) kC)<|aW (aC rfl)<|aW (aI aE.e (aI (v 1 rfl ZP ZP).e aE.e (cS ZP) rfl).e rfl rfl).e bE) rfl b3 Z.im).e,?_}
 .have f:=Fp l.2.1 K M.1;exact p _ f.1 f.2.1
 .have f:=Fp l.2.1 N O.1;exact p _ f.1 f.2.1
theorem VS (a b c:U):("open ":U)++a++" for "++b++" against "++c=z0u " " (pS a [b] [c]):=pQ (by rw[dS,dS,dS,dS,dS];show _=eN [32] [("open":U),a,("for":U),b,("against":U),c];rw[iW,iW,iW,iW,iW,sI];rw[show("open ":U)[[]]=("open":U)[[]]++[32]from Z',show(" for ":U)[[]]=32::(("for":U)[[]]++[32])from Z',show(" against ":U)[[]]=32::(("against":U)[[]]++[32])from Z'];simp)
theorem VT (a b:U):("open ":U)++a++" for against "++b=z0u " " (pS a [] [b]):=pQ (by rw[dS,dS,dS];show _=eN [32] [("open":U),a,("for":U),("against":U),b];rw[iW,iW,iW,iW,sI];rw[show("open ":U)[[]]=("open":U)[[]]++[32]from Z',show(" for against ":U)[[]]=32::(("for":U)[[]]++32::(("against":U)[[]]++[32]))from Z'];simp)
def VU:∀x∈(["fact","open","for","against","word","if","claim","some"]:List U),Wd x:=by
 have h:∀x∈(["fact","open","for","against","word","if","claim","some"]:List U),x[[]].all ac=J/\32∉x[[]]/\x.length<=13:=by decide+kernel
 exact λx a=>{Uz (h x a).1,(h x a).2.1,(h x a).2.2}
def VV (hn:∀x∈([c,d,e,f,g,i,j]:List U),NW x):∀ws∈w7 c d e f g i j,spW 32 (z0u " " ws)=ws/\mM (z0u " " ws):=by
 intro ws h;have b:ws≠[]/\ws.length<=14/\∀x∈ws,x∈([c,d,e,f,g,i,j]:List U)\/x∈(["fact","open","for","against","word","if","claim","some"]:List U):=by unfold w7 pS at h;simp at h;rcases h with rfl|rfl|rfl|rfl|rfl|rfl|rfl<;>refine⟨by simp,by simp,λx a=>?_⟩<;>simp at a ⊢<;>grind
 have hd:=λx a=>(b.2.2 x a).elim (λh=>(hn x h).wd)<|VU x;exact{Az sF (λr k=>(hd r k).no) b.1,UI (λx a=>{(hd x a).asc,(hd x a).len}) b.2.1}
def yO:S:=.cG [.aS 3<|.cA 8 "_law_draws" [.pL (.v 0)<|.bin .Mult (.bin .Mult (.bin .Mult (.i 2)<|.i 104729)<|.v 1)<|.v 1,.i 32],
 .aS 4 (.mD (.xI 3 0)<|.i 2),
 .aS 5 (.cA 7 "_law_words" [.v 3,.v 4,.v 2]),
 .aS 6 (.mt "join" (.s " ")<|.cG [.pL (.lS [.ix (.lS [.s "word",.s "claim"])<|.v 4,.xI 2 9,.s "if"])<|.v 5]),
 .aS 7 (.cA 5 "_law_told" [.mt "join" (.s "\n")<|.cG [.pL (.cA 6 "_law_ahead" [.v 2])<|.lS [.v 6]]]),
 .aS 8 (.cA 4 "_law_heap" [.v 5]),
 .iF (.or (.tv<|.cmp .NotEq (.bI "len" [.v 8])<|.i 1)<|.or (.tv<|.cmp .NotEq (.ix (.xI 8 0)<|.i 0)<|.pL (.v 4)<|.i 1)<|.tv<|.cmp .Gt (.ix (.xI 8 0)<|.i 2)<|.i 8) [.ret<|.cA 0 "_law_alike" [.v 7,.tU [.s "row",.i 7]]] [],
 .aS 9 (.cA 3 "_law_unknown" [.v 5,.v 2]),
 .iF (.tv<|.nW J<|.v 9) [.ret<|.cA 0 "_law_alike" [.v 7,.tU [.s "unknown",.v 9]]] [],
 .aS 10 (.tU [.ix (.lS [.s "word",.s "claim"])<|.v 4,.xI 2 9,.cA 2 "_law_looked" [.ix (.xI 8 0)<|.i 1,.v 2]]),
 .ret (.cA 0 "_law_alike" [.v 7,.pL (.cA 1 "_law_ahead_told" [.v 2])<|.lS [.v 10]])]
def yP:Fn:=aZ [] [(gX 11),yp,(oX 8),yt,vr,pU,yo,yu,oW] 11 yO
def Fq:Nat->D->Bool
 |_+1,.str _=>J
 |_+1,.int _=>J
 |k+1,.tuple xs=>imms xs&&(decide (xs.length<=100)&&xs.all (Fq k))
 |_,_=>Z6
theorem LA:∀k d,Fq k d=J->gX k [d,d]=.ok (.fr,.bool J)
 |k+1,.str _,_=>nK k _
 |k+1,.int _,_=>ET k _
 |k+1,.tuple a,h=>by have h:(imms a&&(decide (a.length<=100)&&a.all (Fq k)))=true:=h;rw[aj,aj,decide_eq_true_eq,bc]at h;exact vz (.inl rfl) h.1 h.2.1 λe b=>LA k e (h.2.2 e b)
def LB (m:Np ns):([nA ns 0,nA ns 1,nA ns 2,nA ns 3,nA ns 4,nA ns 5,nA ns 6]:List U).Nodup/\(∀x∈([nA ns 0,nA ns 1,nA ns 2,nA ns 3,nA ns 4,nA ns 5,nA ns 6]:List U),NW x)/\NW (nA ns 9)/\nA ns 9∉([nA ns 0,nA ns 1,nA ns 2,nA ns 3,nA ns 4,nA ns 5,nA ns 6]:List U)/\cut ns Z8 (Y 6)=[nA ns 0,nA ns 1,nA ns 2,nA ns 3,nA ns 4,nA ns 5]/\cut ns Z8 (Y 3)=[nA ns 0,nA ns 1,nA ns 2]:=by
 let{n,e,a}:=m;rcases ns with _|⟨f,_|⟨g,_|⟨h,_|⟨i,_|⟨j,_|⟨k,_|⟨l,_|⟨b,_|⟨c,_|⟨d,tl⟩⟩⟩⟩⟩⟩⟩⟩⟩⟩<;>first|(simp at n;done)|skip
 have a:([f,g,h,i,j,k,l]++[b,c,d]:List U).Nodup:=a;rw[jc]at a;refine{a.1,λx o=>e x<|cq (bs:=b::c::d::tl) o,e _<|bp (as:=[f,g,h,i,j,k,l,b,c])<|ar,λz=>a.2.2 _ z d ZO rfl,rfl,rfl}
def A3 (a:Np ns):pT ns=(w7 (nA ns 0) (nA ns 1) (nA ns 2) (nA ns 3) (nA ns 4) (nA ns 5)<|nA ns 6).map (z0u " "):=by unfold pT;rw[(LB a).2.2.2.2.2,VS,Vi,VT,Vj];show[("fact ":U)++nA ns 0,("fact ":U)++nA ns 1,("fact ":U)++nA ns 2,_,_,_,_]=_;rw[Fc,Fc,Fc];rfl
def VW (h:isn w=J):NW w:=by
 have a:=aD (aD h).1;refine{?_,?_,UP h,by simpa using(aD (aD h).2).2}
 .have:=qw a.1;omega
 .have:=qw a.2;omega
theorem Fs:∀{ws:List U},jM a three ws=Y u->isn u=J
 | [],h=>by ext h
 |w::r,h=>by
  unfold jM at h;split at h
  .rename_i b;split at h
   .cases h;exact b
   .exact Fs h
  .exact Fs h
def pD (c:Bool):List It->Option Tr
 | [.tf m t]=>if m=c/\t.dp<=8 then Y t else Z8
 |_=>Z8
def VX:isOne c R=pD c (R.getD []):=by
 cases R with
 |none=>rfl
 |some s=>rcases s with _|⟨x,_|⟨y,s⟩⟩<;>first|rfl|(ext x<;>rfl)
abbrev tK:C:=.or (.tv<|.cmp .NotEq (.bi "len"<|.cons (.var 8) .nil)<|.int 1) (.or (.tv<|.cmp .NotEq (.ix (.ix (.var 8)<|.int 0)<|.int 0)<|.bin .Add (.var 4)<|.int 1)<|.tv<|.cmp .Gt (.ix (.ix (.var 8)<|.int 0)<|.int 2)<|.int 8)
def VY (u:f[4]?=Y (Y (g,.int (if c=J then 1 else 0))))(j:f[8]?=Y (Y (B,.list<|eF s))):Tt [] Φ tK f (pD c s).isNone:=by
 have i:Tt [] Φ (.tv<|.cmp .NotEq (.bi "len"<|.cons (.var 8) .nil)<|.int 1) f (!decide ((s.length:Int)=1)):=aT (cL (k:=!decide ((s.length:Int)=1)) (cF (aW (aC j) bE) (by show Res.ok (ZU ((eF s).length:Int))=_;rw[Fi]) rfl).e aE.e (by show Res.ok (!bX (.int _) (.int _))=_;rw[Jk])).e rfl
 have a:s.length≠1->pD c s=Z8->Tt [] Φ tK f (pD c s).isNone:=λhn e=>by
  rw[e];have:=gT (b:=.or (.tv<|.cmp .NotEq (.ix (.ix (.var 8)<|.int 0)<|.int 0)<|.bin .Add (.var 4)<|.int 1)<|.tv<|.cmp .Gt (.ix (.ix (.var 8)<|.int 0)<|.int 2)<|.int 8) i (k':=J) λz=>by rw[qy ZQ]at z;ext z
  rw[mo]at this;exact this
 match s,i,a,j with
 | [],_,a,_=>exact a ZO rfl
 |x::y::l,_,a,_=>exact a ZO (by ext x<;>rfl)
 | [x],i,_,j=>
  have q:Ev [] Φ (.ix (.var 8)<|.int 0) f x.d:=(aO (aC j) aE.e rfl x.im).e;have o:Tt [] Φ (.tv<|.cmp .NotEq (.ix (.ix (.var 8)<|.int 0)<|.int 0)<|.bin .Add (.var 4)<|.int 1) f (!bX x.h (.int<|(if c=J then 1 else 0)+1)):=aT (cL (k:=!bX x.h (.int<|(if c=J then 1 else 0)+1)) (fQ q).e (aI (aC u) aE.e rfl rfl).e (by ext x<;>rfl)).e rfl;cases x with
  |tk w=>exact gT i λ_=>gT o (k':=J) λz=>by ext z
  |tf m t=>
   have e:bX (It.tf m t).h (.int<|(if c=J then 1 else 0)+1)=decide (m=c):=by ext m<;>ext c<;>rfl
   rw[e]at o;have v:Tt [] Φ (.tv<|.cmp .Gt (.ix (.ix (.var 8)<|.int 0)<|.int 2)<|.int 8) f (decide ((8:Int)<t.dp)):=aT (cL (k:=decide ((8:Int)<t.dp)) (aO q aE.e rfl rfl).e aE.e rfl).e rfl;have:=gT i λ_=>gT o λ_=>v
   have A:(!decide (([It.tf m t].length:Int)=1)||(!decide (m=c)||decide ((8:Int)<t.dp)))=(pD c [.tf m t]).isNone:=by
    show(Z6||(!decide (m=c)||decide ((8:Int)<t.dp)))=(if m=c/\t.dp<=8 then Y t else Z8).isNone;by_cases n:m=c
    .by_cases r:t.dp<=8
     .rw[qq {(n),r},qx n,qy ZQ];rfl
     .rw[qr λz=>r z.2,qx (p:=(8:Int)<t.dp) ZQ];simp
    .rw[qr λz=>n z.1,qy n];rfl
   rw[A]at this;exact this
def Fu (h:∀w∈ws,w.length<=41)(b:ws.length<=200):pJ " " ws<=LIM:=by unfold pJ;have a:=EU h;have e:(" ":U).length=1:=rfl;rw[e];unfold LIM;omega
def VZ (hn:NW b)(d:∀w∈ws,dX 41 w)(e:ws.length<=176):spW 32 (z0u " " (kdS c::b::("if":U)::ws))=kdS c::b::("if":U)::ws/\mM (z0u " " (kdS c::b::("if":U)::ws))/\pJ " " (kdS c::b::("if":U)::ws)<=LIM:=by
 have kf:dX 41 (kdS c)/\dX 41 "if":=by ext c<;>decide+kernel
 have hf:∀x∈kdS c::b::("if":U)::ws,dX 41 x:=λx a=>by
  rcases ak.mp a with rfl|a
  .exact kf.1
  rcases ak.mp a with rfl|a
  .exact hn.fg
  rcases ak.mp a with rfl|a
  .exact kf.2
  .exact d x a
 have f:(kdS c::b::("if":U)::ws).length<=179:=by show ws.length+1+1+1<=179;omega
 refine{Az sF (λr hr z=>by have:=(hf r hr).2 32 z;omega) ZO,{λx a=>?_,?_},Fu (λw h=>(hf w h).1) ZQ}
 .rw[oY]at a;rcases AA a with rfl|⟨w,h,a⟩
  .decide
  .have :=(hf w h).2 x a;unfold ac;rw[aj,decide_eq_true_eq];exact{by omega,by rw[lr,beq_eq_false_iff_ne];omega}
 .rw[vt,oY,sF];have:=AB (x:=32) λr hr=>(hf r hr).1;omega
abbrev uB:List Fn:=[gX 11,yp,oX 8,yt,vr,pU,yo,yu,oW]
abbrev yQ (c k:Int)(ns:List U)(L:List Int)(b:Bool)(ws:List U)(r:U)(u7 u8 u9 V0:Option GD):Rho:=[Y (.od,.int c),Y (.od,.int k),Y (.od,ns[_]),Y (.fr,L[()]),Y (.al,.int (if b=J then 1 else 0)),Y (.fr,ws[_]),Y (.al,.str r),u7,u8,u9,V0]
def LC (i:Np ns)(h0:0<=k)(h1:k<=40):yP [.int c,.int k,ns[_]]=.ok (.fr,.bool J):=by
 refine eC ?_
 let Q:Res Out->Prop:=λr=>r=.ok (.rt .fr<|.bool J)
 show Q (aH [] uB yO [Y (.od,.int c),Y (.od,.int k),Y (.od,ns[_]),Z8,Z8,Z8,Z8,Z8,Z8,Z8,Z8]);let{L,hL,eL}:=U9<|c+2*104729*k*k;refine aG (fS (vi (aW (aI (aC rfl) (aI (aI (aI aE.e aE.e rfl rfl).e (aC rfl) (t8 ZP) rfl).e (aC rfl) (oQ ZQ) rfl).e rfl rfl).e<|aW aE.e bE) rfl eL)<|DP _) ?_
 obtain⟨b,hb⟩:∃b,L.getD 0 0%2=if b=J then 1 else 0:=by
  rcases(show L.getD 0 0%2=0\/L.getD 0 0%2=1 by omega)with e|e
  .exact{Z6,(e)}
  .exact{J,(e)}
 refine aG (bZ (d:=.int (if b=J then 1 else 0))<|aI (aO (aC rfl) aE.e (t7 ZP ZQ) rfl).e aE.e (by rw[cS ZP];exact congrArg (λx=>Res.ok<|ZU x) hb) rfl) ?_;let{ws,I,g2,ew}:=VR i hL (if b=J then 1 else 0);refine aG (fS (vi (aW (aC rfl)<|aW (aC rfl)<|aW (aC rfl) bE) rfl ew)<|jG _) ?_;let{ZK,M,N,n4,O,P}:=LB i;let{R,S,s3}:=VZ (c:=b) N I g2;have T:∀{C:Rho} {g:G},C[4]?=Y (Y (g,.int (if b=J then 1 else 0)))->Vv [] uB (.ix (.lst<|.cons (.str "word")<|.cons (.str "claim") .nil)<|.var 4) C (.str<|kdS b):=λh=>aO (Ev.of<|dR<|aF aN<|aF aN bG) (aC h) (by ext b<;>rfl) rfl;have ZL:∀{C:Rho} {g:G},C[2]?=Y (Y (g,ns[_]))->Vv [] uB (.ix (.var 2)<|.int 9) C (.str<|nA ns 9):=λh=>aO (aC h) aE.e (pO ZP (by rw[i.1];decide)) rfl;refine aG (bZ<|ub aN.e (aW (E1 (a:=[kdS b,nA ns 9,"if"]) (AE<|aW (T rfl).e<|aW (ZL rfl).e<|aW aN.e bE) (aC rfl) (by show 3+ws.length<=1000;omega)) bE) (Kt s3) rfl) ?_;show Q (aH [] uB _<|yQ c k ns L b ws (z0u " " (kdS b::nA ns 9::("if":U)::ws)) Z8 Z8 Z8 Z8);generalize hr:z0u " " (kdS b::nA ns 9::("if":U)::ws)=r at R S;have V:=VV M
 have s:∀x∈pT ns++[r],mM x:=λx F=>by
  rw[A3 i]at F;rcases bg.mp F with z|z
  .let{ws,hz,rfl}:=ci.mp z;exact(V ws hz).2
  .rw[ai.mp z];exact S
 have rl:(pT ns++[r]).length=8:=by rw[A3 i];rfl
 have rd:=rd7 ZK (λx F=>KP<|M x F) (λws pP=>(V ws pP).1) [r];rw[<-A3 i,KS,R,Vu<|KP N,show Mi.pk (kdS b::nA ns 9::("if":U)::ws) 1=nA ns 9 from rfl,Vg n4]at rd;have K:∀{X p f:Option GD},Aa [] uB (.cons (.mt "join" (.str "\n")<|.cons (.bin .Add (.call 6 "_law_ahead"<|.cons (.var 2) .nil)<|.lst<|.cons (.var 6) .nil) .nil) .nil) (yQ c k ns L b ws r Z8 X p f) [.str<|z0u "\n"<|pT ns++[r]]:=λ{X p f}=>aW (ub aN.e (aW (E1 (Jo (aW (aC rfl) bE) rfl (U' i.1 λw h=>by have:=(i.2.1 w h).l2;omega)) (AE<|aW (aC rfl) bE) (by rw[A3 i];show 7+1<=1000;decide)) bE) (Kt<|UM rfl (λx h=>(s x h).len) ZP ZQ) rfl).e bE;have j:∀W,iL isn nfg 0 [] [] (pT ns++[r])=W->K' W->pU [.str<|z0u "\n"<|pT ns++[r]]=.ok (.fr,vq W):=λW e hw=>Vc s ZQ ZO e hw;have A:∀{B p f:Option GD},aH [] uB (.asg (.nm 8)<|.call 4 "_law_heap"<|.cons (.var 5) .nil) (yQ c k ns L b ws r B Z8 p f)=.ok (.nx<|yQ c k ns L b ws r B (Y (.fr,.list<|eF<|(runW isn nfg [] ws).getD [])) p f):=λ{B p f}=>fS (vi (aW (aC rfl) bE) rfl<|VN I ZQ)<|yM _;have D:∀{B p f:Option GD},Tt [] uB tK (yQ c k ns L b ws r B (Y (.fr,.list<|eF<|(runW isn nfg [] ws).getD [])) p f) (isOne b<|runW isn nfg [] ws).isNone:=λ{B p f}=>by rw[VX];exact VY rfl rfl
 cases v:isOne b (runW isn nfg [] ws)with
 |none=>rw[v]at rd D;exact aG (bZ<|eO K rfl (j (.row 7) rd trivial) rfl) (aG A<|mL D (λ_=>{_,_,bR<|dJ<|eO (aW (aC rfl)<|aW (eD<|aF aN<|aF aE bG).e bE) rfl (Ay (nK 9 "row") (ET 9 7) rfl) rfl,rfl}) nofun)
 |some t=>
  rw[v]at rd D
  have q:∃m,runW isn nfg [] ws=Y [.tf m t]/\t.dp<=8:=by
   unfold isOne at v;split at v
   .rename_i m t' e;split at v
    .rename_i hm;ext v;exact{(m),e,hm.2}
    .cases v
   .cases v
  let{m,q,h8}:=q;let{rfl,w1,w2,w3}:=Fe.mp q;have y:=yH ZK;have l:=Fb ZK;rw[<-O]at y;rw[<-P]at l;have fu:=Fh y l (by rw[O,P];exact λn hn=>cq [nA ns 3,nA ns 4,nA ns 5] hn) t [] [] w2 w3 (by rw[EY];decide) rfl;rw[b7,b7]at fu;have H:=VD (ns:=ns) (λw h=>by have:=(I w h).1;omega) ZQ
  have rd:iL isn nfg 0 [] [] (pT ns++[r])=match bU (k7 (nA ns 0) (nA ns 1) (nA ns 2) (nA ns 3) (nA ns 4) (nA ns 5)<|nA ns 6) t.sy with
   |some u=>Rx.un u
   |none=>.ok (d7 (nA ns 0) (nA ns 1) (nA ns 2) (nA ns 3) (nA ns 4) (nA ns 5) (nA ns 6)++[.tuple [.str<|kdS b,.str<|nA ns 9,t.lk nfg<|k7 (nA ns 0) (nA ns 1) (nA ns 2) (nA ns 3) (nA ns 4) (nA ns 5)<|nA ns 6]]):=rd
  rw[<-fu]at rd;cases hu:jM (cut ns Z8<|Y 6) (cut ns Z8<|Y 3) t.ws with
  |some u=>rw[hu]at rd H;exact aG (bZ<|eO K rfl (j (.un u) rd<|VW<|Fs hu) rfl) (aG A<|qZ D rfl<|aG (bZ<|eO (aW (aC rfl)<|aW (aC rfl) bE) rfl H rfl)<|mL (zF (aC rfl) rfl) (λ_=>{_,_,bR<|dJ<|eO (aW (aC rfl)<|aW (eD<|aF aN<|aF (v_var rfl rfl) bG).e bE) rfl (Ay (nK 9 "unknown") (nK 9 u) rfl) rfl,rfl}) nofun)
  |none=>
   rw[hu]at rd H;have ZM:=Lu (ks:=k7 (nA ns 0) (nA ns 1) (nA ns 2) (nA ns 3) (nA ns 4) (nA ns 5)<|nA ns 6) (λn=>by rw[l];simp) 8 t h8;generalize Xd:k7 (nA ns 0) (nA ns 1) (nA ns 2) (nA ns 3) (nA ns 4) (nA ns 5) (nA ns 6)=o at rd ZM;have Z:=t.bK (nf:=nfg) (ks:=o);have wi:imm (.tuple [.str<|kdS b,.str<|nA ns 9,t.lk nfg o])=true:=by show(J&&(J&&(imm (t.lk nfg o)&&J)))=J;rw[Z];rfl
   have ei:imms (uv ns++[.tuple [.str<|kdS b,.str<|nA ns 9,t.lk nfg o]])=true:=by rw[yG (by rw[i.1];decide)];exact Ap rfl wi
   rw[<-yG (by rw[i.1];decide)]at rd
   have al:gX 11 [.list<|uv ns++[.tuple [.str<|kdS b,.str<|nA ns 9,t.lk nfg o]],.list<|uv ns++[.tuple [.str<|kdS b,.str<|nA ns 9,t.lk nfg o]]]=.ok (.fr,.bool J):=by
    refine vz (.inr rfl) ei (by rw[yG (by rw[i.1];decide)];show 7+1<=100;decide) λe E=>?_;rw[yG (by rw[i.1];decide)]at E;rcases bg.mp E with z|z
    .refine LA 10 e ?_;unfold d7 yy KU at z;simp at z;rcases z with rfl|rfl|rfl|rfl|rfl|rfl|rfl<;>rfl
    .rw[ai.mp z];refine Vd wi (show 3<=100 by decide) λe E=>?_;simp at E;rcases E with rfl|rfl|rfl
     .exact nK 8 _
     .exact nK 8 _
     .have :=Ve (nf:=nfg) (ks:=o) t (8-t.dp)
      rwa [show 8-t.dp+t.dp+1=9 by omega]at this
   refine aG (fS (vi K rfl<|j (.ok _) rd trivial) ei) (aG A<|qZ D rfl<|aG (bZ<|eO (aW (aC rfl)<|aW (aC rfl) bE) rfl H rfl)<|qZ (zF (aC rfl) rfl) rfl<|aG (bZ<|eD<|aF (T rfl)<|aF (ZL rfl)<|aF (eO (aW (aO (aO (aC rfl) aE.e (by rw[q];rfl)<|It.im _).e aE.e rfl t.bK).e<|aW (aC rfl) bE) rfl ZM Z) bG)<|bR<|dJ<|eO (aW (aC rfl)<|aW (KQ (Jo (aW (aC rfl) bE) rfl<|Va i.1) (AE<|aW (aC rfl) bE)<|add_list (by rw[yG (by rw[i.1];decide)];show 7+1<=1000;decide)) bE) rfl al rfl)
def yR:S:=(.seq (.asg (.nm 1)<|.bin .Add (.var 0)<|.lst<|.cons (.int 0) .nil)
 (.seq (.asg (.nm 2)<|.call 1 "_law_pool"<|.cons (.ix (.var 1)<|.int 0) .nil)
 (.seq (.cV (.tp [3,4]) (.enum<|.sl (.var 0) (.tv<|.int 1)<|.tv<|.int 32)
 (.seq (.bW (.not<|.tv<|.call 0 "_law_good"<|.cons (.var 4)<|.cons (.var 3)<|.cons (.var 2) .nil)
 (.seq (.ret<|.bl Z6)
 .nil)
 .nil)
 .nil))
 (.seq (.ret<|.call 0 "_law_good"<|.cons (.bi "len"<|.cons (.var 0) .nil)<|.cons (.int 40)<|.cons (.var 2) .nil)
 .nil))))
def Fv:Fn:=aZ [] [yP,oV] 5 yR
def V1 (h:xs.length<=63):(cut xs (Y 1)<|Y 32).length<=31:=by unfold cut;rw[rK ZP,rK ZP,du];refine bj (Nat.min_le_left _ _) ?_;generalize xs.length=n;omega
abbrev LD:List Fn:=[yP,oV]
def V2 {xs:List Int}(i:xs.length<=63):Fv [.list<|xs.map .int]=.ok (.fr,.bool J):=by
 refine eC ?_
 let Q:Res Out->Prop:=λr=>r=.ok (.rt .fr<|.bool J)
 show Q (aH [] LD yR [Y (.od,xs[()]),Z8,Z8,Z8,Z8]);refine aG (fS (xs:=(xs++[0]).map .int) (qY (aC rfl) (Ev.of<|dR<|aF aE bG) (by rw[add_list (by rw[am];show _+1<=1000;omega),cr];rfl)<|DP _)<|DP _) ?_;have f:(xs++[0]).length=xs.length+1:=ax;generalize xs++[0]=cell at f;let{ns,g,j}:=Ux<|cell.getD 0 0;refine aG (fS (vi (aW (aO (aC rfl) aE.e (t7 ZP ZQ) rfl).e bE) rfl j)<|jG _) ?_;have k:=V1 i;refine zhq (xs:=(cut xs (Y 1)<|Y 32).zipIdx) ((SM (jS (Κ:=[]) (Φ:=LD) (ρ:=[Y (.od,xs[()]),Y (.fr,cell[()]),Y (.fr,ns[_]),Z8,Z8]) (a:=.var 0) (b:=.tv<|.int 1) (c:=.tv<|.int 32) (λ_=>rfl) (aC rfl) (fL aE.e)<|fL aE.e) rfl<|SN<|by grind).trans<|by rw[Jq ZU]) (λ_ d=>∃u v,d=[Y (.od,xs[()]),Y (.fr,cell[()]),Y (.fr,ns[_]),u,v]) {(Z8),Z8,rfl} ?_ ?_
 .rintro pre x h d l ⟨u,v,rfl⟩
  have m:=by have:=(az.mp<|Uk (x:=x) (by rw[l];simp)).1;omega
  refine{_,SO rfl rfl,.inl ?_};exact qZ (qP<|aT (eO (aW (aC rfl)<|aW (aC rfl)<|aW (aC rfl) bE) rfl (LC g ZQ ZQ) rfl).e rfl) rfl (pA {_,_,rfl})
 .rintro d ⟨u,v,rfl⟩
  exact bR (dJ<|eO (aW (cF (aW (aC rfl) bE) (Uh xs) rfl).e<|aW aE.e<|aW (aC rfl) bE) rfl (LC g ZP ZP) rfl)
open PySem.Spec PyProof.Rows L2
def top (i:Nat):Stmt:=PySem.Challenge.pw_likebook_k58_whole_any_words.main.body.getD i (.Pass {(0),0,0,0})
def fU (i:Nat):Stmt->Stmt
 |.ClassDef _ _ _ b ..=>b.getD i (.Pass {(0),0,0,0})
 |s=>s
def Sb:Nat->S
 |0=>.nil
 |n+1=>.seq .bad (Sb n)
def F0 (n k:Nat):Fn:=aZ [] [] n (Sb k)
def LF:Fn:=aZ [] [gX 11,yp,oX 8,yt,vr,F0 4 1,yo,yu,oW] 11 yO
def V3:Fn:=aZ [] [LF,oV] 5 yR
abbrev FREE:List U:=["isinstance","str","len","all","range","list","tuple","int","bool","zip","enumerate","ValueError","max"]
abbrev dr (nm:U)(i:Nat)(N:List U)(k:Nat)(fr:List U)(fs:List Nat)(s:S)(F:Fn):aM:={nm,top i,N,N.take k,fr,fs,s,F,.n,[]}
abbrev pE:aM:=dr "number_of" 18 ["figures"] 1 ["int","len","all"] [] yh yi
abbrev hr (nm:U)(st:Stmt)(N:List U)(k n:Nat)(kc:List (U×List U):=[]):aM:={nm,st,N,N.take k,FREE,[],Sb n,F0 N.length n,.n,kc}
abbrev hm (nm:U)(st:Stmt)(N:List U)(k n:Nat):aM:={nm,st,N,N.take k,FREE,[],Sb n,λ_=>.no,.n,[]}
abbrev Rp:List aM:=[
 {"is_name",top 16,["thing"],["thing"],["all","len","isinstance","str"],[],yg,F_z0,.n,[("NO_NAMES",["and","or","not","if","is","some","all","for","against"])]},
 pE,
 hr "read_names" (top 30) ["row","names","name"] 1 3 [("OF_A_THING",["fact","open","word"])],
 hr "read_saying" (top 31) ["row","room","name"] 2 7 [("OF_A_THING",["fact","open","word"])],
 hr "read_asking" (top 32) ["row","room","word"] 2 6,
 hr "read_both" (top 33) ["row","read_part","room","one","sign","other"] 3 7,
 hr "read_bound" (top 34) ["row","name","number"] 2 5,
 hr "read_head" (top 28) ["row","name"] 1 3,
 hr "read_open" (top 29) ["row","name","fors"] 1 6,
 hr "read_row" (top 27) ["row","kind","told"] 1 4,
 hr "check_names" (top 26) ["row","told","name","tellers"] 2 2,
 hr "read_act" (top 25) ["text","act","kinds","number","written","row","told"] 1 5,
 hr "_law_told" (top 45) ["_law_text_here","e","_law_some","_law_kinds"] 1 1]
abbrev Mg:List aM:=[
 hm "__init__" (fU 0<|top 24) ["self","number","text","kinds"] 4 5,
 hm "peek" (fU 1<|top 24) ["self"] 1 1,
 hm "take" (fU 2<|top 24) ["self","word"] 1 3,
 hm "take_word" (fU 3<|top 24) ["self","word"] 2 1,
 hm "take_name" (fU 4<|top 24) ["self","name"] 1 3,
 hm "take_end" (fU 5<|top 24) ["self"] 1 1,
 hm "__init__" (fU 0<|top 11) ["self","row"] 2 1,
 hm "__init__" (fU 0<|top 12) ["self","name"] 2 1,
 hm "__init__" (fU 0<|top 13) ["self","name"] 2 1]
abbrev CRg:oU:={"Row",["number","words","place","kinds","said"],[("__init__",fU 0<|top 24),("peek",fU 1<|top 24),("take",fU 2<|top 24),("take_word",fU 3<|top 24),("take_name",fU 4<|top 24),("take_end",fU 5<|top 24)]}
abbrev yS (c:U):List (U×Bool):=(["Late","NoCourt","NoPack","NoReason","NoRow","NoRuling","NoSide","NotAllowed","NotYours","TooMuch","Twice","Unknown"]:List U).map λx=>(x,x==c)
abbrev xA:jK:={"NoRow","row","BookError",yS "NoRow",fU 0<|top 11}
abbrev xB:jK:={"Twice","name","BookError",yS "Twice",fU 0<|top 12}
abbrev xC:jK:={"Unknown","name","BookError",yS "Unknown",fU 0<|top 13}
abbrev Xg:List jK:=[xA,xB,xC]
abbrev Gg:List (U×Int):=[("MOST_ROWS",24),("MOST_OPENS",4),("MOST_DEEP",8)]
abbrev eV (fs:List Nat)(s:S)(F:Fn):aM:=dr "_law_text" 42 ["_law_tree_here"] 1 ["len"] fs s F
abbrev eG (fs:List Nat)(s:S)(F:Fn):aM:=dr "_law_alike" 46 ["_law_found","_law_due","_law_one","_law_two"] 2 ["zip","len","isinstance","list","tuple","int","bool","str"] fs s F
abbrev dU (fs:List Nat)(s:S)(F:Fn):aM:=dr "_law_looked" 54 ["_law_tree_here","_law_names"] 2 ["tuple"] fs s F
abbrev cH:aM:=dr "_law_good" 57 ["_law_cell","_law_k","_law_names","_law_draws_here","_law_kind","_law_words_here","_law_row","_law_found","_law_heap_here","_law_unknown_here","_law_due"] 3 ["len"] [54,42,70,71,61,12,41,72,16] yO LF
def lv (L:List Nat->S->Fn->aM)(s:S)(F:Nat->Fn)(i:Nat):Nat->Nat->List aM
 |0,_=>[]
 |n+1,k=>L [i+k] s (F<|k+1)::lv L s F i n (k+1)
abbrev Lz:List aM:=[
 dr "_law_mixed" 36 ["_law_cell","_law_k"] 2 [] [] yj rC,
 dr "_law_good_name" 37 ["_law_word_here"] 1 [] [] yk rD,
 dr "_law_pool" 38 ["_law_cell","_law_letters","_law_number","_law_many","_law_stem","_law_at","_law_signs","_law_k","_law_names"] 1 ["range"] [14,13] uj oV,
 dr "_law_draws" 39 ["_law_cell","_law_many","_law_found","_law_digits","_law_k","_law_number","_law_mixed_here"] 2 ["range"] [] uk oW,
 dr "_law_leaf" 40 ["_law_number","_law_names","_law_kind","_law_more","_law_some"] 2 ["str"] [] rE mK,
 dr "_law_tree" 41 ["_law_draws_here","_law_names","_law_held","_law_number","_law_last"] 2 ["len"] [17] um iN,
 eV [] yn (iO 0)]++(lv eV ym iO 19 21 0++([
 dr "_law_ahead" 43 ["_law_names","_law_rows"] 1 [] [] Kj yo,
 dr "_law_ahead_told" 44 ["_law_names","_law_rows"] 1 [] [] Kk yp,
 eG [] Km (gX 0)]++(lv eG Kl gX 43 11 0++([
 dr "_law_asking" 47 ["_law_draws_here","_law_names","_law_most","_law_held","_law_k","_law_number","_law_last","_law_said"] 3 ["len","range"] [18] EA yq,
 dr "_law_word" 48 ["_law_number","_law_names","_law_some"] 2 [] [] EB uo,
 dr "_law_changed" 49 ["_law_words_here","_law_number","_law_names","_law_kind","_law_more","_law_at","_law_turned"] 3 ["len"] [56] Ar As,
 dr "_law_is_number" 50 ["_law_word_here"] 1 ["int","len"] [] EC Au,
 dr "_law_is_name" 51 ["_law_word_here","_law_sign"] 1 ["len"] [] Kn rF,
 dr "_law_put_together" 52 ["_law_heap_here","_law_done","_law_top","_law_one","_law_two","_law_part"] 1 ["len","max"] [] Aw yr,
 dr "_law_heap" 53 ["_law_words_here","_law_heap_here","_law_place","_law_word_here","_law_figures"] 1 ["len","int"] [60,59,58] ED vr,
 dU [] Kr (oX 0)]++(lv dU Kq oX 62 8 0++([
 dr "_law_unknown" 55 ["_law_words_here","_law_names","_law_k","_law_word_here"] 2 ["range","len"] [59] EE yt,
 dr "_law_words" 56 ["_law_draws_here","_law_kind","_law_names","_law_number","_law_words_here","_law_turn"] 3 ["range","len"] [57,40,18,55,56] EF yu,
 cH]))))))
abbrev Rz:List aM:=Rp++Lz
abbrev Lr:aM:=dr "law" 58 ["_law_script","_law_cells","_law_names","_law_k","_law_cell"] 1 ["len","enumerate"] [73,15] yR V3
abbrev Xt:List XR:=[]
def mO:oks (Rz++[Lr]) Xt FREE 0 (Rz++[Lr])=true:=by decide+kernel
def V4:qV (Rz++[Lr]) (Rz++[Lr]):=by repeat' first|exact trivial|refine⟨rfl,?_⟩
def t_P:oks Rp [] FREE 0 Rp=true:=by decide+kernel
def t_Mg:oks Mg [] FREE 0 Mg=true:=by decide+kernel
abbrev Fw:List (U×U):=[("NoRow","row"),("Twice","name"),("Unknown","name")]
abbrev Fx:List U:=["MOST_ROWS","MOST_OPENS","MOST_DEEP"]
abbrev A4 (c:U):List (U×U×Bool):=(c,("ValueError":U),J)::(yS c).map λy=>(c,y.1,y.2)
abbrev yT:List (U×U×Bool):=A4 "NoRow"++(A4 "Twice"++A4 "Unknown")
abbrev LG:List (U×U):=[("NoRow","BookError"),("Twice","BookError"),("Unknown","BookError")]
abbrev gBg (st:Stmt)(N:List U)(fns:List<|U×Nat)(cs:List U):Gm:={N:=N,sc:=z0c st,free:=FREE,fns:=fns,cst:=cs,sub:=yT,rs:=[],gH:=LG}
abbrev gg (r:aM)(fns:List<|U×Nat)(cs:List U)(fn me cl hf:List<|U×Nat):Gw:={g:=gBg r.st r.N fns cs,fn:=fn,me:=me,cl:=cl,gi:=Fx,fld:=Fw,hf:=hf}
abbrev gg0 (r:aM)(me:List<|U×Nat):Gw:={g:=gBg r.st r.N [] [],fn:=[],me:=me,cl:=[],gi:=Fx}
abbrev N0:U×Nat:=("peek",0)
abbrev N1:U×Nat:=("take",0)
abbrev N2:U×Nat:=("take_word",1)
abbrev N3:U×Nat:=("take_name",0)
abbrev N4:U×Nat:=("take_end",0)
abbrev NN:List (U×Nat):=[N0,N1,N2,N3,N4]
abbrev OFc:List U:=["OF_A_THING"]
abbrev mq (i:Nat):aM:=Mg.getD i pE
abbrev pq (i:Nat):aM:=Rp.getD i pE
def xig (f:U):WS:=.seq (.z8 (.raw 0) f<|.raw 1) .nil
theorem V5 {P:b9}{w:World}{K:Z5}{mg:U->Option Value}{base:Heap}{k:Nat}{f:Addr}{fd:d6}{ps:List U}{sp LH:Sp}(F:FnOk P w K mg base (CXE P w base) k f fd ps sp)(h:∀vs H Q E,LH vs H Q E->sp vs H Q λ_ _ _=>False):FnOk P w K mg base pH k f fd ps LH:=
 ⟨λvs H Q E q=>F.len vs H Q _<|h _ _ _ _ q,λA outer s H args us vs Q E hr he hb hv hs=>ji (F.run A outer s H args us vs Q _ hr he hb hv<|h _ _ _ _ hs) λr s' z=>by
  cases r with
  |error e=>let{_,_,_,_,_,_,z}:=z;exact z.elim
  |ok x=>ext x<;>exact z⟩
theorem yU {K:Z5}:FnOk P w K mg base a k f fd ps (λ_ _ _ _=>False):={λ_ _ _ _ z=>z.elim,λ_ _ _ _ _ _ _ _ _ _ _ _ _ z=>z.elim}
abbrev FX (P:b9)(w:World)(K:Z5)(mg:U->Option Value)(base:Heap)(k:Nat)(f:Addr)(fd:d6)(ps:List U)(sp:Sp):Prop:=FnOk P w K mg base (CXE P w base) k f fd ps sp
theorem LI {K:Z5}(D:Dok a Κ Φ P w K mg base n)(b:a.fns[i]?=Y (x,N))(c:i<Φ.length)(hk:k<=n)(d:Cal P w K mg base k x ps<|spD K N m)(g:kE P w K mg base k x ps N m):Dok a Κ (Φ.set i m) P w K mg base n where
 free:=D.free
 fns:=λj f n e=>by
  by_cases h:i=j
  .subst h;cases b.symm.trans e;exact{m,k,ps,ce c,hk,d}
  .rw[bw h];exact D.fns j f n e
 cst:=D.cst
 lB:=λj f n e=>by
  by_cases h:i=j
  .subst h;cases b.symm.trans e;exact{m,k,ps,ce c,hk,g}
  .rw[bw h];exact D.lB j f n e
 xk:=D.xk
section
variable {P:b9}{w:World}{K:Z5}{mg:U->Option Value}{base:Heap}{CR:Addr}
theorem scg {i:Nat}(h:oks a [] FREE 0 a=J)(e:a[i]?=Y r):FnScope r.N r.ps (z0c r.st):=(xK<|xJ h e).1
def uC (i:Γ.sub=yT)(j:Γ.rs=[])(k:Γ.gH=LG)(l:mg "ValueError"=Z8)(G:∀x v,Z0 K bh x=Y (Y v)->mg x=Y v)(XX:∀r∈Xg,∃A D f fd,XAt K r A D f fd):vd Γ K mg:=by
 have one:∀r∈Xg,∀c C b,(c,C,b)∈A4 r.c->(r.cs=yS r.c)->IF K mg c C b:=λr d c C b h g=>by
  let{A,D,f,fd,a}:=XX r d;rcases ak.mp h with e|e
  .cases e;exact{A,.ty "ValueError",.type "ValueError",G _ _ a.ns,a.xa,XV.val,a.sv,rfl,λw q=>q,.inr {l,by decide+kernel,by decide}}
  .let{y,m,e}:=ci.mp e;cases e;let{E,n,o,p,s}:=a.cs y<|g▸m;exact{A,.ref E,.ref E,G _ _ a.ns,a.xa,XV.own p o,s,rfl,λw q=>q,.inl<|G _ _ n}
 have hn:∀r∈Xg,r.B="BookError"->∃A D,mg r.c=Y (.ref A)/\mg "BookError"=Y (.ref D)/\gI K A=J/\gI K D=J/\ZZ K (.ref A) (.ref D)=Y true:=λr d t=>by let{A,D,f,fd,a}:=XX r d;exact{A,D,G _ _ a.ns,by rw[<-t];exact G _ _ a.nb,a.xf.ex,a.ed,a.sd}
 refine{λc C b h=>?_,(λc h=>by rw[j]at h;ext h),λc B h=>?_}
 .rw[i]at h;rcases bg.mp (cj.mp h)with h|h
  .exact one xA (.head _) c C b h rfl
  .rcases bg.mp h with h|h
   .exact one xB (.tail _<|.head _) c C b h rfl
   .exact one xC (.tail _<|.tail _<|.head _) c C b h rfl
 .rw[k]at h;rcases ak.mp (cj.mp h)with e|e
  .cases e;exact hn xA (.head _) rfl
  .rcases ak.mp e with e|e
   .cases e;exact hn xB (.tail _<|.head _) rfl
   .cases ai.mp e;exact hn xC (.tail _<|.tail _<|.head _) rfl
variable (T:∀n∈FREE,mg n=Z8)(G:∀(x:U) (v:Value),Z0 K bh x=Y (Y v)->mg x=Y v)(XX:∀r∈Xg,∃A D f fd,XAt K r A D f fd)(GG:∀g∈Gg,∃t,Z0 K bh g.1=Y (Y<|.int g.2 t))
include T G XX
theorem dokg {st:Stmt}:Dok (gBg st N [] []) [] [] P w K mg base k where
 free:=λx a=>T x (cj.mp a)
 fns:=λj f n e=>by ext e
 cst:=λj x e=>by ext e
 lB:=λj f n e=>by ext e
 xk:=uC rfl rfl rfl (T _ dc) G XX
theorem dokc {st:Stmt}(b:zf9 K mg ("OF_A_THING",["fact","open","word"])):Dok (gBg st N [] OFc) [OFT] [] P w K mg base k where
 free:=λx c=>T x (cj.mp c)
 fns:=λj f n e=>by ext e
 cst:=λj x e=>by
  rcases j with _|j
  .cases e;let{a,d,g}:=b;exact{_,a,rfl,d,g}
  .cases e
 lB:=λj f n e=>by ext e
 xk:=uC rfl rfl rfl (T _ dc) G XX
include GG
theorem Fy:∀(j:Nat) x,Fx[j]?=Y x->∃(n:Int) (t:Tok),([24,4,8]:List Int)[j]?=Y n/\mg x=Y (.int n t):=λj x e=>by
 rcases j with _|_|_|j
 .cases e;let{t,e}:=GG _<|.head _;simp_all
 .cases e;let{t,e}:=GG _<|.tail _<|.head _;exact{4,t,rfl,G _ _ e}
 .cases e;let{t,e}:=GG _<|.tail _<|.tail _<|.head _;exact{8,t,rfl,G _ _ e}
 .cases e
def A5:∀Γ X r,2<=r->Γ.fld=Fw->X.prog=P->X.w=w->X.K=K->X.mg=mg->X.base=base->Wfk Γ X r:=by
 have one:∀r (i:Nat),r∈Xg->Mg[i]?=Y {"__init__",r.st,["self",r.fl],["self",r.fl],FREE,[],Sb 1,fun _=>.no,.n,[]}->wkL (gg0 {"__init__",r.st,["self",r.fl],["self",r.fl],FREE,[],Sb 1,fun _=>.no,.n,[]} []) (xig r.fl) (z0m r.st)=J->(∀fd,(∃f,Fun K "__init__" (r.c++"."++"__init__") r.st f fd)->Binds K fd ["self",r.fl] [])->
   ∃C f fd ps k,mg r.c=Y (.ref C)/\XF K C r.fl/\XI K C f/\k+1<=2/\FX P w K mg base k f fd ps (mH K r.fl)/\Binds K fd ps []:=λr i hr m g h=>by
  let{A,D,f,fd,a}:=XX r hr;refine{A,f,fd,["self",r.fl],1,G _ _ a.ns,a.xf,a.xi,ag _,?_,h fd {(f),a.fu}};refine w_fn (Γ:=gg0 {"__init__",r.st,["self",r.fl],["self",r.fl],FREE,[],Sb 1,λ_=>.no,.n,[]} []) (Z:={K:=K,mg:=mg,Κ:=[],Φ:=[],E:=λ_ _ _=>False,fn:=[],me:=[],cl:=[],gi:=[24,4,8]}) a.fu (scg t_Mg m) rfl rfl (dokg T G XX) (λE=>{rfl,rfl,nofun,nofun,nofun,Fy T G XX GG,nofun,nofun,nofun}) rfl (.inl rfl) g (by rintro _ _ _ _ ⟨_,_,_,_,_,rfl,_⟩;rfl) ?_
  rintro _ _ _ _ ⟨x,C,ob,ws,y,rfl,o,d,hd,p,xf,q⟩
  exact{y,rfl,.ref x,rfl,x,C,ob,ws,rfl,o,d,hd,p,xf,λdp j l=>q dp j l}
 intro Γ X r hr hf s g t hm h;subst s g t hm h;intro c fl d;rw[hf]at d;have up:∀{c fl:U},(∃C f fd ps k,X.mg c=Y (.ref C)/\XF X.K C fl/\XI X.K C f/\k+1<=2/\FnOk X.prog X.w X.K X.mg X.base (CXE X.prog X.w X.base) k f fd ps (mH X.K fl)/\Binds X.K fd ps [])->∃C f fd ps k,X.mg c=Y (.ref C)/\XF X.K C fl/\XI X.K C f/\k+1<=r/\FnOk X.prog X.w X.K X.mg X.base (CXE X.prog X.w X.base) k f fd ps (mH X.K fl)/\Binds X.K fd ps []:=λ{c fl} ⟨C,f,fd,ps,k,j,l,u,v,z,B⟩=>{C,f,fd,ps,k,j,l,u,bj v hr,z,B};rcases ak.mp (cj.mp d)with e|e
 .cases e;exact up (one xA 6 (.head _) rfl Z' λfd ⟨f,b⟩=>b.binds λ_ _ _ _ _ _=>vg λ_ _=>rfl)
 .rcases ak.mp e with e|e
  .cases e;exact up (one xB 7 (.tail _<|.head _) rfl Z' λfd ⟨f,b⟩=>b.binds λ_ _ _ _ _ _=>vg λ_ _=>rfl)
  .cases ai.mp e;exact up (one xC 8 (.tail _<|.tail _<|.head _) rfl Z' λfd ⟨f,b⟩=>b.binds λ_ _ _ _ _ _=>vg λ_ _=>rfl)
end
section
variable {P:b9}{w:World}{K:Z5}{mg:U->Option Value}{base:Heap}{CR:Addr}
variable (T:∀n∈FREE,mg n=Z8)(G:∀(x:U) (v:Value),Z0 K bh x=Y (Y v)->mg x=Y v)(XX:∀r∈Xg,∃A D f fd,XAt K r A D f fd)(GG:∀g∈Gg,∃t,Z0 K bh g.1=Y (Y<|.int g.2 t))
abbrev zg (K:Z5)(mg:U->Option Value)(fn:List Sp)(me:List<|Addr×U×Sp)(cl:List<|Addr×Sp)(Κ:List D:=[])(hf:List (Addr×Sp):=[])(Φ:List Fn:=[]):Wc:={K:=K,mg:=mg,Κ:=Κ,Φ:=Φ,E:=λ_ _ _=>False,fn:=fn,me:=me,cl:=cl,gi:=[24,4,8],hf:=hf}
def vJ (P:b9)(w:World)(K:Z5)(mg:U->Option Value)(base:Heap)(CR:Addr)(k:Nat)(m:U)(ps:List U)(sp:Sp):Prop:=∃f fd,FX P w K mg base k f fd ps sp/\Meth K CR m f/\Binds K fd ps []
include T G XX GG in
def msg (CA:ClsAt K CRg CR)(Dn:Dok (gBg (mq 4).st (mq 4).N [("is_name",1)] []) [] [F_z0] P w K mg base 2):
  vJ P w K mg base CR 1 "__init__" ["self","number","text","kinds"] (spRI K CR)/\vJ P w K mg base CR 1 "peek" ["self"] (z1n K CR)/\vJ P w K mg base CR 2 "take" ["self"] (z1i K CR)/\vJ P w K mg base CR 3 "take_word" ["self","word"] (spTW K CR mg)/\vJ P w K mg base CR 3 "take_name" ["self"] (spTN K CR mg isn)/\vJ P w K mg base CR 3 "take_end" ["self"] (Af K CR mg):=by
 have rk:RowK K CR:={CA.cls,(CA.na)};let{f0,yV,LJ,A6}:=CA.ms ("__init__",fU 0<|top 24)<|.head _;let{f1,uD,LK,yW}:=CA.ms ("peek",fU 1<|top 24)<|.tail _<|.head _;let{f2,fd2,Fu2,A7}:=CA.ms ("take",fU 2<|top 24)<|.tail _<|.tail _<|.head _;let{f3,yX,LL,Fz}:=CA.ms ("take_word",fU 3<|top 24)<|.tail _<|.tail _<|.tail _<|.head _;let{f4,yY,LM,FA}:=CA.ms ("take_name",fU 4<|top 24)<|.tail _<|.tail _<|.tail _<|.tail _<|.head _;let{f5,yZ,LN,FC}:=CA.ms ("take_end",fU 5<|top 24)<|.tail _<|.tail _<|.tail _<|.tail _<|.tail _<|.head _;have b0:Binds K yV ["self","number","text","kinds"] []:=LJ.binds λ_ _ _ _ _ _=>by4 λ_ _ _ _=>rfl;have b1:Binds K uD ["self"] []:=LK.binds λ_ _ _ _ _ _=>vf λ_=>rfl;have b2:Binds K fd2 ["self"] []:=Fu2.binds λ_ _ _ _ _ _=>vf λ_=>rfl;have b3:Binds K yX ["self","word"] []:=LL.binds λ_ _ _ _ _ _=>vg λ_ _=>rfl;have b4:Binds K yY ["self"] []:=LM.binds λ_ _ _ _ _ _=>vf λ_=>rfl;have b5:Binds K yZ ["self"] []:=LN.binds λ_ _ _ _ _ _=>vf λ_=>rfl;have gi:=Fy T G XX GG;have F0:FX P w K mg base 1 f0 yV ["self","number","text","kinds"] (spRI K CR):=w_fn (Γ:=gg0 (mq 0) []) (Z:=zg K mg [] [] []) (s:=Rd.init) LJ (scg t_Mg (i:=0) rfl) rfl rfl (dokg T G XX) (λE=>{rfl,rfl,nofun,nofun,nofun,(gi),nofun,nofun,nofun}) rfl (.inl rfl) Z' (by rintro _ _ _ _ ⟨_,_,_,_,_,rfl,_⟩;rfl) (by rintro _ _ _ _ ⟨x,dx,kd,n,t,rfl,hx,ok,q⟩;exact zst rk hx ok q);have F1:FX P w K mg base 1 f1 uD ["self"] (z1n K CR):=w_fn (Γ:=gg0 (mq 1) []) (Z:=zg K mg [] [] []) (s:=Rd.peek) LK (scg t_Mg (i:=1) rfl) rfl rfl (dokg T G XX) (λE=>{rfl,rfl,nofun,nofun,nofun,(gi),nofun,nofun,nofun}) rfl (.inl rfl) Z' (by rintro _ _ _ _ ⟨_,_,_,_,_,_,_,_,rfl,_⟩;rfl) (by rintro _ _ _ _ ⟨x,dx,wl,kd,sl,n,ws,p,rfl,r,q⟩;exact Ti rk r q)
 have F2:FX P w K mg base 2 f2 fd2 ["self"] (z1i K CR):=w_fn (Γ:=gg0 (mq 2) [N0]) (Z:=zg K mg [] [(CR,"peek",z1n K CR)] []) (s:=Rd.take) Fu2 (scg t_Mg (i:=2) rfl) rfl rfl (dokg T G XX) (fun E=>⟨rfl,rfl,nofun,(fun j x n e=>by
   rcases j with _|j
   .cases e;exact{CR,_,f1,uD,_,1,rfl,ag _,F1,CA.cls,yW,b1}
   .cases e),nofun,gi,nofun,nofun,nofun⟩) rfl (.inl rfl) Z'
  (by rintro _ _ _ _ ⟨_,_,_,_,_,_,_,_,rfl,_⟩;rfl) (by rintro _ _ _ _ ⟨x,dx,wl,kd,sl,n,ws,p,rfl,r,q⟩;exact Tj rk rfl r q)
 have FD:∀(j:Nat) (m:U) (n:Nat),[N0,N1][j]?=Y (m,n)->∃C sp f fd ps k,[(CR,(("peek":U),z1n K CR)),(CR,(("take":U),z1i K CR))][j]?=Y (C,m,sp)/\k<=2/\FX P w K mg base k f fd ps sp/\Cls K C/\Meth K C m f/\Binds K fd ps []:=λj m n e=>by
  rcases j with _|_|j
  .cases e;exact{CR,_,f1,uD,_,1,rfl,by decide,F1,CA.cls,yW,b1}
  .cases e;exact{CR,_,f2,fd2,_,2,rfl,ag _,F2,CA.cls,A7,b2}
  .cases e
 have F3:FX P w K mg base 3 f3 yX ["self","word"] (spTW K CR mg):=w_fn (Γ:=gg (mq 3) [] [] [] [N0,N1] [] []) (Z:=zg K mg [] [(CR,"peek",z1n K CR),(CR,"take",z1i K CR)] []) (s:=Rd.takeWord) LL (scg t_Mg (i:=3) rfl) rfl rfl (dokg T G XX) (λE=>{rfl,rfl,nofun,(FD),nofun,gi,nofun,nofun,nofun}) rfl (.inr λX h1 h2 h3 h4 h5=>A5 T G XX GG _ X 2 (ag _) rfl h1 h2 h3 h4 h5) Z' (by rintro _ _ _ _ ⟨_,_,_,_,_,_,_,_,_,rfl,_⟩;rfl) (by rintro _ _ _ _ ⟨x,dx,wl,kd,sl,n,ws,p,w0,rfl,r,hw,q⟩;exact zor rk rfl r hw q);have F4:FX P w K mg base 3 f4 yY ["self"] (spTN K CR mg isn):=w_fn (Γ:=gg (mq 4) [("is_name",1)] [] [] [N0,N1] [] []) (Z:=zg K mg [] [(CR,"peek",z1n K CR),(CR,"take",z1i K CR)] [] [] [] [F_z0]) (s:=Rd.jH) LM (scg t_Mg (i:=4) rfl) rfl rfl Dn (λE=>{rfl,rfl,nofun,(FD),nofun,gi,nofun,nofun,nofun}) rfl (.inr λX h1 h2 h3 h4 h5=>A5 T G XX GG _ X 2 (ag _) rfl h1 h2 h3 h4 h5) Z' (by rintro _ _ _ _ ⟨_,_,_,_,_,_,_,_,rfl,_⟩;rfl) (by rintro _ _ _ _ ⟨x,dx,wl,kd,sl,n,ws,p,rfl,r,q⟩;exact zqq rk rfl {F_z0,rfl,λs ok=>Kz ok.2} r q);have F5:FX P w K mg base 3 f5 yZ ["self"] (Af K CR mg):=w_fn (Γ:=gg (mq 5) [] [] [] [N0,N1] [] []) (Z:=zg K mg [] [(CR,"peek",z1n K CR),(CR,"take",z1i K CR)] []) (s:=Rd.takeEnd) LN (scg t_Mg (i:=5) rfl) rfl rfl (dokg T G XX) (λE=>{rfl,rfl,nofun,(FD),nofun,gi,nofun,nofun,nofun}) rfl (.inr λX h1 h2 h3 h4 h5=>A5 T G XX GG _ X 2 (ag _) rfl h1 h2 h3 h4 h5) Z' (by rintro _ _ _ _ ⟨_,_,_,_,_,_,_,_,rfl,_⟩;rfl) (by rintro _ _ _ _ ⟨x,dx,wl,kd,sl,n,ws,p,rfl,r,q⟩;exact Tn rk r q);exact{{(f0),yV,F0,A6,b0},{(f1),uD,F1,yW,b1},{(f2),fd2,F2,A7,b2},{(f3),yX,F3,Fz,b3},{(f4),yY,F4,FA,b4},{(f5),yZ,F5,FC,b5}}
theorem LO {P:b9}{w:World}{K:Z5}{mg:U->Option Value}{base:Heap}{CX:CXT}{k:Nat}{f:Addr}{fd:d6}{ps:List U}{n:Nat}{m:Fn}(F:FnOk P w K mg base pH k f fd ps<|spD K n m):FnOk P w K mg base CX k f fd ps (spD K n m):=
 ⟨F.len,λA outer s H args us vs Q E hr he hb hv hs=>ji (F.run A outer s H args us vs Q E hr he hb hv hs) λr s' z=>by
  cases r with
  |error e=>exact(show False from z).elim
  |ok x=>ext x<;>exact z⟩
def V6 (q:kL mg x sl ks nm sd H Q E):kL mg x sl ks nm sd H (λH'=>∀_:L2.St,Q H') E:=by
 unfold kL at q ⊢;split at q
 .rename_i h;rw[qq h];exact q
 .rename_i h;rw[qr h];cases hu:bU ks sd with
  |some u=>rw[hu]at q;exact q
  |none=>rw[hu]at q;simp_all
include T G XX GG in
def rd5 {nf:U->Option Int}(CA:ClsAt K CRg CR)(CO:zf9 K mg ("OF_A_THING",["fact","open","word"]))(Dn:Dok (gBg (mq 4).st (mq 4).N [("is_name",1)] []) [] [F_z0] P w K mg base 2)(C0:Cal P w K mg base 1 "is_name" ["thing"]<|spD K 1 F_z0){Fn1:Fn}(C1:Cal P w K mg base 2 "number_of" ["figures"]<|spD K 1 Fn1)(hnf:∀s,okS s->Fn1 [.str s]=.ok (.fr,optD<|nf s))(nf0:nf ""=Z8)(hi0:isn ""=Z6)(O:∀i r,i<13->Rp[i]?=Y r->Own K mg r.nm r.st r.ps):
  ∃f fd,FX P w K mg base 25 f fd ["_law_text_here"] (spTg K isn nf)/\mg "_law_told"=Y (.ref f)/\Z2 K (.ref f)=J/\Binds K fd ["_law_text_here"] []:=by
 have rk:RowK K CR:={CA.cls,(CA.na)};let{{f0,yV,F0,A6,b0},{f1,uD,F1,yW,b1},{f2,fd2,F2,A7,b2},{f3,yX,F3,Fz,b3},{f4,yY,F4,FA,b4},{f5,yZ,F5,FC,b5}}:=msg T G XX GG CA Dn;have gi:=Fy T G XX GG;have fl:∀(Γ:Gw) (r:Nat),2<=r->Γ.fld=Fw->(Γ.fld=[]\/∀X:Cx,X.prog=P->X.w=w->X.K=K->X.mg=mg->X.base=base->Wfk Γ X r):=λΓ r hr hf=>.inr λX h1 h2 h3 h4 h5=>A5 T G XX GG Γ X r hr hf h1 h2 h3 h4 h5
 let ME:List (Addr×U×Sp):=[(CR,(("peek":U),z1n K CR)),(CR,(("take":U),z1i K CR)),(CR,(("take_word":U),spTW K CR mg)),(CR,(("take_name":U),spTN K CR mg isn)),(CR,(("take_end":U),Af K CR mg))]
 have rM:∀(r j:Nat) (m:U) (n:Nat),3<=r->NN[j]?=Y (m,n)->∃C sp f fd ps k,ME[j]?=Y (C,m,sp)/\k<=r/\FX P w K mg base k f fd ps sp/\Cls K C/\Meth K C m f/\Binds K fd ps []:=λr j m n hr e=>by
  rcases j with _|_|_|_|_|j
  .cases e;exact{CR,_,f1,uD,_,1,rfl,by omega,F1,CA.cls,yW,b1}
  .cases e;exact{CR,_,f2,fd2,_,2,rfl,by omega,F2,CA.cls,A7,b2}
  .cases e;exact{CR,_,f3,yX,_,3,rfl,hr,F3,CA.cls,Fz,b3}
  .cases e;exact{CR,_,f4,yY,_,3,rfl,hr,F4,CA.cls,FA,b4}
  .cases e;exact{CR,_,f5,yZ,_,3,rfl,hr,F5,CA.cls,FC,b5}
  .cases e
 let{g2,gd2,Gu2,V7,V8,V9}:=O 2 _ ZP rfl;let{g3,rN,V',y4,y6,y7}:=O 3 _ ZP rfl;let{g4,uE,Wa,A8,A9,A'}:=O 4 _ ZP rfl;let{g5,y8,Wb,LP,LQ,LR}:=O 5 _ ZP rfl;let{g6,gd6,Gu6,Wf,Wg,Wh}:=O 6 _ ZP rfl;let{g7,LS,Wi,Wj,Wk,Wl}:=O 7 _ ZP rfl;let{g8,gd8,Gu8,Wm,Wn,Wo}:=O 8 _ ZP rfl;let{g9,gd9,Gu9,Wr,Ws,Wt}:=O 9 _ ZP rfl;let{LU,y9,FE,FF,FG,FH}:=O 10 _ ZP rfl;let{g11,gd11,Gu11,FI,FJ,FK}:=O 11 _ ZP rfl;let{g12,gd12,Gu12,FN,FO,FP}:=O 12 _ ZP rfl;let{i0,Wu,I0,Wv,Ww,Wx}:=C0;let{i1,Wy,I1,WA,WB,WC}:=C1;have no:∀(j:Nat) (x:U) (n:Nat) {α:Prop},([]:List<|U×Nat)[j]?=Y (x,n)->α:=λj x n α e=>by ext e
 have H2:FX P w K mg base 4 g2 gd2 ["row"] (spNs K CR mg isn):=w_fn (Γ:=gg (pq 2) [] OFc [("is_name",1)] NN [] []) (Z:=zg K mg [spD K 1 F_z0] ME [] [OFT]) (s:=Rd.readNames) Gu2 (scg t_P (i:=2) rfl) rfl rfl (dokc T G XX CO) (fun E=>⟨rfl,rfl,(fun j x n e=>by
   rcases j with _|j
   .cases e;exact{_,i0,Wu,_,1,rfl,by decide,LO I0,Wv,Ww,Wx}
   .cases e),(λj m n e=>rM 3 j m n (ag _) e),nofun,gi,nofun,nofun,nofun⟩) rfl (fl _ 3 ZP rfl) Z'
  (by rintro _ _ _ _ ⟨_,_,_,_,_,_,_,_,_,_,rfl,_⟩;rfl) (by rintro _ _ _ _ ⟨x,dx,wl,kd,sl,n,ws,ks,p,sd,rfl,r,n0,q⟩;exact zrj rk rfl rfl {F_z0,rfl,λs ok=>Kz ok.2} rfl n0 r q)
 have H6:FX P w K mg base 4 g6 gd6 ["row","name"] (spBd K CR mg nf):=w_fn (Γ:=gg (pq 6) [] [] [("number_of",1)] NN [] []) (Z:=zg K mg [spD K 1 Fn1] ME []) (s:=Rd.readBound) Gu6 (scg t_P (i:=6) rfl) rfl rfl (dokg T G XX) (fun E=>⟨rfl,rfl,(fun j x n e=>by
   rcases j with _|j
   .cases e;exact{_,i1,Wy,_,2,rfl,by decide,LO I1,WA,WB,WC}
   .cases e),(λj m n e=>rM 3 j m n (ag _) e),nofun,gi,nofun,nofun,nofun⟩) rfl (fl _ 3 ZP rfl) Z'
  (by rintro _ _ _ _ ⟨_,_,_,_,_,_,_,_,_,_,_,rfl,_⟩;rfl) (by rintro _ _ _ _ ⟨x,dx,wl,kd,sl,n,ws,ks,p,sd,nm,rfl,r,oS,q⟩;exact zqx rk rfl rfl {(Fn1),rfl,hnf} nf0 r oS q)
 have Bo:∀(x:U) (fa:Addr) (Ba:d6) (k r:Nat) (f:List U->List (U×U)->Nat->List D->Ro),wkL (gg (pq 5) [] [] [] NN [] [(x,2)]) Rd.gB (z0m (pq 5).st)=J->3<=k->FX P w K mg base k fa Ba ["row","room"] (spR K CR mg r f)->mg x=Y (.ref fa)->Z2 K (.ref fa)=J->Binds K Ba ["row","room"] []->FX P w K mg base (k+1) g5 y8 ["row","read_part","room"] (kK K CR mg fa r f):=λx fa Ba k r f hv hk Ff hm WE hb=>
  w_fn (Γ:=gg (pq 5) [] [] [] NN [] [(x,2)]) (Z:=zg K mg [] ME [] [] [(fa,spR K CR mg r f)]) (s:=Rd.gB) Wb (scg t_P (i:=5) rfl) rfl rfl (dokg T G XX) (λE=>⟨rfl,rfl,nofun,(λj m n e=>rM k j m n hk e),nofun,gi,(λj x' n e=>by
   rcases j with _|j
   .cases e;exact{_,fa,Ba,_,k,rfl,ag _,Ff,hm,WE,hb}
   .cases e),nofun,nofun⟩) rfl (fl _ k ZQ rfl) hv
  (by rintro _ _ _ _ ⟨_,_,_,_,_,_,_,_,_,_,rfl,_⟩;rfl) (by rintro _ _ _ _ ⟨x,dx,wl,kd,sl,n,ws,ks,p,sd,rfl,g,q⟩;exact zgu rk rfl rfl rfl g q)
 have LV:∀(r k:Nat) (s0 s1:Sp),(∃k',k'<=k/\FX P w K mg base k' g3 rN ["row","room"] s0)->(∃k',k'<=k/\FX P w K mg base k' g5 y8 ["row","read_part","room"] s1)->4<=k->(∀r',r=r'+1->s0=(spR K CR mg r' λws ks=>z18 isn nf ws ks r')/\s1=kK K CR mg g3 r' λws ks=>z18 isn nf ws ks r')->FX P w K mg base (k+1) g3 rN ["row","room"] (spR K CR mg r λws ks=>z18 isn nf ws ks r):=λr k s0 s1 ⟨k0,l0,A0⟩ ⟨k1,l1,A1⟩ hk hz=>
  w_fn (Γ:=gg (pq 3) [] OFc [("read_saying",2),("read_both",3),("read_bound",2)] NN [] [("read_saying",2)]) (Z:=zg K mg [s0,s1,spBd K CR mg nf] ME [] [OFT] [(g3,s0)]) (s:=Rd.fZ) V' (scg t_P (i:=3) rfl) rfl rfl (dokc T G XX CO) (λE=>⟨rfl,rfl,(λj x n e=>by
   rcases j with _|_|_|j
   .cases e;exact{_,g3,rN,_,k0,rfl,l0,A0,y4,y6,y7}
   .cases e;exact{_,g5,y8,_,k1,rfl,l1,A1,LP,LQ,LR}
   .cases e;exact{_,g6,gd6,_,4,rfl,hk,H6,Wf,Wg,Wh}
   .cases e),(λj m n e=>rM k j m n ZQ e),nofun,gi,(λj x n e=>by
   rcases j with _|j
   .cases e;exact{_,g3,rN,_,k0,rfl,l0,A0,y4,y6,y7}
   .cases e),nofun,nofun⟩) rfl (fl _ k ZQ rfl) Z'
  (by rintro _ _ _ _ ⟨_,_,_,_,_,_,_,_,_,_,rfl,_⟩;rfl) (by rintro _ _ _ _ ⟨x,dx,wl,kd,sl,n,ws,ks,p,sd,rfl,g,q⟩;exact zmm rk {rfl,rfl,rfl,rfl,rfl,λr' e=>by let{rfl,rfl}:=hz r' e;exact{rfl,g3,_,rfl,rfl}} hi0 g q)
 have Sy:∀r,FX P w K mg base (5+2*r) g3 rN ["row","room"] (spR K CR mg r λws ks=>z18 isn nf ws ks r):=λr=>by
  induction r with
  |zero=>exact LV 0 4 (λ_ _ _ _=>False) (λ_ _ _ _=>False) {0,by decide,yU} {0,by decide,yU} ZP λr' e=>by ext e
  |succ r ih=>have hb:=Bo "read_saying" g3 rN (5+2*r) r _ Z' ZQ ih y4 y6 y7;rw[show 5+2*(r+1)=6+2*r+1 by omega];exact LV (r+1) (6+2*r) _ _ {_,by omega,ih} {_,by omega,hb} ZQ λr' e=>by ext e;exact{(rfl),rfl}
 have LW:∀(r k:Nat) (s0 s1 s2:Sp),(∃k',k'<=k/\FX P w K mg base k' g4 uE ["row","room"] s0)->(∃k',k'<=k/\FX P w K mg base k' g5 y8 ["row","read_part","room"] s1)->(∃k',k'<=k/\FX P w K mg base k' g3 rN ["row","room"] s2)->4<=k->(∀r',r=r'+1->s0=(spR K CR mg r' λws ks=>z1p isn nf ws ks r')/\(s1=kK K CR mg g4 r' λws ks=>z1p isn nf ws ks r')/\s2=spR K CR mg r' λws ks=>z18 isn nf ws ks r')->FX P w K mg base (k+1) g4 uE ["row","room"] (spR K CR mg r λws ks=>z1p isn nf ws ks r):=λr k s0 s1 s2 ⟨k0,l0,A0⟩ ⟨k1,l1,A1⟩ ⟨k2,l2,A2⟩ hk hz=>
  w_fn (Γ:=gg (pq 4) [] [] [("read_asking",2),("read_both",3),("read_saying",2)] NN [] [("read_asking",2)]) (Z:=zg K mg [s0,s1,s2] ME [] [] [(g4,s0)]) (s:=Rd.gA) Wa (scg t_P (i:=4) rfl) rfl rfl (dokg T G XX) (λE=>⟨rfl,rfl,(λj x n e=>by
   rcases j with _|_|_|j
   .cases e;exact{_,g4,uE,_,k0,rfl,l0,A0,A8,A9,A'}
   .cases e;exact{_,g5,y8,_,k1,rfl,l1,A1,LP,LQ,LR}
   .cases e;exact{_,g3,rN,_,k2,rfl,l2,A2,y4,y6,y7}
   .cases e),(λj m n e=>rM k j m n ZQ e),nofun,gi,(λj x n e=>by
   rcases j with _|j
   .cases e;exact{_,g4,uE,_,k0,rfl,l0,A0,A8,A9,A'}
   .cases e),nofun,nofun⟩) rfl (fl _ k ZQ rfl) Z'
  (by rintro _ _ _ _ ⟨_,_,_,_,_,_,_,_,_,_,rfl,_⟩;rfl) (by rintro _ _ _ _ ⟨x,dx,wl,kd,sl,n,ws,ks,p,sd,rfl,g,q⟩;exact zm9 rk {rfl,rfl,λr' e=>by let{rfl,rfl,rfl}:=hz r' e;exact{rfl,{g4,_,rfl,rfl},rfl}} g q)
 have Ak:∀r,FX P w K mg base (6+2*r) g4 uE ["row","room"] (spR K CR mg r λws ks=>z1p isn nf ws ks r):=λr=>by
  induction r with
  |zero=>exact LW 0 5 (λ_ _ _ _=>False) (λ_ _ _ _=>False) (λ_ _ _ _=>False) {0,by decide,yU} {0,by decide,yU} {0,by decide,yU} ZP λr' e=>by ext e
  |succ r ih=>have hb:=Bo "read_asking" g4 uE (6+2*r) r _ Z' ZQ ih A8 A9 A';rw[show 6+2*(r+1)=7+2*r+1 by omega];exact LW (r+1) (7+2*r) _ _ _ {_,by omega,ih} {_,by omega,hb} {_,by omega,Sy r} ZQ λr' e=>by ext e;exact{(rfl),rfl,rfl}
 have H7:FX P w K mg base 4 g7 LS ["row"] (spHg K CR mg isn):=w_fn (Γ:=gg (pq 7) [] [] [] NN [] []) (Z:=zg K mg [] ME []) (s:=Rd.jI) Wi (scg t_P (i:=7) rfl) rfl rfl (dokg T G XX) (λE=>{rfl,rfl,nofun,(λj m n e=>rM 3 j m n (ag _) e),nofun,gi,nofun,nofun,nofun}) rfl (fl _ 3 ZP rfl) Z' (by rintro _ _ _ _ ⟨_,_,_,_,_,_,_,_,_,_,rfl,_⟩;rfl) (by rintro _ _ _ _ ⟨x,dx,wl,kd,sl,n,ws,ks,p,sd,rfl,g,q⟩;exact zp5 rfl rfl g q)
 have H8:FX P w K mg base 5 g8 gd8 ["row"] (spOg K CR mg isn):=w_fn (Γ:=gg (pq 8) [] [] [("read_names",1)] NN [] []) (Z:=zg K mg [spNs K CR mg isn] ME []) (s:=Rd.readOpen) Gu8 (scg t_P (i:=8) rfl) rfl rfl (dokg T G XX) (fun E=>⟨rfl,rfl,(fun j x n e=>by
   rcases j with _|j
   .cases e;exact{_,g2,gd2,_,4,rfl,by decide,H2,V7,V8,V9}
   .cases e),(λj m n e=>rM 4 j m n ZP e),nofun,gi,nofun,nofun,nofun⟩) rfl (fl _ 4 ZP rfl) Z'
  (by rintro _ _ _ _ ⟨_,_,_,_,_,_,_,_,_,_,rfl,_⟩;rfl) (by rintro _ _ _ _ ⟨x,dx,wl,kd,sl,n,ws,ks,p,sd,rfl,g,n0,q⟩;exact zol rk rfl rfl rfl rfl n0 g q)
 have H9:FX P w K mg base 23 g9 gd9 ["row"] (spRg K CR mg isn nf):=w_fn (Γ:=gg (pq 9) [] [] [("read_open",1),("read_head",1),("read_saying",2),("read_asking",2)] NN [] []) (Z:=zg K mg [spOg K CR mg isn,spHg K CR mg isn,spR K CR mg 8 fun ws ks=>z18 isn nf ws ks 8,spR K CR mg 8 fun ws ks=>z1p isn nf ws ks 8] ME []) (s:=Rd.readRow) Gu9 (scg t_P (i:=9) rfl) rfl rfl (dokg T G XX) (fun E=>⟨rfl,rfl,(fun j x n e=>by
   rcases j with _|_|_|_|j
   .cases e;exact{_,g8,gd8,_,5,rfl,by decide,H8,Wm,Wn,Wo}
   .cases e;exact{_,g7,LS,_,4,rfl,by decide,H7,Wj,Wk,Wl}
   .cases e;exact{_,g3,rN,_,21,rfl,by decide,Sy 8,y4,y6,y7}
   .cases e;exact{_,g4,uE,_,22,rfl,by decide,Ak 8,A8,A9,A'}
   .cases e),(λj m n e=>rM 22 j m n ZP e),nofun,gi,nofun,nofun,nofun⟩) rfl (fl _ 22 ZP rfl) Z'
  (by rintro _ _ _ _ ⟨_,_,_,_,_,_,_,_,_,rfl,_⟩;rfl) (by rintro _ _ _ _ ⟨x,dx,wl,kd,sl,n,ws,ks,sd,rfl,g,n0,q⟩;exact zo1 rk {(rfl),rfl,rfl,rfl,rfl,rfl,rfl,rfl} n0 g q)
 have WG:FX P w K mg base 4 LU y9 ["row","told"] (spCg K CR mg):=w_fn (Γ:=gg (pq 10) [] [] [] NN [] []) (Z:=zg K mg [] ME []) (s:=Rd.fY) FE (scg t_P (i:=10) rfl) rfl rfl (dokg T G XX) (λE=>{rfl,rfl,nofun,(λj m n e=>rM 3 j m n (ag _) e),nofun,gi,nofun,nofun,nofun}) rfl (fl _ 3 ZP rfl) Z' (by rintro _ _ _ _ ⟨_,_,_,_,_,_,_,_,_,_,_,rfl,_⟩;rfl) (by rintro _ _ _ _ ⟨x,dx,wl,kd,sl,n,ws,ks,p,sd,nm,rfl,g,oS,q⟩;exact TL rk g oS<|V6 q)
 have H11:FX P w K mg base 24 g11 gd11 ["text"] (spAg K mg isn nf):=w_fn (Γ:=gg (pq 11) [] [] [("read_row",1),("check_names",2)] [] [("Row",3)] []) (Z:=zg K mg [spRg K CR mg isn nf,spCg K CR mg] [] [(CR,spRI K CR)]) (s:=Rd.readAct) Gu11 (scg t_P (i:=11) rfl) rfl rfl (dokg T G XX) (fun E=>⟨rfl,rfl,(fun j x n e=>by
   rcases j with _|_|j
   .cases e;exact{_,g9,gd9,_,23,rfl,by decide,H9,Wr,Ws,Wt}
   .cases e;exact{_,LU,y9,_,4,rfl,by decide,WG,FF,FG,FH}
   .cases e),nofun,(λj x n e=>by
   rcases j with _|j
   .cases e;exact{CR,_,f0,yV,_,1,rfl,by decide,F0,{(CA.Uc),A6.at_,A6.fn,CA.kp},G _ _ CA.ns,b0}
   .cases e),gi,nofun,nofun,nofun⟩) rfl (fl _ 23 ZP rfl) Z'
  (by rintro _ _ _ _ ⟨_,_,_,rfl,_⟩;rfl) (by rintro _ _ _ _ ⟨v,d,B,rfl,rv,n0,hd,q⟩;exact zrf rfl rfl rfl rfl rv n0 hd q)
 have H12:FX P w K mg base 25 g12 gd12 ["_law_text_here"] (spTg K isn nf):=w_fn (Γ:=gg (pq 12) [] [] [("read_act",1)] [] [] []) (Z:=zg K mg [spAg K mg isn nf] [] []) (s:=Rd.toldg) Gu12 (scg t_P (i:=12) rfl) rfl rfl (dokg T G XX) (fun E=>⟨rfl,rfl,(fun j x n e=>by
   rcases j with _|j
   .cases e;exact{_,g11,gd11,_,24,rfl,by decide,H11,FI,FJ,FK}
   .cases e),nofun,nofun,gi,nofun,nofun,nofun⟩) rfl (fl _ 24 ZP rfl) Z'
  (by rintro _ _ _ _ ⟨_,_,_,rfl,_⟩;rfl) (by rintro _ _ _ _ ⟨v,d,B,rfl,rv,ra,ot,q⟩;exact Ub rfl rv ra ot q)
 exact{g12,gd12,H12,(FN),FO,FP}
end
def LX:chkL (cH.G (Rz++[Lr]) Xt) yO (z0m<|top 57)=true:=by decide+kernel
def FQ:chkL (Lr.G (Rz++[Lr]) Xt) yR (z0m<|top 58)=true:=by decide+kernel
def WH {x}(h:pU a=.ok x):∃d,a=[d]/\E' d/\x=(.fr,vq<|kM isn nfg d):=by
 unfold pU at h;split at h
 .rename_i d;split at h
  .rename_i b;ext h;simp_all
  .cases h
 .cases h
def WI {c}(h:excOf (pU a)=Y c):False:=by
 unfold pU at h;split at h
 .split at h<;>ext h
 .cases h
def allR {l:W.OpenLaw}{K:Z5}{CR:Addr}(X:K.In h)(Gn:h.Ns bh mg)(hfa:mg "law"=Y (.ref fa))(hK:kOks K Rz)(kl:∃f fd,Kf K Lr f fd)(hz:∀n∈FREE,Z0 K bh n=Y Z8)(hC:∀r∈Rz++[Lr],∀y∈r.kc,ck1 K y=J)(CA:ClsAt K CRg CR)(XX:∀r∈Xg,∃A D f fd,XAt K r A D f fd)(GG:∀g∈Gg,∃t,Z0 K bh g.1=Y (Y<|.int g.2 t)):
  ∃fd:d6,(∀(s:aq) (v:Value),nq s fd {[v],[]} [("_law_script",v)])/\∀base:Heap,K.In base->base.Ns bh mg->FnOk l.prog w K mg base pH 75 fa fd ["_law_script"] (spD K 1 Fv):=by
 let{f,fd,a,oc,od,an,sl,kV,dc,pm,cd,ct,rfl,lk,hc,hk}:=kl;have e:=hfa.symm.trans<|W.mg_of X Gn a;ext e;have T:=λn hn=>W.mg_none_of X Gn<|hz n hn;have Gx:∀(x:U) (v:Value),Z0 K bh x=Y (Y v)->mg x=Y v:=λx v e=>W.mg_of X Gn e;refine{W.fnOf "law" "law" (z1d<|top 58) (z0m<|top 58) (z0c<|top 58) .none kV dc pm an cd ct,λs v=>.of_eq rfl,λbase _ _=>?_};have O:∀i r,i<74->(Rz++[Lr])[i]?=Y r->Own K mg r.nm r.st r.ps:=λi r hi e=>by rw[eo hi]at e;let{{f,fd,a,oc,od,an,sl,kV,dc,pm,cd,ct,rfl,lk,hc,hk},hb}:=IW hK e;exact zpy X Gn a lk hc hk hb
 have xk:∀Γ:Gm,Γ.sub=(Xt.map XR.subs).flatten->Γ.rs=Xt.map (·.c)->(Γ.gH=Xt.map λr=>(r.c,r.B))->vd Γ K mg:=λΓ h1 h2 h3=>{(λc C b z=>by rw[h1]at z;ext z),(λc z=>by rw[h2]at z;ext z),λc B z=>by rw[h3]at z;ext z};have Bb:=λr hr y hy=>R5 X Gn<|hC r hr y hy;have cI:∀j c,j<74->(Rz++[Lr])[j]?=Y c->ve l.prog w K mg base j c:=λj c hj hc=>R4 mO V4 T xk 74 Bb O j c hj hc;have hr:(Rz++[Lr])[74]?=Y Lr:=rfl;have ho:=xJ mO hr;have D:=DD hr ho T xk (Bb Lr<|bp _<|.head _) cI;have n0:=qW (cI 0 _ ZP rfl) (Rs:=Rz++[Lr]) rfl rfl;have n1:=qW (cI 1 _ ZP rfl) (Rs:=Rz++[Lr]) rfl rfl
 have Dn:Dok (gBg (mq 4).st (mq 4).N [("is_name",1)] []) [] [F_z0] l.prog w K mg base 2:={
  free:=λx hx=>T x (cj.mp hx)
  fns:=λj f n e=>by
   rcases j with _|j
   .cases e;exact{F_z0,1,["thing"],rfl,by decide,n0.1}
   .cases e
  cst:=λj x e=>by ext e
  lB:=λj f n e=>by
   rcases j with _|j
   .cases e;exact{F_z0,1,["thing"],rfl,by decide,n0.2}
   .cases e
  xk:=uC rfl rfl rfl (T _ ZP) Gx XX}
 have CO:=Bb (Rp.getD 2 Lr) (.tail _<|.tail _<|.head _) ("OF_A_THING",["fact","open","word"])<|.head _;let{ft,LY,Ft,mt,kt,bt}:=rd5 T Gx XX GG CA CO Dn n0.1 n1.1 (λs ok=>UO ok.2) EX ES λi r hi e=>O i r ZQ (by have z:Rz++[Lr]=Rp++(Lz++[Lr]):=jb ..;rw[z,eo hi];exact e);have C1:Cal l.prog w K mg base 25 "_law_told" ["_law_text_here"] (spD K 1 pU):=by refine{ft,LY,V5 Ft λvs H Q E ⟨A,ds,x,h1,h2,h3,q⟩=>?_,mt,kt,bt};let{d,rfl,ht,rfl}:=WH h3;let{v,t,rfl,rv,rt}:=h2;ext rt;exact{v,d,A,rfl,rv,ht.1,ht.2,λH' w s r=>q w H' s r}
 have C2:kE l.prog w K mg base 25 "_law_told" ["_law_text_here"] 1 pU:=by refine{ft,LY,{λvs H Q E ⟨A,ds,c,h1,h2,h3,_⟩=>h1,λA outer s H args us vs Q E hr he hb hv ⟨B,ds,c,h1,h2,h3,_⟩=>?_},mt,kt,bt};exact(WI h3).elim
 have iQ:=xJ mO (i:=73) rfl;have jN:=DD rfl iQ T xk (Bb cH<|dg (i:=73) rfl) λj c hj hc=>cI j c ZQ hc;have eW:=(LI jN (i:=5) rfl ZP ZP C1 C2);let{eX,eY,eZ,fA,fB,fC}:=O 73 cH ZP rfl;have iR:Cal l.prog w K mg base 74 "_law_good" ["_law_cell","_law_k","_law_names"] (spD K 3 yP):={eX,eY,d_fn eZ (scg mO (i:=73) rfl) rfl rfl rfl eW LX,fA,fB,fC};have iS:kE l.prog w K mg base 74 "_law_good" ["_law_cell","_law_k","_law_names"] 3 yP:={eX,eY,zsi eZ (scg mO (i:=73) rfl) rfl rfl rfl eW LX,fA,fB,fC};have D':=(LI D (i:=0) rfl ZP ZP iR iS);exact d_fn (BS lk hc hk) (scg mO (i:=74) rfl) rfl rfl rfl D' FQ
def uF:DefRec:={"law",z1d<|top 58,z0m<|top 58,z0c<|top 58,{411,(0),417,54}}
def Bc:KEq uG (Rz++[Lr]) FREE Xt:=by
 rw[PySem.W.Fast.tkeq_eq];intro P
 kernel_rfl
def WJ:Tp.said PySem.Challenge.rw_likebook_k58_whole_any_words=true:=by
 rw[PySem.W.Fast.tsaid_eq]
 kernel_rfl
def WK:W.opening nM=W.plainProg nM.main.scope.names:=by kernel_rfl
theorem WL:∀s,fenceModules? nM s=Y s:=λs=>by kernel_rfl
def WM:W.defOf vL PySem.Challenge.rw_likebook_k58_whole_any_words.row.name=Y (uF,[]):=by kernel_rfl
def WN:nM.theDef PySem.Challenge.rw_likebook_k58_whole_any_words.row.name=Y (uF.params,uF.body,uF.scope):=by kernel_rfl
def WO:W.kwWritten? uF.params.kwonlyargs uF.params.kw_defaults=Y []:=by kernel_rfl
def WQ:(!PySem.Challenge.rw_likebook_k58_whole_any_words.row.writes||PySem.Challenge.rw_likebook_k58_whole_any_words.row.records.isEmpty)=true:=by kernel_rfl
def WR:(W.chainsOk vL&&W.opensWell nM&&(W.frees PySem.Challenge.rw_likebook_k58_whole_any_words.row.toRowW&&PySem.Challenge.rw_likebook_k58_whole_any_words.row.within.isEmpty))=true:=by kernel_rfl
theorem walk {l:W.OpenLaw}{K:en->Z5}(hn:l.most=Y 63)(b:d.params.defaults=[])
  (e:∀w h,g w h->(K w.params).In h)
  (F:∀w mg c h,(K w.params).In h->h.Ns bh mg->mg d.name=Y (.ref c)->∃fd,(∀s u,nq s fd {[u],[]} [("_law_script",u)])/\∀base,(K w.params).In base->base.Ns bh mg->FnOk l.prog w (K w.params) mg base pH 75 c fd ["_law_script"] (spD (K w.params) 1 Fv)):
  W.WalkO q loose m g l.row.toRowW d [] (λf i=>PySem.call f i):=
 L2.walk_of hn ZP b {rfl,by decide,by decide} e F (λ_ _ a ns j _ k=>{_,_,_,rfl,R3 k,V2 j,λv n _ r=>r}) λ_ _ _ _ _ z=>z
def WT:KCq uG CRg:=by
 rw[PySem.W.Fast.tkcq_eq];intro P
 kernel_rfl
def kX:KXq uG Xg Gg:=by
 rw[PySem.W.Fast.tkxq_eq];intro P
 kernel_rfl
def FR:t6 Rz:=by repeat' first|exact trivial|refine⟨λ_ _ _ _ _ _=>vf λ_=>rfl,?_⟩|refine⟨λ_ _ _ _ _ _=>vg λ_ _=>rfl,?_⟩|refine⟨λ_ _ _ _ _ _=>IV λ_ _ _=>rfl,?_⟩
end Mk
open PySem PySem.W PyProof.Rows Mi
set_option maxRecDepth 100000 in
set_option maxHeartbeats 0 in
theorem PySem.Challenge.cw_likebook_k58_whole_any_words_holds : PySem.Challenge.rw_likebook_k58_whole_any_words.Holds := by
 refine Tp.holds (l:=PySem.Challenge.rw_likebook_k58_whole_any_words) (q:=Mk.vL) (d:=Mk.uF) (K:=Mk.uG) (M:=100000) (N:=200000) Mk.WJ (Tp.vK _ _ Mk.za) Mk.WK rfl Mk.WL ZP Mk.L0 Mk.L1 Mk.WM Mk.WN Mk.WO Mk.WQ Mk.WR {rfl,rfl,rfl,rfl,rfl,by decide+kernel} (by w_witness2) ?_;refine Mk.walk (l:=PySem.Challenge.rw_likebook_k58_whole_any_words) rfl rfl (λw h ZM=>ZM) ?_;intro w mg fa h KX G WU;let{CR,CA}:=Ue Mk.WT w.params;exact Mk.allR (CR:=CR) KX G WU (Jb (λr hr=>(zV Mk.Bc w.params).1 r<|cq _ hr) Mk.FR) ((zV Mk.Bc w.params).1 Mk.Lr<|bp _<|.head _) (zV Mk.Bc w.params).2.1 (zV Mk.Bc w.params).2.2.2 CA (Ki Mk.kX w.params).1 (Ki Mk.kX w.params).2
