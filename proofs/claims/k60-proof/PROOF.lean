import PyProof.Rows.All
import Open.Boot
import OpenK.KLine
import OpenK.KWalk
import OpenK.KMore
import OpenK.KOwn
import OpenK.KRaise
import KE.KSortTup
import PyProof.EqAt
import PyProof.EqKinds
import PyProof.TupleCall
import PyProof.ReprLen
import KE.KIsAll
import PyProof.ExcArgsOwn
import PyProof.NsDelKeeps
import KE.KTryMore
import PyProof.InstStoreFacts
import PyProof.ExcInit
import PyProof.ExcClass2
import PyProof.Rows.ListMul
import PyProof.Draws
import PyProof.EnumMake
import PyProof.Rows.EnumRows
import KE.KItemsList
import PyProof.DictCompW
import PyProof.ListRange
import PyProof.ZipIter
import PyProof.AttrMissHeap
import KE.KDictOf
import KE.KUnpack
import PyProof.SetKind
import PyProof.Rows.SetFrom
import KE.KIntText
import KE.KMinKey
import KE.KLam
import PySem.Challenge.RW_cutstree_k60_groups_told
set_option Elab.async false
set_option compiler.extract_closed false
set_option bootstrap.genMatcherCode false
section
variable{a b c d:Sort _}{G:Prop}
section
variable{P Q R S T:Prop}
def eX20(h:P/\Q)(k:P->Q->G):G:=let⟨p,q⟩:=h;k p q
def eX30(h:P/\Q/\R)(k:P->Q->R->G):G:=let⟨p,q,r⟩:=h;k p q r
def eX40(h:P/\Q/\R/\S)(k:P->Q->R->S->G):G:=let⟨p,q,r,s⟩:=h;k p q r s
def eX50(h:P/\Q/\R/\S/\T)(k:P->Q->R->S->T->G):G:=let⟨p,q,r,s,t⟩:=h;k p q r s t
end
section
variable{P Q R S:a->Prop}
def eX21(h:∃x,P x)(k:∀x,P x->G):G:=let⟨x,p⟩:=h;k x p
def eX31(h:∃x,P x/\Q x)(k:∀x,P x->Q x->G):G:=let⟨x,p,q⟩:=h;k x p q
def eX41(h:∃x,P x/\Q x/\R x)(k:∀x,P x->Q x->R x->G):G:=let⟨x,p,q,r⟩:=h;k x p q r
def eX51(h:∃x,P x/\Q x/\R x/\S x)(k:∀x,P x->Q x->R x->S x->G):G:=let⟨x,p,q,r,s⟩:=h;k x p q r s
end
section
variable{P Q R:a->b->Prop}
def eX32(h:∃x y,P x y)(k:∀x y,P x y->G):G:=let⟨x,y,p⟩:=h;k x y p
def eX42(h:∃x y,P x y/\Q x y)(k:∀x y,P x y->Q x y->G):G:=let⟨x,y,p,q⟩:=h;k x y p q
def eX52(h:∃x y,P x y/\Q x y/\R x y)(k:∀x y,P x y->Q x y->R x y->G):G:=let⟨x,y,p,q,r⟩:=h;k x y p q r
end
section
variable{P Q:a->b->c->Prop}
def eX43(h:∃x y z,P x y z)(k:∀x y z,P x y z->G):G:=let⟨x,y,z,p⟩:=h;k x y z p
def eX53(h:∃x y z,P x y z/\Q x y z)(k:∀x y z,P x y z->Q x y z->G):G:=let⟨x,y,z,p,q⟩:=h;k x y z p q
end
section
variable{P:a->b->c->d->Prop}
def eX54(h:∃x y z u,P x y z u)(k:∀x y z u,P x y z u->G):G:=let⟨x,y,z,u,p⟩:=h;k x y z u p
end
end
open Lean Parser.Tactic in
local macro_rules|`(tactic|obtain⟨$s,*⟩:=$e)=>do
 let s:=s.getElems
 let m:=min s.size 5
 let mut b:Array (TSyntax `term):=#[]
 let mut f<-`(tactic|fail)
 let mut g<-`(tactic|skip)
 for i in [0:m] do
  let p:=s[i]!
  let z:=mkIdent (<-MonadQuotation.addMacroScope (.mkSimple s!"z{i}"))
  let q:=if p.raw[0][0].getNumArgs<2 then p.raw[0][0][0] else p.raw
  if m<s.size&&i==4 then
   b:=b.push z
   let r:Array (TSyntax ``rcasesPatLo):=s[i:]
   g<-`(tactic|(($g:tactic)<;>(obtain⟨$[$r],*⟩:=$z:ident)))
  else if q.isOfKind ``rcasesPat.one&&q[0].getId != `rfl then b:=b.push ⟨q[0]⟩
  else if q.isOfKind ``rcasesPat.ignore then b:=b.push (<-`(_))
  else
   b:=b.push z
   g<-`(tactic|(($g:tactic)<;>(rcases $z:ident with $p:rcasesPatLo)))
 let h:=mkIdent (<-MonadQuotation.addMacroScope `h)
 let h:=if e.raw.isIdent then ⟨e.raw⟩ else h
 for k in [0:m] do
  let E:=mkIdent (.mkSimple s!"eX{m}{k}")
  f<-`(tactic|first|($f:tactic)|(refine $E:ident $h ?_))
 let d<-if e.raw.isIdent then `(tactic|skip) else `(tactic|have $h:ident:=$e)
 `(tactic|first|($d:tactic;$f:tactic;(try clear $h);intro $b*;$g:tactic)|(rcases $e:term with⟨$[$s],*⟩))
local macro_rules|`(tactic|cases $h:ident)=>`(tactic|first|subst $h:ident|(injection $h:ident with a b c;cases a;cases b;cases c)|(injection $h:ident with a b;cases a;cases b)|(injection $h:ident with a;cases a)|(injection $h:ident;done)|cases ($h))
open Lean Parser.Tactic in
local macro_rules|`(tactic|let $d:letDecl)=>do
 let x:=d.raw[0];if x.getKind != ``Parser.Term.letPatDecl then Macro.throwUnsupported
 let m:=fun s=>mkNode ``rcasesPatMed #[mkNullNode #[s]]
 let p:=x[0].rewriteBottomUp fun s=>if s.isIdent then mkNode ``rcasesPat.one #[s] else if s.isOfKind ``Parser.Term.hole then mkNode ``rcasesPat.ignore #[s[0]] else if s.isOfKind ``Parser.Term.anonymousCtor then mkNode ``rcasesPat.tuple #[s[0],mkNullNode (s[1].getArgs.mapIdx fun i y=>if i%2==0 then mkNode ``rcasesPatLo #[m y,mkNullNode] else y),s[s.getNumArgs-1]] else s
 `(tactic|obtain $(⟨m p⟩):rcasesPatMed:=$(⟨x[4]⟩))
section
set_option maxRecDepth 100000
set_option maxHeartbeats 0
namespace Q60
open PySem PySem.W PyProof.Rows
noncomputable def qv:Program:={ PySem.Challenge.rw_cutstree_k60_groups_told.prog with main:={ PySem.Challenge.rw_cutstree_k60_groups_told.prog.main with body:=(((((((PySem.Challenge.rw_cutstree_k60_groups_told.prog.main.body.eraseIdx 36).eraseIdx 31).eraseIdx 26).eraseIdx 24).eraseIdx 14).eraseIdx 5).eraseIdx 0) } }
noncomputable abbrev ran(w:World)(os:OsState):Option Shared:=topFrom treeTable PySem.Challenge.rw_cutstree_k60_groups_told.prog w 6100 { heap:=boot_heap w.params,gens:=#[],drawn:=boot_drawn,toks:=boot_toks,os:=os }
noncomputable abbrev xt(s:Shared):Bool:=xlAt qv [] s&&recOk (RowW.records (OpenRow.toRowW PySem.Challenge.rw_cutstree_k60_groups_told.row)) s
theorem two{c d:Type}{o:Option Shared}{f:Shared->c}{g:Shared->d}{a:c}{b:d}(e:o.map f=some a)(h:o.map g=some b):o.map (fun s=>(f s,g s))=some (a,b):=by
 cases o with
 |none=>cases e
 |some s=>cases e;cases h;rfl
theorem pk{o p γ q r s t u ι:Type}{a j:o}{b k:p}{c c':γ}{d d':q}{e l:r}{f m:s}{g g':t}{h h':u}{i n:ι}(v:a=j)(w:b=k)(x:c=c')(y:(d,e)=(d',l))(z:(f,g)=(m,g'))(A:(h,i)=(h',n)):(a,b,c,d,e,f,g,h,i)=(j,k,c',d',l,m,g',h',n):=by
 cases v;cases w;cases x;cases y;cases z;cases A;rfl
theorem t1(w:World)(os:OsState):(ran w os).map (fun s=>seen (List.map (fun x=>x.name) (recsOf qv)) (ownsOf qv) [] { heap:=s.heap,drawn:=s.drawn,toks:=s.toks,os:=s.os })=some (expectedOf qv):=by kernel_rfl
theorem t2(w:World)(os:OsState):(ran w os).map (fun s=>s.heap.bltView)=some bltViewBooted:=by kernel_rfl
theorem t3(w:World)(os:OsState):(ran w os).map (fun s=>s.heap.keysOk (looseW qv []) (List.map (fun x=>x.name) (recsOf qv)) (List.map (fun x=>x.fst) (litsOf qv)) (List.map (fun x=>x.name) (clssOf qv (looseW qv [])))&&s.heap.accountedOkI (importedModules PySem.Challenge.rw_cutstree_k60_groups_told.prog.main.body)&&s.heap.isNs mainGlobals&&s.heap.isNs builtinsNs&&tablesOk qv s.heap&&xt s&&if true=true then s.gens.size==0 else !leftWithCleanup s.gens)=some true:=by kernel_rfl
theorem t4(w:World)(os:OsState):(ran w os).map (fun s=>(tabsOk qv s,pinSeenD qv (drecsOf qv) s))=some (true,pinGoodD (drecsOf qv)):=by kernel_rfl
theorem t5(w:World)(os:OsState):(ran w os).map (fun s=>(plainSeenE qv (looseW qv []) s,plainSeenD qv [] s))=some (plainGoodE qv (looseW qv []),plainGoodD qv []):=by kernel_rfl
theorem t6(w:World)(os:OsState):(ran w os).map (fun s=>(wideSeen qv s,clsSeenW qv [] s))=some (wideGood qv,clsGoodW qv []):=by kernel_rfl
theorem left_boot{l:Type}{Yf:Shared->l}{Ya:World->l}(m:opening PySem.Challenge.rw_cutstree_k60_groups_told.prog=plainProg (PySem.Challenge.rw_cutstree_k60_groups_told.prog).main.scope.names)(n:Nat.ble 600 6100=true)(o:∀s:Shared,fenceModules? PySem.Challenge.rw_cutstree_k60_groups_told.prog s=some s)(h:∀(w:World)(os:OsState),(ran w os).map Yf=some (Ya w)):LeftO PySem.Challenge.rw_cutstree_k60_groups_told.prog qv [] xt Yf Ya 6100 true:=by
 intro w;have b:=boot_open m n o w;unfold openEnds;cases e:fencedOpening treeTable PySem.Challenge.rw_cutstree_k60_groups_told.prog w 6100 with
 |none=>rw[e]at b;cases b
 |some s=>
  rw[e]at b;let⟨q,r,t,p,a⟩:=s;simp only[Option.map_some,Option.some.injEq,Prod.mk.injEq]at b;let⟨rfl,rfl,rfl,rfl⟩:=b;have d:=t4 w a;have f:=t5 w a;have g:=t6 w a;show(ran w a).map _=_;have c:=t1 w a;have i:=t2 w a;have j:=t3 w a;have k:=h w a;revert c i j d f g k;cases ran w a with
  |none=>intro c;cases c
  |some s=>
   intro d f g c i j k;have c:=Option.some.inj c;have i:=Option.some.inj i;have j:=Option.some.inj j;have d:=Option.some.inj d;have f:=Option.some.inj f;have g:=Option.some.inj g;have k:=Option.some.inj k;refine congrArg some (Prod.ext ?_ k);exact pk c i j d f g
end Q60
open PySem PySem.W PyProof.Rows
local macro_rules | `(tactic| o_head $H) => `(tactic| (
 refine holds_open (r:=PySem.Challenge.rw_cutstree_k60_groups_told.row) (q:=Q60.qv) (loose:=[]) (Xt:=Q60.xt) (XP:=XL Q60.qv []) (Yf:=Hook.obs $H) (Ya:=Hook.val $H) (YP:=Hook.says $H) (N:=6100) ?hl (Hook.of $H) (Hook.keeps $H) (fun s e=>xl_of s (Bool.and_eq_true_iff.mp e).1) XL.keeps (by rfl) (by rfl) (by rfl) (fun s e=>recFacts_of (Bool.and_eq_true_iff.mp e).2) (by rfl) (by first|assumption|decide +kernel) (by decide +kernel) ⟨rfl,rfl,rfl,rfl,rfl,by decide +kernel⟩ ?hw ?hc
 (case hl=>exact Q60.left_boot rfl rfl (fun _=>rfl) (fun w os=>by kernel_rfl))))
open_top Q60.k_top for PySem.Challenge.rw_cutstree_k60_groups_told
end
section
set_option linter.all false
set_option maxRecDepth 100000
set_option maxHeartbeats 4000000
abbrev Fg:=PySem.W.Frag
local macro_rules|`(61)=>`(by omega)|`(65)=>`(fun _=>rfl)|`(66)=>`(by decide)|`(67)=>`(by simp)|`(68)=>`(by grind)|`(69)=>`(by sleep 988)|`(70)=>`(by sleep 990)|`(72)=>`(by sleep 989)|`(73)=>`(by sleep 991)|`(74)=>`(by sleep 992)|`(75)=>`(fun _ _=>False)|`(76)=>`(by sleep 993)|`(77)=>`(by sleep 987)
noncomputable section
open PySem renaming sizeLine->bv,model->bx,wpAny->bz,starEach->cb,foldedSetIterable->cc,mainGlobals->ce,compareOp->cf,codeAny->cg,letOwnedTupleGo->ci
open PySem.SeqAt renaming shaped->cj
open PySem.SetTable renaming insertAt->ck,below->cm
open PySem.PyData renaming eqv->cn
abbrev T0:=PySem.Value->PySem.Shared->Prop
abbrev T1:=List (PySem.Addr×PySem.Obj)
abbrev T2:=List (Option Nat)
abbrev T3:=List PySem.PyData
abbrev T4:=List PySem.Value
abbrev T6:=List Int
abbrev T8:=List PySem.Expr
abbrev Ta:=List PySem.Stmt
abbrev Tb:=List PySem.Addr
abbrev Tc:=List PySem.Str
abbrev Tf:=Option PySem.Value
abbrev Tg:=Option Nat
abbrev Th:=Option PySem.Addr
abbrev Ti:=Array PySem.Value
abbrev Tj:=Array Nat
abbrev Tk:=Option Int
abbrev Tl:=PySem.Str×PySem.NameKind
abbrev Tn:=PySem.Value->PySem.Value->PySem.Sem PySem.Value
abbrev To:=Nat->Nat->Bool
abbrev Tq:=PySem.Str->Option PySem.NameKind
abbrev Tt:=List (PySem.Str×PySem.Value)
abbrev Tv:=List
abbrev Tx:=Option
abbrev Tz:=PySem.Value
abbrev Ua:=PySem.PyData
abbrev Ub:=PySem.Shared
abbrev Uc:=PySem.Addr
abbrev Ud:=PySem.Expr
abbrev Ue:=PySem.Program
abbrev Uf:=PySem.Around
noncomputable abbrev Z{α:Type _}(x:α):=some x
noncomputable abbrev Y{α:Type _}:=@none α
abbrev A1:=@PySem.wpAny_bind
abbrev A2:=@Option.bind_some
abbrev A3:=@PySem.Heap.get?_push_of_some
abbrev A4:=@PySem.wpAny_pure
abbrev A6:=@List.length_map
abbrev A7:=@List.mem_cons_of_mem
abbrev A8:=@if_pos
abbrev A9:=@Bool.and_eq_true
abbrev B0:=@List.mem_cons_self
abbrev B1:=@List.mem_append_right
abbrev B2:=@PySem.Heap.lt_size
abbrev B3:=@Nat.le_refl
abbrev B4:=@List.mem_singleton
abbrev B5:=@PySem.Heap.get?_push_size
abbrev B6:=@List.length_append
abbrev B7:=@if_neg
abbrev B8:=@decide_eq_true
abbrev B9:=@List.getElem?_eq_some_iff
abbrev C0:=@List.getElem?_eq_getElem
abbrev C1:=@List.mem_cons
abbrev C2:=@Nat.ne_of_lt
abbrev C3:=@List.all_eq_true
abbrev C4:=@Bool.false_ne_true
abbrev C5:=@Nat.le_trans
abbrev C6:=@List.map_cons
abbrev C7:=@PySem.wpAny_mono
abbrev C8:=@of_decide_eq_true
abbrev C9:=@Nat.lt_of_lt_of_le
abbrev D0:=@decide_eq_false
abbrev D3:=@List.mem_map
abbrev D4:=@Array.length_toList
abbrev D5:=@List.mem_append
abbrev D6:=@PySem.wpAny_newObj_type
abbrev D7:=@List.getElem?_map
abbrev D8:=@List.length_cons
abbrev D9:=@List.getD_eq_getElem?_getD
abbrev E1:=@Array.getD_eq_getD_getElem?
abbrev E2:=@List.mem_append_left
abbrev E3:=@List.map_append
abbrev E4:=@List.mem_range
abbrev E5:=@Option.some.inj
abbrev E6:=@Nat.zero_le
abbrev E7:=@PySem.wpAny_holding
abbrev E8:=@PySem.wpAny_field
abbrev E9:=@List.length_singleton
abbrev F0:=@List.getElem?_set_self
abbrev F4:=@List.size_toArray
abbrev F5:=@PySem.W.mg_none_of
abbrev F6:=@List.getElem?_set_ne
abbrev F7:=@PySem.wpAny_call_entry
abbrev F8:=@Array.getElem?_toList
abbrev F9:=@PyProof.Rows.callWith_type1
abbrev I0:=@List.lookup_cons
abbrev J0:=@List.map_map
abbrev J7:=@PySem.sizeLine_eq
abbrev J8:=@List.append_nil
abbrev J9:=@PySem.wpAny_callSpecial?_slot
abbrev L6:=@PySem.Heap.get?_update_self
abbrev L7:=@List.append_assoc
abbrev L8:=@Array.getElem?_eq_getElem
abbrev L9:=@PySem.wpAny_standAt
abbrev O0:=@List.length_range
abbrev O1:=@Nat.ne_of_gt
abbrev O6:=@PySem.mem_of_lookup
abbrev O7:=@PySem.wpAny_setField_rec
abbrev O8:=@List.map_congr_left
abbrev O9:=@List.find?_cons
abbrev S0:=@decide_eq_true_eq
abbrev S3:=@PySem.Heap.size_push
abbrev S4:=@Bool.and_eq_true_iff
abbrev S5:=@List.drop_eq_getElem_cons
abbrev S6:=@List.pairwise_cons
abbrev S7:=@Int.emod_lt_of_pos
abbrev S8:=@PySem.Heap.get?_update_other
abbrev S9:=@PySem.Obj.data_mapFields
abbrev U0:=@List.any_eq_true
abbrev U1:=@Int.toNat_natCast
abbrev U2:=@PySem.PassesOwn.never
abbrev U3:=@PySem.Heap.SameBut.update
abbrev U4:=@List.filter_cons_of_pos
abbrev U5:=@List.filter_cons_of_neg
abbrev U6:=@PyProof.Rows.slot_tuple_getitem
abbrev U7:=@List.mem_of_getElem?
abbrev U8:=@Bool.true_and
abbrev U9:=@List.getElem_mem
abbrev Y0:=@List.getElem?_append_left
abbrev Y1:=@beq_eq_false_iff_ne
abbrev Y2:=@List.length_reverse
abbrev Y3:=@List.nodup_append
abbrev Y4:=@List.length_filter_le
abbrev Y5:=@Nat.lt_irrefl
abbrev Y6:=@Ne.symm
abbrev Y7:=@Int.emod_nonneg
abbrev Y8:=@Nat.lt_succ_self
abbrev Y9:=@List.not_mem_nil
abbrev Z0:=@PySem.wpAny_Call_Name_kw
abbrev Z1:=@List.any_cons
abbrev Z2:=@List.all_cons
abbrev Z3:=@List.getElem?_append_right
abbrev Z4:=@List.filterMap_cons
abbrev Z5:=@List.length_nil
abbrev Z6:=@List.length_set
abbrev Z7:=@congrArg
abbrev Z8:=@PySem.wpAny_setField
abbrev Z9:=@List.mem_filterMap
abbrev A0a:=@PySem.Obj.isFreed_of_fields
abbrev A0b:=@List.reverse_cons
abbrev A0c:=@List.getElem?_cons_succ
abbrev A0d:=@List.flatMap_cons
abbrev A0e:=@List.mem_filter
abbrev A0f:=@beq_iff_eq
abbrev A0g:=@if_true
abbrev A0h:=@PySem.wpAny_truthy_bool
abbrev A0i:=@PySem.codeAny_builtin
abbrev A0j:=@Array.getElem?_eq_some_iff
abbrev A0k:=@PySem.Heap.get?_update_ne
abbrev A0l:=@Bool.false_eq_true
abbrev A0m:=@List.getElem?_toArray
abbrev A0n:=@List.getElem?_eq_none
abbrev A0o:=@List.nodup_cons
abbrev A0p:=@Nat.lt_trans
abbrev A0q:=@Bool.or_eq_true_iff
abbrev A0r:=@List.length_take
abbrev A0s:=@List.drop_length
abbrev A0t:=@List.getElem?_cons_zero
abbrev A0u:=@Bool.false_and
abbrev A0v:=@PySem.wpAny_rule
abbrev A0w:=@Option.map_eq_some_iff
abbrev A0x:=@Array.getElem?_eq_none
abbrev A0y:=@Bool.eq_iff_iff
abbrev A0z:=@PySem.wpAny_seqItems
abbrev A1a:=@PySem.wpAny_isInstance
abbrev A1b:=@PySem.W.mg_of
abbrev A1c:=@PyProof.Rows.boot_tuple
abbrev A1d:=@PySem.codeAny_mono
abbrev A1e:=@PySem.wpAny_typeOf
abbrev A1f:=@PySem.SeqAt.canLay_of_shaped
abbrev A1g:=@PySem.wpAny_pyIter_tuple
abbrev A1h:=@PySem.wpAny_passesOwn
abbrev A1i:=@Nat.le_succ
abbrev A1j:=@PySem.wpAny_attempt
abbrev A1k:=@List.length_drop
abbrev A1l:=@Option.isSome_iff_exists
abbrev A1m:=@List.sum_cons
abbrev A1n:=@PySem.F.slot_tuple_iterator_next
abbrev A1o:=@List.nil_append
abbrev A1p:=@PyProof.Rows.get?_update_seq
abbrev A1q:=@Option.bind_eq_some_iff
abbrev A1r:=@Nat.le_of_lt
abbrev A1s:=@PySem.plainId_quiet
abbrev A1t:=@List.ext_getElem?
abbrev A1u:=@Nat.sub_self
abbrev A1v:=@PySem.wpAny_loadPart'
abbrev A1w:=@PySem.Calls.spliced_cons
abbrev A1x:=@PySem.F.slot_zip_next
abbrev A1y:=@PyProof.Rows.callWith_builtin1
abbrev A1z:=@PySem.Calls.spliced_nil
abbrev A2a:=@List.eq_nil_of_length_eq_zero
abbrev A2b:=@PySem.Obj.cls_mapFields
abbrev A2c:=@PySem.Heap.SameBut.refl
abbrev A2d:=@PySem.wpAny_setState_of
abbrev A2e:=@or_false
abbrev A2f:=@PySem.boot_len
abbrev A2g:=@List.of_mem_zip
abbrev A2h:=@Bool.or_eq_true
abbrev A2i:=@List.getElem?_range
abbrev A2j:=@List.mem_map_of_mem
abbrev A2k:=@List.length_flatMap
abbrev A2l:=@PySem.wpAny_typeNameOfWhole_itemiter
abbrev A2m:=@PySem.wpAny_askSetting
abbrev A2n:=@List.all_map
abbrev A2o:=@PySem.Paired.length
abbrev A2p:=@if_false
abbrev A2q:=@List.nodup_nil
abbrev A2r:=@PySem.wpAny_of_eq
abbrev A2s:=@Array.getElem?_eq_none_iff
abbrev A2t:=@PySem.wpAny_typeNameOfWhole_keyiter
abbrev A2u:=@Option.isSome_none
abbrev A2v:=@PySem.wpAny_execs_nil
abbrev A2w:=@PySem.codeAny_loop
namespace L2
variable{H:Hp}{s:Ub}{A:Uf}{σ:St}{K:Fg}{pos:Pos}
open PySem PySem.Spec PyProof.Rows
abbrev Key:=Sum Int Str
noncomputable def GE:Key->Tz->Bool
 |.inl k,v=>Value.isInt k v
 |.inr x,v=>Value.isStrOf x v
noncomputable def aRb(w:World):Key->Int
 |.inl k=>hashInt k
 |.inr x=>hashStr w x
def dG:∀{k:Key}{v:Tz},GE k v=true->(∃i t,k=Sum.inl i/\v=Value.int i t)\/(∃x t,k=Sum.inr x/\v=Value.str x t)
 |.inl i,v=>λh=>by
  let⟨t,e⟩:=Value.isInt_shape h;exact .inl ⟨i,t,rfl,e⟩
 |.inr x,v=>λh=>by
  let⟨t,e⟩:=Value.isStrOf_shape h;exact .inr ⟨x,t,rfl,e⟩
def aAK(i:Int)(t:Tok):GE (.inl i) (.int i t)=true:=by simp[GE,Value.isInt]
def aBF(x:Str)(t:Tok):GE (.inr x) (.str x t)=true:=by simp[GE,Value.isStrOf]
def aNw(a b:Int):decide ((Sum.inl a:Key)=Sum.inl b)=(a==b):=68
def aNF(a b:Str):decide ((Sum.inr a:Key)=Sum.inr b)=decide (a=b):=68
def aLl(a:Int)(b:Str):decide ((Sum.inl a:Key)=Sum.inr b)=false:=D0 λq=>nomatch q
def aLv(a:Str)(b:Int):decide ((Sum.inr a:Key)=Sum.inl b)=false:=D0 λq=>nomatch q
def dX(prog:Ue)(w:World):PySem.KeyKind prog w Key where
 is:=GE
 hash:=aRb w
 inj:=λv a b ha hb=>by
  obtain⟨i,t,rfl,rfl⟩|⟨x,t,rfl,rfl⟩:=dG ha
  .obtain⟨j,u,rfl,e⟩|⟨y,u,rfl,e⟩:=dG hb
   .injection e with e1 _;rw[e1]
   .exact nomatch e
  .obtain⟨j,u,rfl,e⟩|⟨y,u,rfl,e⟩:=dG hb
   .exact nomatch e
   .injection e with e1 _;rw[e1]
 byValue:=λk v h=>by
  obtain⟨i,t,rfl,rfl⟩|⟨x,t,rfl,rfl⟩:=dG h<;>rfl
 pyHash:=λhv h=>by
  obtain⟨i,t,rfl,rfl⟩|⟨x,t,rfl,rfl⟩:=dG hv
  .exact wpAny_pyHash_int h
  .exact wpAny_pyHash_str h
 eqBool:=λhu hv h=>by
  obtain⟨i,t,rfl,rfl⟩|⟨x,t,rfl,rfl⟩:=dG hu
  .obtain⟨j,u,rfl,rfl⟩|⟨y,u,rfl,rfl⟩:=dG hv
   .rw[aNw]at h;exact wpAny_eqBool_int h
   .rw[aLl]at h;exact SeqAt.EqAt.int_str i t y u _ _ _ _ h
  .obtain⟨j,u,rfl,rfl⟩|⟨y,u,rfl,rfl⟩:=dG hv
   .rw[aLv]at h;exact SeqAt.EqAt.str_int x t j u _ _ _ _ h
   .rw[aNF]at h;exact wpAny_eqBool_str h
 «strs»:=λk x t v h=>by
  obtain⟨i,u,rfl,e⟩|⟨y,u,rfl,e⟩:=dG h
  .exact nomatch e
  .injection e with e1 _
   subst e1;cases v<;>rfl
def OK(prog:Ue)(w:World)(i:Int)(t:Tok):(dX prog w).is (.inl i) (.int i t)=true:=aAK i t
def PX(prog:Ue)(w:World)(x:Str)(t:Tok):(dX prog w).is (.inr x) (.str x t)=true:=aBF x t
inductive V where
 |non|bl (b:Bool)|int (i:Int)|str (x:Str)|byt (b:Array UInt8)|flt (b:UInt64)|ref (a:Uc)|ty (n:String)
 deriving DecidableEq
abbrev Td:=Tv V
def RelV:V->Tz->Prop
 |.non,u=>u=Value.none
 |.bl b,u=>u=Value.bool b
 |.int i,u=>∃t,u=Value.int i t
 |.str x,u=>∃t,u=Value.str x t
 |.byt b,u=>∃t,u=Value.bytes b t
 |.flt b,u=>∃t,u=Value.float b t
 |.ref a,u=>u=Value.ref a
 |.ty n,u=>u=Value.type n
abbrev bE:Td->T4->Prop:=Paired RelV
def bE.length(r:bE xs us):xs.length=us.length:=A2o r
theorem bE.get:∀{xs:Td}{us:T4}{i:Nat}{x:V},bE xs us->xs[i]?=Z x->∃u,us[i]?=Z u/\RelV x u
 |_,_,_,_,.nil=>λe=>by simp at e
 |_,_,0,_,.cons r _=>λe=>by simp at e;subst e;exact⟨_,rfl,r⟩
 |_,_,i+1,x,.cons _ t=>λe=>by
  let⟨u,a,b⟩:=bE.get t (by simpa using e);exact⟨u,by simpa using a,b⟩
theorem bE.set(r:RelV x u):∀{xs:Td}{us:T4}(i:Nat),bE xs us->bE (xs.set i x) (us.set i u)
 |_,_,_,.nil=>.nil
 |_,_,0,.cons _ t=>.cons r t
 |_,_,i+1,.cons q t=>.cons q (bE.set r i t)
theorem bE.append:∀{xs ys:Td}{us ws:T4},bE xs us->bE ys ws->bE (xs++ys) (us++ws)
 |_,_,_,_,.nil=>λs=>s
 |_,_,_,_,.cons r t=>λs=>.cons r (bE.append t s)
theorem bE.take:∀{xs:Td}{us:T4}(n:Nat),bE xs us->bE (xs.take n) (us.take n)
 |_,_,0,_=>.nil
 |_,_,_+1,.nil=>.nil
 |_,_,n+1,.cons r t=>.cons r (bE.take n t)
theorem bE.drop:∀{xs:Td}{us:T4}(n:Nat),bE xs us->bE (xs.drop n) (us.drop n)
 |_,_,0,r=>r
 |_,_,_+1,.nil=>.nil
 |_,_,n+1,.cons _ t=>bE.drop n t
def BA:Tx V->Tf->Prop
 |some v,some u=>RelV v u
 |none,none=>True
 |_,_=>False
def KV{a:Type}:Tv (a×V)->Tv (a×Tz)->Prop:=Paired λ(p:a×V)(q:a×Tz)=>p.1=q.1/\RelV p.2 q.2
noncomputable def kV:Key->V
 |.inl i=>.int i
 |.inr x=>.str x
inductive HO where
 |lst (xs:Td)
 |tup (xs:Td)
 |dK (kvs:Tv (Key×V))|dT (kvs:Tv (Tv Key×V))
 |set (S:Int->Bool) (n:Nat)
 |ins (C dx:Uc) (fs:Tv (Str×V))
 |own (x:Uc)
 |xd (fs:Tv (Str×V))
 |met (f x:Uc)
 |rng (lo hi:Int)
 |frz (o:Obj) (u:HO)
 |tbl (ps:Ti)
 |ext (φ:Heap->Prop)
abbrev Hp:=Uc->Tx HO
def upd(H:Hp)(a:Uc)(o:HO):Hp:=λb=>if b=a then Z o else H b
def aS:upd H a o a=Z o:=by unfold upd;rw[A8 rfl]
def aO{a b:Uc}(h:b≠a):upd H a o b=H b:=by unfold upd;rw[B7 h]
def aJo{o u:HO}(h:H a=Z o)(h':H b=Z u)(d:o≠u):a≠b:=68
def aX{o:HO}(h:H a=Z o)(h':H b=Y):a≠b:=by
 intro e;subst e;rw[h]at h';cases h'
section
variable(P:Ue)(w:World)
def fA(H:Hp)(h:Heap)(a:Uc):HO->Prop
 |.lst xs=>xs.length<=bv/\∃(its:T4)(n:Nat),bE xs its/\h.get? a=Z { cls:=.type "list",data:=.seq its.toArray n }
 |.tup xs=>xs.length<=bv/\∃its:T4,bE xs its/\IsTup h a its.toArray
 |.dK kvs=>kvs.length<=bv/\(a==sysModules)=false/\∃vs,KV kvs vs/\h.DictOf (dX P w) a vs
 |.dT kvs=>kvs.length<=bv/\(a==sysModules)=false/\∃xs:Tv (Tv Key×Uc×Tz),
  Paired (λ(p:Tv Key×V)(q:Tv Key×Uc×Tz)=>p.1=q.1/\H q.2.1=Z (.tup (p.1.map kV))/\RelV p.2 q.2.2) kvs xs /\
  ∃o es ep,h.get? a=Z o/\o.ExactDict/\o.data=.dict es ep/\es.toList=xs.map (entryOfKey<|tupleKind<|dX P w)/\(xs.map (·.1)).Nodup
 |.set S n=>h.SetOf (intKind P w) a S n
 |.ins C dx fs=>H dx=Z (.own a)/\fs.length<=1000/\dx≠a/\h.get? a=Z (W.instObj C dx) /\
  ∃mA,h.Ns1 dx mA/\(∀f,BA (fs.lookup f)<|mA f)/\PySem.Within mA (fs.map (·.1))
 |.own _=>∃o,h.get? a=Z o
 |.xd fs=>∃mA,h.Ns1 a mA/\∀f,BA (fs.lookup f)<|mA f
 |.rng lo hi=>∃t u v,h.get? a=Z { cls:=.type "range",data:=.fields #[.int lo t,.int hi u,.int 1 v] }
 |.frz o u=>h.get? a=Z o/\fA H h a u
 |.tbl ps=>h.get? a=Z { cls:=.none,data:=.fields ps }
 |.met f x=>h.get? a=Z (W.methodObj (.ref f) (.ref x))
 |.ext b=>b h/\(∃o,h.get? a=Z o)/\∀c d:Heap,b c->(∀o,c.get? a=Z o->d.get? a=Z o)->b d
def HOk(H:Hp)(h:Heap):Prop:=∀a o,H a=Z o->fA P w H h a o
end
section
variable{P:Ue}{w:World}{H H':Hp}{h h':Heap}{a:Uc}{o:HO}
def fA.lt(x:fA P w H h a o):a<h.objs.size:=by
 cases o with
 |lst xs=>let⟨_,_,_,_,e⟩:=x;exact B2 e
 |tup xs=>let⟨_,_,_,p⟩:=x;exact p.lt
 |dK kvs=>let⟨_,_,_,_,o,_,_,e,_⟩:=x;exact B2 e
 |dT kvs=>let⟨_,_,_,_,o,_,_,e,_⟩:=x;exact B2 e
 |set S n=>let⟨o,_,_,_,e,_⟩:=x;exact B2 e
 |ins C dx fs=>let⟨_,_,_,e,_⟩:=x;exact B2 e
 |own y=>let⟨_,e⟩:=x;exact B2 e
 |xd fs=>let⟨_,⟨_,_,_,e,_⟩,_⟩:=x;exact B2 e
 |rng lo hi=>let⟨_,_,_,e⟩:=x;exact B2 e
 |frz ob u=>let⟨e,_⟩:=x;exact B2 e
 |tbl ps=>exact B2 x
 |met f y=>exact B2 x
 |ext b=>let⟨_,⟨_,e⟩,_⟩:=x;exact B2 e
theorem Paired.mapP{c d:Type}{F G:c->d->Prop}:∀{l₁:Tv c}{l₂:Tv d},Paired F l₁ l₂->(∀a b,F a b->G a b)->Paired G l₁ l₂
 |_,_,.nil=>λ_=>.nil
 |_,_,.cons r t=>λf=>.cons (f _ _ r) (Paired.mapP t f)
def fA.stay(x:fA P w H h a o)(k:∀b u,(b=a\/H b=Z (.own a))->h.get? b=Z u->h'.get? b=Z u)
 (g:∀b,H b=Z (.own a)->H' b=Z (.own a)) (ht:∀b xs,H b=Z (.tup xs)->H' b=Z (.tup xs)):fA P w H' h' a o:=by
 induction o with
 |lst xs=>let⟨z,its,n,r,e⟩:=x;exact⟨z,its,n,r,k _ _ (.inl rfl) e⟩
 |tup xs=>let⟨z,its,r,ob,e,c⟩:=x;exact⟨z,its,r,ob,k _ _ (.inl rfl) e,c⟩
 |dK kvs=>let⟨z,y,vs,r,ob,es,ep,e,c⟩:=x;exact⟨z,y,vs,r,ob,es,ep,k _ _ (.inl rfl) e,c⟩
 |dT kvs=>
  let⟨z,y,xs,r,ob,es,ep,e,c⟩:=x;exact⟨z,y,xs,Paired.mapP r λp q z=>⟨z.1,ht _ _ z.2.1,z.2.2⟩,ob,es,ep,k _ _ (.inl rfl) e,c⟩
 |set S n=>let⟨ob,es,ep,t,e,c⟩:=x;exact⟨ob,es,ep,t,k _ _ (.inl rfl) e,c⟩
 |ins C dx fs=>
  let⟨d,z,ne,e,mA,⟨od,es,ep,i,c⟩,r⟩:=x;exact⟨g _ d,z,ne,k _ _ (.inl rfl) e,mA,⟨od,es,ep,k _ _ (.inr d) i,c⟩,r⟩
 |own y=>let⟨ob,e⟩:=x;exact⟨ob,k _ _ (.inl rfl) e⟩
 |xd fs=>let⟨mA,⟨od,es,ep,e,c⟩,r⟩:=x;exact⟨mA,⟨od,es,ep,k _ _ (.inl rfl) e,c⟩,r⟩
 |rng lo hi=>let⟨t,u,v,e⟩:=x;exact⟨t,u,v,k _ _ (.inl rfl) e⟩
 |frz ob u ih=>let⟨e,q⟩:=x;exact⟨k _ _ (.inl rfl) e,ih q⟩
 |tbl ps=>
  have e:=x;exact k a _ (.inl rfl) e
 |met f y=>
  have e:=x;exact k a _ (.inl rfl) e
 |ext j=>let⟨p,⟨o,e⟩,st⟩:=x;exact⟨st _ _ p λo q=>k _ _ (.inl rfl) q,⟨o,k _ _ (.inl rfl) e⟩,st⟩
def HOk.lt(x:HOk P w H h)(e:H a=Z o):a<h.objs.size:=(x a o e).lt
def HOk.fresh(x:HOk P w H h)(e:h.objs.size<=a):H a=Y:=by
 cases q:H a with
 |none=>rfl
 |some u=>exact absurd (C9 (x.lt q) e)<|Y5 _
def HOk.kept(x:HOk P w H h)(k:∀b u,h.get? b=Z u->h'.get? b=Z u):HOk P w H h':=λa o e=>
 (x a o e).stay (λb u _ q=>k b u q) (λ_ q=>q) λ_ _ q=>q
def HOk.laid(x:HOk P w H h)(k:∀b u,h.get? b=Z u->h'.get? b=Z u)(f:h.objs.size<=a)(new:fA P w (upd H a o) h' a o):HOk P w (upd H a o) h':=λb u e=>by
 have hn:=x.fresh f;by_cases d:b=a
 .subst d;rw[aS]at e;cases e;exact new
 .rw[aO d]at e;exact(x b u e).stay (λc v _ q=>k c v q) (λc q=>by rw[aO (aX q hn)];exact q) λc xs q=>by rw[aO (aX q hn)];exact q
end
def Rd(H:Hp)(a:Uc)(u:HO):Prop:=H a=Z u\/∃o,H a=Z (.frz o u)
def Rd.ok{P:Ue}(r:Rd H a u)(x:HOk P w H h):fA P w H h a u:=by
 obtain r|⟨o,r⟩:=r
 .exact x a u r
 .let⟨_,q⟩:=x a _ r;exact q
def Mut:Tx HO->Prop
 |some (.lst _)=>True
 |some (.dK _)=>True
 |some (.dT _)=>True
 |some (.set _ _)=>True
 |some (.ins _ _ _)=>True
 |some (.ext _)=>True
 |_=>False
section
variable{P:Ue}{w:World}{H:Hp}{h h':Heap}{x e:Uc}{o':HO}
def HOk.write(ok:HOk P w H h)(g:Mut (H x))(l:e=x\/H e=Z (.own x))(k:∀b u,b≠e->h.get? b=Z u->h'.get? b=Z u)(j:∃u,h'.get? e=Z u)
 (new:fA P w (upd H x o') h' x o'):HOk P w (upd H x o') h':=λb u q=>by
 have d:∀c y,H c=Z (.own y)->c≠x:=λc y r z=>by subst z;rw[r]at g;exact g
 have f:∀c xs,H c=Z (.tup xs)->c≠x:=λc xs r z=>by subst z;rw[r]at g;exact g
 by_cases i:b=x
 .subst i;rw[aS]at q;cases q;exact new
 .rw[aO i]at q;by_cases a:b=e
  .have m:H b=Z (.own x):=by
    obtain z|z:=l
    .exact absurd (a.trans z) i
    .rw[a];exact z
   rw[q]at m;cases m;let⟨v,n⟩:=j;exact⟨v,by rw[a];exact n⟩
  .refine(ok b u q).stay (λc v hc r=>k c v ?_ r) (λc r=>by rw[aO (d c b r)];exact r) λc xs r=>by rw[aO (f c xs r)];exact r
   obtain rfl|hc:=hc
   .exact a
   .rintro rfl;obtain z|z:=l
    .exact d c b hc z
    .rw[hc]at z;cases z;exact i rfl
end
structure Un(fs ex:Tb)(H H':Hp)(h h':Heap):Prop where
 keep:∀b o,h.get? b=Z o->H b=Y->b∉fs->b∉ex->h'.get? b=Z o
 slot:∀b o,h.get? b=Z o->H b=Y->b∈fs->b∉ex->∃sl,h'.get? b=Z { o with slots:=sl }
 free:∀b o,h.get? b=Z o->H b=Y->b∉ex->H' b=Y
 there:∀b o,h.get? b=Z o->b∉ex->∃o',h'.get? b=Z o'
 tups:∀b xs,H b=Z (.tup xs)->H' b=Z (.tup xs)
 frzs:∀b o u,H b=Z (.frz o u)->H' b=Z (.frz o u)
 tbls:∀b ps,H b=Z (.tbl ps)->∃more,H' b=Z (.tbl (ps++more))
section
variable{fs fs' ex ex':Tb}{H H1 H2:Hp}{h h1 h2 h':Heap}{a x e:Uc}{o:HO}
def Un.any(u:Un fs ex H H1 h h1){b:Uc}{ob:Obj}(q:h.get? b=Z ob)(n:H b=Y)(c:b∉ex):∃sl,h1.get? b=Z { ob with slots:=sl }:=by
 by_cases d:b∈fs
 .exact u.slot b ob q n d c
 .exact⟨ob.slots,u.keep b ob q n d c⟩
def Un.kept(k:∀b u,h.get? b=Z u->h'.get? b=Z u):Un fs ex H H h h':=
 ⟨λb ob q _ _ _=>k b ob q,λb ob q _ _ _=>⟨ob.slots,k b ob q⟩,λ_ _ _ n _=>n,λb ob q _=>⟨ob,k b ob q⟩,λ_ _ q=>q,λ_ _ _ q=>q,λ_ ps q=>⟨#[],by rw[q];simp⟩⟩
def Un.refl:Un fs ex H H h h:=Un.kept λ_ _ q=>q
def Un.laid(k:∀b u,h.get? b=Z u->h'.get? b=Z u)(hp:h.objs.size<=a)(hn:H a=Y):Un fs ex H (upd H a o) h h' where
 keep:=λb u q _ _ _=>k b u q
 slot:=λb u q _ _ _=>⟨u.slots,k b u q⟩
 free:=λb u q n _=>by rw[aO (C2<|C9 (B2 q) hp)];exact n
 there:=λb u q _=>⟨u,k b u q⟩
 tups:=λb xs q=>by rw[aO (aX q hn)];exact q
 frzs:=λb u xs q=>by rw[aO (aX q hn)];exact q
 tbls:=λb ps q=>⟨#[],by rw[aO (aX q hn),q];simp⟩
def Un.write(d:Mut (H x))(j:e=x\/H e=Z (.own x))(k:∀b u,b≠e->h.get? b=Z u->h'.get? b=Z u)(f:∃u,h'.get? e=Z u):Un fs ex H (upd H x o) h h':=by
 have g:∀b,H b=Y->b≠x:=λb n z=>by subst z;rw[n]at d;exact d
 have i:∀b,H b=Y->b≠e:=λb n z=>by
  subst z;obtain r|r:=j
  .exact g b n r
  .rw[n]at r;cases r
 have hm:∀b u,H b=Z u->¬Mut (Z u)->b≠x:=λb u q nm z=>by subst z;rw[q]at d;exact nm d
 refine⟨λb u q n _ _=>k b u (i b n) q,λb u q n _ _=>⟨u.slots,k b u (i b n) q⟩,λb u q n _=>by rw[aO (g b n)];exact n,λb u q _=>?_,
  λb xs q=>by rw[aO (hm b _ q λz=>z)];exact q,λb u xs q=>by rw[aO (hm b _ q λz=>z)];exact q,λb ps q=>⟨#[],by rw[aO (hm b _ q λz=>z),q];simp⟩⟩
 by_cases c:b=e
 .subst c;exact f
 .exact⟨u,k b u c q⟩
end
noncomputable def trk(h:Heap)(H:Hp):Tb:=(List.range h.objs.size).filter λa=>(H a).isSome
def QM(h:Heap)(H:Hp):Heap:=W.hideAll h<|trk h H
def aAv(h:Heap)(H:Hp):(QM h H).objs.size=h.objs.size:=W.hideAll_size _ _
def aDQ{h:Heap}{b:Uc}{o:Obj}(e:h.get? b=Z o)(n:H b=Y):(QM h H).get? b=Z o:=
 W.hideAll_get _ e λhm=>by
  have q:=(A0e.mp hm).2;rw[n]at q;simp at q
def aJd{b:Uc}{o:Obj}(e:(QM h H).get? b=Z o):h.get? b=Z o/\H b=Y:=by
 have a:=W.of_hideAll (trk h H) e;refine⟨a,?_⟩;cases q:H b with
 |none=>rfl
 |some x=>
  have hm:b∈trk h H:=A0e.mpr ⟨E4.mpr<|B2 a,by simp[q]⟩;have z:(QM h H).get? b=Y:=W.hideAll_none (trk h H) hm;rw[z]at e;cases e
def qS(g h:Heap)(L:Uc):T1:=(List.range h.objs.size).filterMap λa=>if a=L\/(g.get? a).isSome=true then Y else(h.get? a).map λo=>(a,o)
def nN{g h:Heap}{L a:Uc}{o:Obj}(c:a≠L)(d:g.get? a=Y)(b:h.get? a=Z o):(a,o)∈qS g h L:=
 Z9.mpr ⟨a,E4.mpr<|B2 b,by simp[c,d,b]⟩
def EG{p:Uc×Obj}(a:p∈qS g h L):p.1≠L/\g.get? p.1=Y/\h.get? p.1=Z p.2:=by
 let⟨b,_,e⟩:=Z9.mp a;split at e
 .cases e
 .rename_i hn;cases q:h.get? b with
  |none=>rw[q]at e;simp at e
  |some u=>
   rw[q]at e;simp only[Option.map_some,Option.some.injEq]at e;subst e;refine⟨λz=>hn (.inl z),?_,q⟩;cases r:g.get? b with
   |none=>rfl
   |some v=>exact(hn (.inr (by simp[r]))).elim
def rest(g h:Heap)(L d:Uc):T1:=(qS g h L).filter λp=>decide (p.1≠d)
def RB:News g L h (qS g h L):=λp d=>let⟨a,b,c⟩:=EG d;⟨c,a,b⟩
structure Mod(K:Fg)(mg:Str->Tf)(base:Heap):Prop where
 kin:K.In base
 glob:base.Ns ce mg
 blt:∃mb,base.Ns builtinsNs mb/\∀x:Str,x≠"__name__"->mb x=bootBuiltins x
 nolimit:base.NoLimit
 sysm:∃o es ep,base.get? sysModules=Z o/\o.data=.dict es ep
 bmn:∃bm ob,mg "__builtins__"=Z (.ref bm)/\bm≠builtinsNs/\base.get? bm=Z ob/\ob.cls=.type "module"/\ob.dict=Z builtinsNs/\ob.data=.plain
structure Cx where
 prog:Ue
 w:World
 K:Fg
 mg:Str->Tf
 base:Heap
 A:Uf
 N:Tc
 s₀:Ub
 H₀:Hp
 env:Env
 outer:Tv Env
 stack:Tv Env
 ex:Tb
 fn:Str->Bool
 calm:Bool
 pn:T1
 xe:T0
noncomputable def frs(l:Tv Env):Tb:=l.filterMap (·.frame)
abbrev Cx.fs(X:Cx):List Addr:=frs X.outer
def Vis(sc:Scope)(x:Str):Prop:=sc.names.lookup x=Z .local\/sc.names.lookup x=Z .cell\/sc.names.lookup x=Z .free
def Loc(sc:Scope)(x:Str):Prop:=sc.names.lookup x=Z .local\/sc.names.lookup x=Z .cell
def Look(env:Env)(h:Heap)(m:Str->Tf)(x:Str)(u:Tz):Prop:=
 (env.kindOf x=Z .local/\m x=Z u)\/((env.kindOf x=Z .cell\/env.kindOf x=Z .free)/\∃c,env.cells.lookup x=Z c/\h.IsCell c (Z u))
structure Cx.Ok(X:Cx):Prop where
 mod:Mod X.K X.mg X.base
 kind:X.env.scope.kind=.function
 glob:X.env.globals=ce
 blt:X.env.builtins=builtinsNs
 above:X.s₀.heap.objs.size<=X.env.locals
 inj:∀x y c,X.env.cells.lookup x=Z c->X.env.cells.lookup y=Z c->x=y
 has:∀x,(X.env.kindOf x=Z .cell\/X.env.kindOf x=Z .free)->∃c,X.env.cells.lookup x=Z c
 cab:∀x c,X.fn x=true->X.env.cells.lookup x=Z c->X.s₀.heap.objs.size<=c
 hd:X.calm=true->X.A.handled=Y
 frames:X.A.frames=Z X.stack
 stk:X.stack=X.outer\/(X.stack=X.env::X.outer/\X.env.frame=Z X.env.locals)
 exf:∀b∈X.ex,b≠X.env.locals/\∀x c,X.env.cells.lookup x=Z c->c≠b
 bs:∀b o,X.base.get? b=Z o->X.s₀.heap.get? b=Z o/\X.H₀ b=Y
 bsz:X.base.objs.size<=X.s₀.heap.objs.size
 noex:∀b o,X.base.get? b=Z o->b∉X.ex
 exfs:∀b∈X.ex,b∉X.fs
 funs:X.s₀.heap.FunFrames X.base X.outer
 frf:∀b∈X.fs,X.H₀ b=Y
structure Inv(X:Cx)(cp:T1)(σ:Tv (Tx V))(H:Hp)(s:Ub):Prop where
 ok:X.Ok
 os:s.os=X.s₀.os
 bare:AllBare s.gens
 base:Un X.fs X.ex X.H₀ H X.s₀.heap s.heap
 loc:∃m,s.heap.Ns X.env.locals m/\∀(i:Nat)(x:Str)(v:V),X.N[i]?=Z x->σ[i]?=Z (Z v)->Vis X.env.scope x->∃u,RelV v u/\Look X.env s.heap m x u
 cell:∀x c,X.env.cells.lookup x=Z c->∃v,s.heap.IsCell c v
 free:H X.env.locals=Y
 freeC:∀x c,X.env.cells.lookup x=Z c->H c=Y
 pin:∀p∈X.pn++cp,s.heap.get? p.1=Z p.2/\H p.1=Y/\p.1≠X.env.locals/\p.1∉X.fs/\∀v,p.2.data≠.cell v
 hok:HOk X.prog X.w H s.heap
 len:σ.length=X.N.length
section
variable{X:Cx}{cp:T1}{σ:Tv (Tx V)}{H H':Hp}{s:Ub}{h':Heap}
def Cx.Ok.nofr(ok:X.Ok){b:Uc}{o:Obj}(e:X.base.get? b=Z o):b∉X.fs:=λa=>by
 have:=(ok.funs.mem a).1;rw[e]at this;cases this
def Inv.bs(I:Inv X cp σ H s):∀b o,X.base.get? b=Z o->s.heap.get? b=Z o/\H b=Y:=λb o e=>
 ⟨I.base.keep b o (I.ok.bs b o e).1 (I.ok.bs b o e).2 (I.ok.nofr e) (I.ok.noex b o e),I.base.free b o (I.ok.bs b o e).1 (I.ok.bs b o e).2 (I.ok.noex b o e)⟩
def Inv.bk(I:Inv X cp σ H s):∀b o,X.base.get? b=Z o->s.heap.get? b=Z o:=λb o e=>(I.bs b o e).1
def Inv.mod(I:Inv X cp σ H s):Mod X.K X.mg X.base:=I.ok.mod
def Inv.kIn(I:Inv X cp σ H s):X.K.In s.heap:=I.ok.mod.kin.keeps I.bk
def Inv.fr(I:Inv X cp σ H s):∃m,Fr X.base X.env.locals s.heap m:=
 let⟨m,hn,_⟩:=I.loc
 ⟨m,hn,I.bk,C5 I.ok.bsz I.ok.above⟩
def Inv.lt(I:Inv X cp σ H s):X.env.locals<s.heap.objs.size:=let⟨_,hn,_⟩:=I.loc;hn.lt
def Inv.sz(I:Inv X cp σ H s):X.s₀.heap.objs.size<=s.heap.objs.size:=C5 I.ok.above<|A1r I.lt
def Inv.nofs(I:Inv X cp σ H s){a:Uc}(h:s.heap.objs.size<=a):a∉X.fs:=λb=>by
 let⟨_,o,c,_⟩:=I.ok.funs.mem b;exact absurd (C9 (B2 c)<|C5 I.sz h)<|Y5 _
def Inv.cne(I:Inv X cp σ H s):∀x c,X.env.cells.lookup x=Z c->c≠X.env.locals:=λx c e z=>by
 let⟨v,o,d,hd⟩:=I.cell x c e;let⟨m,⟨o',es,ep,a,b,_⟩,_⟩:=I.loc;rw[z,a]at d;cases d;rw[b]at hd;cases hd
def Inv.funs(I:Inv X cp σ H s):s.heap.FunFrames X.base X.outer:=by
 have all:∀(l:Tv Env),(∀b∈frs l,b∈X.fs)->X.s₀.heap.FunFrames X.base l->s.heap.FunFrames X.base l:=by
  intro l
  induction l with
  |nil=>intro _ _;trivial
  |cons env r ih=>
   intro hs f;let⟨g,⟨L,o,a,hn,h,hd⟩,i⟩:=f;have c:=hs L (by unfold frs;rw[Z4,a];exact B0);let⟨sl,e⟩:=I.base.slot L o h (I.ok.frf L c) c λz=>I.ok.exfs L z c;exact⟨g,⟨L,_,a,hn,e,hd⟩,ih (λb d=>hs b (by unfold frs;rw[Z4,a];exact A7 _ d)) i⟩
 exact all X.outer (λ_ d=>d) I.ok.funs
def Inv.stack(I:Inv X cp σ H s):s.heap.FunFrames X.base X.stack:=by
 obtain e|⟨e,a⟩:=I.ok.stk
 .rw[e];exact I.funs
 .rw[e];let⟨m,hn,_⟩:=I.loc;refine .cons (by rw[I.ok.kind];decide) a hn ?_ I.funs;exact Heap.get?_none_of_le<|C5 I.ok.bsz I.ok.above
def Inv.stkSub(I:Inv X cp σ H s):∀b∈frs X.stack,b∈X.env.locals::X.fs:=λb a=>by
 obtain e|⟨e,c⟩:=I.ok.stk
 .rw[e]at a;exact A7 _ a
 .rw[e]at a;unfold frs at a;rw[Z4,c]at a;exact a
def Inv.stkFree(I:Inv X cp σ H s):∀b∈frs X.stack,H b=Y:=λb hb=>by
 obtain e|hb:=C1.mp (I.stkSub b hb)
 .rw[e];exact I.free
 .let⟨_,o,a,_⟩:=I.ok.funs.mem hb;exact I.base.free b o a (I.ok.frf b hb) λz=>I.ok.exfs b z hb
def Inv.step{t':Nat}{d':Drawn}{ch:Tb}(I:Inv X cp σ H s)
 (f:∀b∈ch,(b∈X.ex\/X.s₀.heap.objs.size<=b)/\b≠X.env.locals/\(∀x c,X.env.cells.lookup x=Z c->c≠b)/\∀p∈X.pn++cp,p.1≠b)
 (keep:∀b o,b≠X.env.locals->b∉X.fs->b∉ch->s.heap.get? b=Z o->H b=Y->h'.get? b=Z o)
 (slot:∀b o,b≠X.env.locals->b∈X.fs->b∉ch->s.heap.get? b=Z o->H b=Y->∃sl,h'.get? b=Z { o with slots:=sl }) (free:∀b o,b∉ch->s.heap.get? b=Z o->H b=Y->H' b=Y)
 (there:∀b o,b∉ch->s.heap.get? b=Z o->∃o',h'.get? b=Z o')
 (tups:∀b xs,H b=Z (.tup xs)->H' b=Z (.tup xs)) (frzs:∀b o u,H b=Z (.frz o u)->H' b=Z (.frz o u)) (tbls:∀b ps,H b=Z (.tbl ps)->∃more,H' b=Z (.tbl (ps++more)))
 (ns:∀m,s.heap.Ns X.env.locals m->h'.Ns X.env.locals m) (hok:HOk X.prog X.w H' h') (L:AllBare g'):
 Inv X cp σ H' { s with heap:=h',gens:=g',drawn:=d',toks:=t' }:=by
 have C:∀b o,X.s₀.heap.get? b=Z o->b≠X.env.locals:=λb o e=>C2<|C9 (B2 e) I.ok.above
 have j:∀b o,X.s₀.heap.get? b=Z o->b∉X.ex->b∉ch:=λb o e a y=>by
  obtain z|z:=(f b y).1
  .exact a z
  .exact absurd (C9 (B2 e) z)<|Y5 _
 have g:∀x c,X.env.cells.lookup x=Z c->∀v,s.heap.IsCell c v->h'.IsCell c v:=λx c e v ⟨o,B,hd⟩=>by
  have h:=λz=>(f c z).2.2.1 x c e rfl;by_cases F:c∈X.fs
  .let⟨sl,q⟩:=slot c o (I.cne x c e) F h B<|I.freeC x c e;exact⟨_,q,hd⟩
  .exact⟨o,keep c o (I.cne x c e) F h B<|I.freeC x c e,hd⟩
 refine⟨I.ok,I.os,L,⟨λb o e n y a=>?_,λb o e n y a=>?_,λb o e n a=>?_,λb o e a=>?_,λb xs e=>tups b xs<|I.base.tups b xs e,λb o xs e=>frzs b o xs<|I.base.frzs b o xs e,λb ps e=>?_⟩,?_,λx c e=>?_,?_,λx c e=>?_,λp G=>?_,hok,I.len⟩
 .exact keep b o (C b o e) y (j b o e a) (I.base.keep b o e n y a)<|I.base.free b o e n a
 .let⟨sl,t⟩:=I.base.slot b o e n y a;let⟨E,D⟩:=slot b _ (C b o e) y (j b o e a) t<|I.base.free b o e n a;exact⟨E,D⟩
 .let⟨o',t⟩:=I.base.there b o e a;exact free b o' (j b o e a) t<|I.base.free b o e n a
 .let⟨o',t⟩:=I.base.there b o e a;exact there b o' (j b o e a) t
 .let⟨M,t⟩:=I.base.tbls b ps e;let⟨N,D⟩:=tbls b _ t;exact⟨M++N,by rw[D,Array.append_assoc]⟩
 .let⟨m,hn,O⟩:=I.loc;refine⟨m,ns m hn,λi x v t D P=>?_⟩;let⟨u,r,l⟩:=O i x v t D P;refine⟨u,r,?_⟩;obtain l|⟨k,c,e,z⟩:=l
  .exact .inl l
  .exact .inr ⟨k,c,e,g x c e _ z⟩
 .let⟨v,z⟩:=I.cell x c e;exact⟨v,g x c e v z⟩
 .let⟨m,⟨o,_,_,B,_⟩,_⟩:=I.loc;exact free _ o (λz=>(f _ z).2.1 rfl) B I.free
 .let⟨v,o,B,hd⟩:=I.cell x c e;exact free c o (λz=>(f c z).2.2.1 x c e rfl) B<|I.freeC x c e
 .let⟨e,n,ne,J,d⟩:=I.pin p G;have h:=λz=>(f p.1 z).2.2.2 p G rfl;exact⟨keep p.1 p.2 ne J h e n,free p.1 p.2 h e n,ne,J,d⟩
def Inv.un{t':Nat}(I:Inv X cp σ H s)(u:Un X.fs [] H H' s.heap h')(hok:HOk X.prog X.w H' h'):Inv X cp σ H' { s with heap:=h',toks:=t' }:=by
 let⟨m,⟨o,es,ep,g,r⟩,_⟩:=id I.loc;let⟨sl,h⟩:=u.any g I.free 67
 exact I.step (ch:=[]) (λ_ z=>nomatch z) (λb o _ c _ e n=>u.keep b o e n c 67) (λb o _ c _ e n=>u.slot b o e n c 67) (λb o _ e n=>u.free b o e n 67) (λb o _ e=>u.there b o e 67) u.tups u.frzs u.tbls (λj hm=>by
  let⟨o',d,f,a,i⟩:=hm;rw[g]at a;cases a;exact⟨_,d,f,h,i⟩) hok I.bare
def Inv.call{t':Nat}{d':Drawn}(I:Inv X cp σ H s)(u:Un (frs X.stack) ch H H' s.heap h')(hok:HOk X.prog X.w H' h')(k:AllBare g')
 (d:∀b∈ch,(b∈X.ex\/X.s₀.heap.objs.size<=b)/\b≠X.env.locals/\(∀x c,X.env.cells.lookup x=Z c->c≠b)/\∀p∈X.pn++cp,p.1≠b):
 Inv X cp σ H' { s with heap:=h',gens:=g',drawn:=d',toks:=t' }:=by
 let⟨m,⟨o,es,ep,j,r⟩,_⟩:=id I.loc;let⟨sl,g⟩:=u.any j I.free λz=>(d _ z).2.1 rfl
 exact I.step d (λb o g l a e n=>u.keep b o e n (λz=>(C1.mp<|I.stkSub b z).elim g l) a) (λb o _ _ a e n=>u.any e n a) (λb o a e n=>u.free b o e n a) (λb o a e=>u.there b o e a) u.tups u.frzs u.tbls (λt hm=>by
  let⟨o',h,i,f,q⟩:=hm;rw[j]at f;cases f;exact⟨_,h,i,g,q⟩) hok k
def Inv.turned{t':Nat}{it:Uc}(I:Inv X cp σ H s)(k:∀b o,b≠it->s.heap.get? b=Z o->h'.get? b=Z o)(hn:H it=Y)(f:it≠X.env.locals)
 (g:it∈X.ex\/X.s₀.heap.objs.size<=it) (h:∀x c,X.env.cells.lookup x=Z c->c≠it) (i:∀p∈X.pn++cp,p.1≠it):Inv X cp σ H { s with heap:=h',toks:=t' }:=by
 have d:∀b u,H b=Z u->b≠it:=λb u e z=>by rw[z,hn]at e;cases e
 refine I.step (ch:=[it]) (λb l=>?_) (λb o _ _ a e _=>k b o (λz=>a (by simp[z])) e) (λb o _ _ a e _=>⟨o.slots,k b o (λz=>a (by simp[z])) e⟩) (λ_ _ _ _ n=>n)
  (λb o a e=>⟨o,k b o (λz=>a (by simp[z])) e⟩) (λ_ _ e=>e) (λ_ _ _ e=>e) (λb ps e=>⟨#[],by rw[e];simp⟩) (λm hm=>?_) (λb u e=>?_) I.bare
 .have e:b=it:=68
  subst e;exact⟨g,f,h,i⟩
 .let⟨o,es,ep,j,r⟩:=hm;exact⟨o,es,ep,k _ o (Y6 f) j,r⟩
 .refine(I.hok b u e).stay (λc v a q=>k c v ?_ q) (λ_ q=>q) λ_ _ q=>q;obtain z|z:=a
  .rw[z];exact d b u e
  .exact d c _ z
def Inv.tok(I:Inv X cp σ H s)(t:Nat):Inv X cp σ H { s with toks:=t }:=I.un Un.refl I.hok
def Inv.kept{t':Nat}(I:Inv X cp σ H s)(k:∀b u,s.heap.get? b=Z u->h'.get? b=Z u):Inv X cp σ H { s with heap:=h',toks:=t' }:=I.un (Un.kept k)<|I.hok.kept k
def Inv.laid{a:Uc}{t':Nat}(I:Inv X cp σ H s)(k:∀b u,s.heap.get? b=Z u->h'.get? b=Z u)(c:s.heap.objs.size<=a)(new:fA X.prog X.w (upd H a o) h' a o):
 Inv X cp σ (upd H a o) { s with heap:=h',toks:=t' }:=I.un (Un.laid k c<|I.hok.fresh c)<|I.hok.laid k c new
def Inv.write{e:Uc}{t':Nat}(I:Inv X cp σ H s)(c:Mut (H x))(d:e=x\/H e=Z (.own x))(k:∀b u,b≠e->s.heap.get? b=Z u->h'.get? b=Z u)(a:∃u,h'.get? e=Z u)
 (new:fA X.prog X.w (upd H x o) h' x o):Inv X cp σ (upd H x o) { s with heap:=h',toks:=t' }:=I.un (Un.write c d k a)<|I.hok.write c d k a new
def Inv.pins_of{pins':T1}(I:Inv X cp σ H s)(h:∀p∈pins',s.heap.get? p.1=Z p.2/\H p.1=Y/\p.1≠X.env.locals/\p.1∉X.fs/\∀v,p.2.data≠.cell v):Inv X pins' σ H s:=
 ⟨I.ok,I.os,I.bare,I.base,I.loc,I.cell,I.free,I.freeC,λp a=>(D5.mp a).elim (λz=>I.pin p<|E2 _ z) (h p),I.hok,I.len⟩
def EA{N:Tc}(c:N.Nodup){i j:Nat}{x:Str}(a:N[i]?=Z x)(b:N[j]?=Z x):i=j:=by
 let⟨f,d⟩:=B9.mp a;let⟨g,e⟩:=B9.mp b;exact(List.getElem_inj c).mp (d.trans e.symm)
def AN{A:Uf}{i:Nat}{x:Str}{Q:Unit->Ub->Prop}(I:Inv X cp σ H s)(hN:X.N.Nodup)(hi:X.N[i]?=Z x)(l:Loc X.env.scope x)(r:RelV v u)
 (h:∀s',Inv X cp (σ.set i<|Z v) H s'->(∃a,Heap.SameBut a s.heap s'.heap/\(a=X.env.locals\/X.env.cells.lookup x=Z a))->Q () s') (hf:X.fn x=true\/X.env.scope.names.lookup x=Z .local:=by first|exact .inl rfl|exact .inr rfl|assumption):bz M A (storeName X.env x u) Q E s:=by
 let⟨m,hn,hl⟩:=id I.loc;have J:(X.env.scope.kind==.class || (X.env.scope.kind==.module&&X.env.locals != X.env.globals))=false:=by rw[I.ok.kind];rfl
 have C:i<σ.length:=by rw[I.len];exact(B9.mp hi).1
 have cne:=I.cne
 have f:∀{a:Uc}{h':Heap},(∃o,s.heap.get? a=Z o/\H a=Y)->Heap.SameBut a s.heap h'->HOk X.prog X.w H h':=λ{a h'} ha hs b ob e=>by
  let⟨_,_,t⟩:=ha;refine(I.hok b ob e).stay (λc R hc q=>(hs.2 c ?_).trans q) (λ_ q=>q) λ_ _ q=>q;rintro rfl;obtain rfl|hc:=hc
  .rw[t]at e;cases e
  .rw[t]at hc;cases hc
 obtain hk|hk:=l
 .refine wpAny_storeName_local hk hn (λh' S hs=>?_) J;let⟨oL,_,_,T,_⟩:=id hn;refine h _ ⟨I.ok,I.os,I.bare,⟨λb o e n D l=>?_,λb o e n D l=>?_,I.base.free,λb o e l=>?_,I.base.tups,I.base.frzs,I.base.tbls⟩,⟨_,S,λj y U g B W=>?_⟩,λy c e=>?_,I.free,I.freeC,λp hp=>?_,f ⟨oL,T,I.free⟩ hs,by simpa using I.len⟩ ⟨_,hs,.inl rfl⟩
  .exact(hs.2 b<|C2<|C9 (B2 e) I.ok.above).trans (I.base.keep b o e n D l)
  .let⟨sl,g⟩:=I.base.slot b o e n D l;exact⟨sl,(hs.2 b<|C2<|C9 (B2 e) I.ok.above).trans g⟩
  .let⟨o',g⟩:=I.base.there b o e l;exact⟨o',(hs.2 b<|C2<|C9 (B2 e) I.ok.above).trans g⟩
  .by_cases F:j=i
   .subst F;rw[hi]at g;cases g;rw[F0 C]at B;cases B;exact⟨u,r,.inl ⟨hk,67⟩⟩
   .rw[F6 (Y6 F)]at B;let⟨u',r',q⟩:=hl j y U g B W;refine⟨u',r',?_⟩;obtain⟨k,e⟩|⟨k,c,e,z⟩:=q
    .refine .inl ⟨k,?_⟩;have:y≠x:=λe=>F<|EA hN g (e▸hi);simp[this,e]
    .exact .inr ⟨k,c,e,z.sameBut hs<|cne y c e⟩
  .let⟨R,z⟩:=I.cell y c e;exact⟨R,z.sameBut hs<|cne y c e⟩
  .let⟨e,n,ne,nf,d⟩:=I.pin p hp;exact⟨(hs.2 p.1 ne).trans e,n,ne,nf,d⟩
 .have G:X.fn x=true:=by
   obtain z|z:=hf
   .exact z
   .rw[z]at hk;cases hk
  let⟨c,hc⟩:=I.ok.has x (.inl hk);let⟨R,z⟩:=I.cell x c hc;refine wpAny_storeName_cell I.ok.kind hk hc z (λh' L hs=>?_);let⟨oc,O,a0⟩:=id z;refine h { s with heap:=h' } ⟨I.ok,I.os,I.bare,⟨λb o e n D l=>?_,λb o e n D l=>?_,I.base.free,λb o e l=>?_,I.base.tups,I.base.frzs,I.base.tbls⟩,⟨m,hn.sameBut hs<|Y6<|cne x c hc,λj y U g B W=>?_⟩,λy c' e=>?_,I.free,I.freeC,λp hp=>?_,f ⟨oc,O,I.freeC x c hc⟩ hs,by simpa using I.len⟩ ⟨c,hs,.inr hc⟩
  .exact(hs.2 b<|C2<|C9 (B2 e)<|I.ok.cab x c G hc).trans (I.base.keep b o e n D l)
  .let⟨sl,g⟩:=I.base.slot b o e n D l;exact⟨sl,(hs.2 b<|C2<|C9 (B2 e)<|I.ok.cab x c G hc).trans g⟩
  .let⟨o',g⟩:=I.base.there b o e l;exact⟨o',(hs.2 b<|C2<|C9 (B2 e)<|I.ok.cab x c G hc).trans g⟩
  .by_cases F:j=i
   .subst F;rw[hi]at g;cases g;rw[F0 C]at B;cases B;exact⟨u,r,.inr ⟨.inl hk,c,hc,L⟩⟩
   .rw[F6 (Y6 F)]at B;let⟨u',r',q⟩:=hl j y U g B W;refine⟨u',r',?_⟩;obtain q|⟨k,c',e,z'⟩:=q
    .exact .inl q
    .refine .inr ⟨k,c',e,z'.sameBut hs ?_⟩;rintro rfl;exact F<|EA hN g (I.ok.inj _ _ _ e hc▸hi)
  .by_cases P:c'=c
   .subst P;exact⟨_,L⟩
   .let⟨w2,z2⟩:=I.cell y c' e;exact⟨w2,z2.sameBut hs P⟩
  .let⟨e,n,ne,nf,d⟩:=I.pin p hp;refine⟨(hs.2 p.1 ?_).trans e,n,ne,nf,d⟩;intro q;rw[q,O]at e;have q':=E5 e;exact d R 68
def tT{A:Uf}{i:Nat}{x:Str}{Q:Unit->Ub->Prop}(I:Inv X cp σ H s)(a:X.N.Nodup)(hi:X.N[i]?=Z x)(b:Loc X.env.scope x)(r:RelV v u)
 (h:∀s',Inv X cp (σ.set i<|Z v) H s'->Q () s') (c:X.fn x=true\/X.env.scope.names.lookup x=Z .local:=by first|exact .inl rfl|exact .inr rfl|assumption):bz M A (storeName X.env x u) Q E s:=
 AN I a hi b r (λs' d _=>h s' d) c
def Inv.call'{s':Ub}(I:Inv X cp σ H s)(d:s'.os=s.os)(u:Un (frs X.stack) ch H H' s.heap s'.heap)(hok:HOk X.prog X.w H' s'.heap)(f:AllBare s'.gens)
 (a:∀b∈ch,(b∈X.ex\/X.s₀.heap.objs.size<=b)/\b≠X.env.locals/\(∀x c,X.env.cells.lookup x=Z c->c≠b)/\∀p∈X.pn++cp,p.1≠b):Inv X cp σ H' s':=by
 let⟨h',g,h,i,o'⟩:=s';have e:=d;subst e;exact I.call u hok f a
end
abbrev XK:=Tz->Th->Hp->Prop
abbrev St:=Tv<|Tx V
abbrev VK:=V->Hp->Prop
abbrev TE:=St->Hp->VK->Prop
abbrev TT:=St->Hp->(Bool->Hp->Prop)->Prop
abbrev TA:=St->Hp->(Td->Hp->Prop)->Prop
structure Ends where
 nx:St->Hp->Prop
 rt:VK
 bk:St->Hp->Prop:=λ_ _=>False
 ct:St->Hp->Prop:=λ_ _=>False
abbrev TS:=Ends->St->Hp->Prop
def EP(X:Cx)(cp:T1)(σ:St)(Q:VK)(u:Tz)(s':Ub):Prop:=∃v H',Inv X cp σ H' s'/\RelV v u/\Q v H'
def TP(X:Cx)(cp:T1)(σ:St)(Q:Bool->Hp->Prop)(b:Bool)(s':Ub):Prop:=∃H',Inv X cp σ H' s'/\Q b H'
def AP(X:Cx)(cp:T1)(σ:St)(Q:Td->Hp->Prop)(us:T4)(s':Ub):Prop:=∃vs H',Inv X cp σ H' s'/\bE vs us/\Q vs H'
def SP(X:Cx)(cp:T1)(D:Ends)(f:Flow)(s':Ub):Prop:=
 match f with
 |.next=>∃a H',Inv X cp a H' s'/\D.nx a H'
 |.brk=>∃a H',Inv X cp a H' s'/\D.bk a H'
 |.cont=>∃a H',Inv X cp a H' s'/\D.ct a H'
 |.ret u=>∃v a H',Inv X cp a H' s'/\RelV v u/\D.rt v H'
def PE(X:Cx)(e:Ud)(t:TE):Prop:=
 ∀(cp:T1)(s:Ub)(σ:St)(H:Hp)(Q:VK),Inv X cp σ H s->t σ H Q->bz (bx X.prog X.w) X.A (eval e X.env) (EP X cp σ Q) X.xe s
def PT(X:Cx)(e:Ud)(t:TT):Prop:=
 ∀(cp:T1)(s:Ub)(σ:St)(H:Hp)(Q:Bool->Hp->Prop),Inv X cp σ H s->t σ H Q->bz (bx X.prog X.w) X.A (isTrue e X.env<|eval e X.env) (TP X cp σ Q) X.xe s
def PW(X:Cx)(e:Ud)(t:TT):Prop:=
 ∀(a:Sem Tz)(cp:T1)(s:Ub)(σ:St)(H:Hp)(Q:Bool->Hp->Prop),Inv X cp σ H s->t σ H Q->bz (bx X.prog X.w) X.A (isTrue e X.env a) (TP X cp σ Q) X.xe s
def PW.pt(h:PW X e t):PT X e t:=h _
def PA(X:Cx)(es:T8)(t:TA):Prop:=
 ∀(pos:Pos)(cp:T1)(s:Ub)(σ:St)(H:Hp)(Q:Td->Hp->Prop),Inv X cp σ H s->t σ H Q->bz (bx X.prog X.w) X.A (spliced<|backTo pos<|cb es X.env) (AP X cp σ Q) X.xe s
def PS(X:Cx)(st:Stmt)(t:TS):Prop:=
 ∀(cp:T1)(s:Ub)(σ:St)(H:Hp)(D:Ends),Inv X cp σ H s->t D σ H->bz (bx X.prog X.w) X.A (exec st X.env) (SP X cp D) X.xe s
def PSs(X:Cx)(st:Ta)(t:TS):Prop:=
 ∀(cp:T1)(s:Ub)(σ:St)(H:Hp)(D:Ends),Inv X cp σ H s->t D σ H->bz (bx X.prog X.w) X.A (execs st X.env) (SP X cp D) X.xe s
def thn{b:Type}{t:Sem b}{Q c:b->Ub->Prop}{M:Model}{E:T0}{s:Ub}(h:bz M A t Q E s)(d:∀a s,Q a s->c a s):bz M A t c E s:=C7 h d λ_ _ x=>x
section
variable{X:Cx}
def bin{a b:Ud}{i tb:TE}(ha:PE X a i)(k:PE X b tb){cp:T1}{R:V->V->Hp->Prop}(I:Inv X cp σ H s)(h:i σ H λx g=>tb σ g λy c=>R x y c)
 {j:Type} {Q:j->Ub->Prop} {f:Tz->Tz->Sem j}
 (l:∀v u s2 x y c,Inv X cp σ c s2->RelV x v->RelV y u->R x y c->bz (bx X.prog X.w) X.A (f v u) Q X.xe s2):
 bz (bx X.prog X.w) X.A (eval a X.env) (λv d=>bz (bx X.prog X.w) X.A (eval b X.env) (λu e=>bz (bx X.prog X.w) X.A (f v u) Q X.xe e) X.xe d) X.xe s:=by
 refine thn (ha cp s σ H _ I h) λv s1 ⟨x,g,m,n,o⟩=>?_;refine thn (k cp s1 σ g _ m o) λu s2 ⟨y,c,p,q,r⟩=>?_;exact l v u s2 x y c p n q r
def aQf(i:Nat):TE:=λσ H Q=>∃v,σ[i]?=Z (Z v)/\Q v H
noncomputable def tC(v:V):TE:=λ_ H Q=>Q v H
def aLN{i:Nat}{x:Str}(g:X.N[i]?=Z x)(j:Vis X.env.scope x)(hd:(x==("__debug__":Str))=false:=by decide)(d:(x==("__classdict__":Str))=false:=by decide):PE X (.Name x pos) (aQf i):=by
 intro cp s σ H Q I h;let⟨v,e,h⟩:=h;let⟨m,hn,k⟩:=I.loc;let⟨u,r,l⟩:=k i x v g e j;have b:EP X cp σ Q u s:=⟨v,H,I,r,h⟩;obtain⟨hk,hm⟩|⟨hk,c,f,a⟩:=l
 .exact wpAny_Name (wpAny_loadName_local I.ok.kind hk hn hm b) hd
 .obtain hk|hk:=hk
  .exact wpAny_Name (wpAny_loadName_cell I.ok.kind hk f a b) hd
  .exact wpAny_Name (wpAny_loadName_free I.ok.kind hk f a b d) hd
def aNG{i j pos}:PE X (.Constant (.int i) j pos) (tC (.int i)):=λ_ _ _ H _ I h=>wpAny_Constant_int ⟨.int i,H,I.tok _,⟨_,rfl⟩,h⟩
def aPx{b j pos}:PE X (.Constant (.bool b) j pos) (tC (.bl b)):=λ_ _ _ H _ I h=>Constant_bool ⟨.bl b,H,I,rfl,h⟩
def aMG{j pos}:PE X (.Constant .none j pos) (tC .non):=λ_ _ _ H _ I h=>Constant_none ⟨.non,H,I,rfl,h⟩
def aMl{x j pos}:PE X (.Constant (.str x) j pos) (tC (.str x)):=λ_ _ _ H _ I h=>Calls.Constant_str ⟨.str x,H,I.tok _,⟨_,rfl⟩,h⟩
def Gl(X:Cx)(x:Str):Prop:=X.env.kindOf x=Z .globalImplicit
def vF{u:Tz}{pos:Pos}{Q:T0}(I:Inv X cp σ H s)(a:Gl X x)(hm:X.mg x=Z u)(h:Q u s)
 (hd:(x==("__debug__":Str))=false:=by decide):bz (bx X.prog X.w) X.A (eval (.Name x pos) X.env) Q E s:=
 Calls.Name_function_global I.ok.kind a (Calls.loadGlobal_global (by rw[I.ok.glob];exact I.mod.glob.keeps I.bk) hm h) hd
def iI{u:Tz}{pos:Pos}{Q:T0}(I:Inv X cp σ H s)(a:Gl X x)(hm:X.mg x=Y)(b:bootBuiltins x=Z u)(h:Q u s)
 (hn:x≠"__name__":=by decide) (hd:(x==("__debug__":Str))=false:=by decide):bz (bx X.prog X.w) X.A (eval (.Name x pos) X.env) Q E s:=by
 let⟨mb,c,d⟩:=I.mod.blt;exact Calls.Name_function_global I.ok.kind a (Calls.loadGlobal_builtin (by rw[I.ok.glob];exact I.mod.glob.keeps I.bk) hm (by rw[I.ok.blt];exact c.keeps I.bk) ((d x hn).trans b) h) hd
def ZR{u:Tz}(a:Gl X x)(hm:X.mg x=Z u)(r:RelV v u)(hd:(x==("__debug__":Str))=false:=by decide):PE X (.Name x pos) (tC v):=
 λ_ _ _ H _ I h=>vF I a hm ⟨v,H,I,r,h⟩ hd
def MM{u:Tz}(a:Gl X x)(hm:X.mg x=Y)(b:bootBuiltins x=Z u)(r:RelV v u)(hn:x≠"__name__":=by decide)(hd:(x==("__debug__":Str))=false:=by decide):PE X (.Name x pos) (tC v):=
 λ_ _ _ H _ I h=>iI I a hm b ⟨v,H,I,r,h⟩ hn hd
variable{a b:Ud}{ta tb:TE}{pos:Pos}
def PC(X:Cx)(op:CmpOp)(a b:Ud)(t:TE):Prop:=
 ∀(cp:T1)(s:Ub)(σ:St)(H:Hp)(Q:VK),Inv X cp σ H s->t σ H Q->
  bz (bx X.prog X.w) X.A (eval a X.env) (λv c=>bz (bx X.prog X.w) X.A (eval b X.env) (λu d=>bz (bx X.prog X.w) X.A (cf op v u) (EP X cp σ Q) X.xe d) X.xe c) X.xe s
def aFG(b:Ud){op:CmpOp}(h:op≠.In)(e:op≠.NotIn):behindInMarks op b=false:=by
 have c:(op==CmpOp.In)=false:=68
 have d:(op==CmpOp.NotIn)=false:=68
 cases b<;>simp[behindInMarks,c,d]
noncomputable def tB(t:TE):TT:=λσ H Q=>t σ H λx d=>∃c,x=.bl c/\Q c d
def aNp{op:CmpOp}{t:TE}(h:PC X op a b t)(e:behindInMarks op b=false:=by first|exact aFG _ 66 66|rfl):PT X (.Compare a [op] [b] pos) (tB t):=by
 intro cp s σ H Q I f;refine wpAny_isTrue_Compare1 (thn (h cp s σ H _ I f) λv s1 e=>thn e λu s2 g=>thn g λc s3 ⟨x,i,j,k,l⟩=>?_) e;let⟨d,rfl,q⟩:=l;cases k;exact A0h ⟨i,j,q⟩
def aFb{e:Ud}{t:TE}(h:PE X e t)(f:∀c,isTrue e X.env c=(do let v <- c;standAt e.pos;holding [v]<|truthy v):=by intro _;rfl):PT X e (tB t):=by
 intro cp s σ H Q I g;refine isTrue_plain (thn (h cp s σ H _ I g) λv s1 ⟨x,i,j,k,l⟩=>?_)<|f _;let⟨d,rfl,q⟩:=l;cases k;exact A0h ⟨i,j,q⟩
variable{tA tB':TT}{rest:T8}
noncomputable def aNZ(t u:TT):TT:=λσ H Q=>t σ H λc d=>if c=true then u σ d Q else Q false d
noncomputable def tOr(t u:TT):TT:=λσ H Q=>t σ H λc d=>if c=true then Q true d else u σ d Q
noncomputable def aNx(t:TT):TT:=λσ H Q=>t σ H λc d=>Q (!c) d
def aHL(ha:PT X a tA):PW X (.BoolOp .And [a] pos) tA:=by
 intro d cp s σ H Q I h;refine isTrue_and (thn (ha cp s σ H Q I h) λc s1 e=>?_);cases c with
 |true=>exact isTrue_and_nil e
 |false=>exact e
def aMa(ha:PT X a tA):PW X (.BoolOp .Or [a] pos) tA:=by
 intro d cp s σ H Q I h;refine isTrue_or (thn (ha cp s σ H Q I h) λc s1 e=>?_);cases c with
 |false=>exact isTrue_or_nil e
 |true=>exact e
def aLX(ha:PT X a tA)(g:PW X (.BoolOp .And (b::rest) pos) tB'):PW X (.BoolOp .And (a::b::rest) pos) (aNZ tA tB'):=by
 intro i cp s σ H Q I h;refine isTrue_and (thn (ha cp s σ H _ I h) λc s1 ⟨d,e,f⟩=>?_);cases c with
 |true=>exact g i cp s1 σ d Q e f
 |false=>exact⟨d,e,f⟩
def aPA(ha:PT X a tA)(g:PW X (.BoolOp .Or (b::rest) pos) tB'):PW X (.BoolOp .Or (a::b::rest) pos) (tOr tA tB'):=by
 intro i cp s σ H Q I h;refine isTrue_or (thn (ha cp s σ H _ I h) λc s1 ⟨d,e,f⟩=>?_);cases c with
 |true=>exact⟨d,e,f⟩
 |false=>exact g i cp s1 σ d Q e f
def aCR(ha:PT X a tA):PT X (.UnaryOp .Not a pos) (aNx tA):=by
 intro cp s σ H Q I h;exact isTrue_not<|ha cp s σ H (λc d=>Q (!c) d) I h
noncomputable def aJu(ta tb:TE):TE:=λσ H Q=>ta σ H λx d=>∃c,x=.bl c/\if c=true then tb σ d Q else Q (.bl false) d
noncomputable def aJH(ta:TE):TE:=λσ H Q=>ta σ H λx d=>∃c,x=.bl c/\Q (.bl (!c)) d
def aLA{op}(h:PE X a t):PE X (.BoolOp op [a] pos) t:=λcp s σ H Q I c=>BoolOp_one<|h cp s σ H Q I c
def aKh(ha:PE X a ta)(g:PE X (.BoolOp .And (b::rest) pos) tb):PE X (.BoolOp .And (a::b::rest) pos) (aJu ta tb):=by
 intro cp s σ H Q I h;refine BoolOp_and (thn (ha cp s σ H _ I h) λv s1 ⟨x,e,f,i,d⟩=>?_);let⟨c,rfl,d⟩:=d;cases i;refine A0h ?_;cases c with
 |true=>exact g cp s1 σ e Q f d
 |false=>exact⟨.bl false,e,f,rfl,d⟩
def aNo(ha:PE X a ta):PE X (.UnaryOp .Not a pos) (aJH ta):=by
 intro cp s σ H Q I h;refine UnaryOp_ (thn (ha cp s σ H _ I h) λv s1 ⟨x,e,f,g,d⟩=>?_);let⟨c,rfl,d⟩:=d;cases g;exact not_of<|A0h ⟨.bl (!c),e,f,rfl,d⟩
end
def SqL(K:Fg)(H:Hp)(a:Uc)(xs:Td):Prop:=
 Rd H a (.lst xs) \/
  ∃(o:Obj)(its:Ti)(n:Nat),K.lookup a=Z o/\o.cls=.type "list"/\o.dict=Y/\o.data=.seq its n/\its.size<=bv/\bE xs its.toList
def SqT(K:Fg)(H:Hp)(a:Uc)(xs:Td):Prop:=
 Rd H a (.tup xs) \/
  ∃(o:Obj)(its:Ti)(n:Nat),K.lookup a=Z o/\o.cls=.type "tuple"/\o.data=.seq its n/\its.size<=bv/\bE xs its.toList
def aRd:Tz->Tx V
 |.none=>Z .non
 |.bool b=>Z (.bl b)
 |.int i _=>Z (.int i)
 |.str x _=>Z (.str x)
 |.bytes b _=>Z (.byt b)
 |.float b _=>Z (.flt b)
 |.ref a=>Z (.ref a)
 |.type n=>Z (.ty n)
 |_=>Y
def RelV.abs(r:RelV x u):aRd u=Z x:=by
 cases x with
 |non=>cases r;rfl
 |bl _=>cases r;rfl
 |int _=>let⟨t,rfl⟩:=r;rfl
 |str _=>let⟨t,rfl⟩:=r;rfl
 |byt _=>let⟨t,rfl⟩:=r;rfl
 |flt _=>let⟨t,rfl⟩:=r;rfl
 |ref _=>cases r;rfl
 |ty _=>cases r;rfl
def RelV.inj(r:RelV x u)(q:RelV y u):x=y:=E5<|r.abs.symm.trans q.abs
theorem bE.inj:∀{xs ys:Td}{us:T4},bE xs us->bE ys us->xs=ys
 |_,_,_,.nil,.nil=>rfl
 |_,_,_,.cons r t,.cons a b=>by rw[r.inj a,bE.inj t b]
section
variable{X:Cx}{cp:T1}{σ:St}{H:Hp}{s:Ub}{a:Uc}{xs ys:Td}
def SqL.of(h:H a=Z (.lst xs)):SqL K H a xs:=.inl (.inl h)
def SqT.of(h:H a=Z (.tup xs)):SqT K H a xs:=.inl (.inl h)
def Inv.list(I:Inv X cp σ H s)(h:SqL X.K H a xs):∃its:T4,bE xs its/\PlainL s.heap a its.toArray/\xs.length<=bv:=by
 obtain h|⟨o,its,n,b,c,hd,hs,d,r⟩:=h
 .let⟨z,its,n,r,e⟩:=h.ok I.hok;exact⟨its,r,⟨_,n,e,rfl,rfl,rfl⟩,z⟩
 .refine⟨its.toList,r,⟨o,n,I.kIn a o b,c,hd,by simpa using hs⟩,?_⟩;have e:=r.length;simp only[D4]at e;omega
def Inv.tuple(I:Inv X cp σ H s)(h:SqT X.K H a xs):∃its:T4,bE xs its/\IsTup s.heap a its.toArray/\xs.length<=bv:=by
 obtain h|⟨o,its,n,b,c,hs,d,r⟩:=h
 .let⟨z,its,r,p⟩:=h.ok I.hok;exact⟨its,r,p,z⟩
 .refine⟨its.toList,r,⟨o,I.kIn a o b,c,n,by simpa using hs⟩,?_⟩;have e:=r.length;simp only[D4]at e;omega
def Inv.list_inj(I:Inv X cp σ H s)(h:SqL X.K H a xs)(h':SqL X.K H a ys):xs=ys:=by
 let⟨its,r,⟨o,n,e,_,_,d⟩,_⟩:=I.list h;let⟨its',f,⟨o',g,b,_,_,c⟩,_⟩:=I.list h';rw[e]at b;cases b;rw[d]at c;injection c with i _
 have:its=its':=68
 subst this;exact r.inj f
def Inv.tuple_inj(I:Inv X cp σ H s)(h:SqT X.K H a xs)(h':SqT X.K H a ys):xs=ys:=by
 let⟨its,r,⟨o,e,_,n,d⟩,_⟩:=I.tuple h;let⟨its',f,⟨o',b,_,g,c⟩,_⟩:=I.tuple h';rw[e]at b;cases b;rw[d]at c;injection c with i _
 have:its=its':=68
 subst this;exact r.inj f
end
noncomputable abbrev Cx.wish(X:Cx)(E:T0):Cx:={ X with xe:=E }
abbrev Cx.nox(X:Cx):Cx:=X.wish λ_ _=>False
def Cx.Ok.wish{X:Cx}(ok:X.Ok)(E:T0):(X.wish E).Ok:=
 ⟨ok.mod,ok.kind,ok.glob,ok.blt,ok.above,ok.inj,ok.has,ok.cab,ok.hd,ok.frames,ok.stk,ok.exf,ok.bs,ok.bsz,ok.noex,ok.exfs,ok.funs,ok.frf⟩
def Cx.Ok.unwish{X:Cx}(ok:(X.wish E).Ok):X.Ok:=
 ⟨ok.mod,ok.kind,ok.glob,ok.blt,ok.above,ok.inj,ok.has,ok.cab,ok.hd,ok.frames,ok.stk,ok.exf,ok.bs,ok.bsz,ok.noex,ok.exfs,ok.funs,ok.frf⟩
section
variable{X:Cx}{cp:T1}{σ:St}{H:Hp}{s:Ub}{E:T0}
def Inv.wish(I:Inv X cp σ H s)(E:T0):Inv (X.wish E) cp σ H s:=⟨I.ok.wish E,I.os,I.bare,I.base,I.loc,I.cell,I.free,I.freeC,I.pin,I.hok,I.len⟩
def Inv.unwish(I:Inv (X.wish E) cp σ H s):Inv X cp σ H s:=⟨I.ok.unwish,I.os,I.bare,I.base,I.loc,I.cell,I.free,I.freeC,I.pin,I.hok,I.len⟩
def SP.unwish(h:SP (X.wish E) cp D f s'):SP X cp D f s':=by
 cases f with
 |next=>let⟨a,H',I,q⟩:=h;exact⟨a,H',I.unwish,q⟩
 |brk=>let⟨a,H',I,q⟩:=h;exact⟨a,H',I.unwish,q⟩
 |cont=>let⟨a,H',I,q⟩:=h;exact⟨a,H',I.unwish,q⟩
 |ret u=>let⟨v,a,H',I,r,q⟩:=h;exact⟨v,a,H',I.unwish,r,q⟩
def PSs.nox{st:Ta}(h:PSs X.nox st t):PSs X st t:=λcp s σ H D I a=>
 C7 (h cp s σ H D (I.wish _) a) (λ_ _ q=>q.unwish) λ_ _ z=>False.elim z
end
section
variable{X:Cx}{st:Stmt}{rest:Ta}{t u:TS}{e:Ud}{te:TE}{pos:Pos}
noncomputable def aJB:TS:=λD σ H=>D.nx σ H
noncomputable def aLb(t u:TS):TS:=λD σ H=>t { D with nx:=u D } σ H
def aGE:PSs X [] aJB:=λ_ _ σ H _ I h=>A2v ⟨σ,H,I,h⟩
def OL(b:PS X st t)(c:PSs X rest u):PSs X (st::rest) (aLb t u):=by
 intro cp s σ H D I h;refine wpAny_execs_cons (thn (b cp s σ H { D with nx:=u D } I h) λf s1 q=>?_);cases f with
 |next=>
  let⟨a,H',d,q⟩:=q;exact c cp s1 a H' D d q
 |ret v=>exact q
 |brk=>exact q
 |cont=>exact q
def XI(a:PS X st t):PSs X [st] t:=by
 intro cp s σ H D I h;refine wpAny_execs_cons (thn (a cp s σ H D I h) λf s1 q=>?_);cases f with
 |next=>exact A2v q
 |ret v=>exact q
 |brk=>exact q
 |cont=>exact q
def Inv.quiet(I:Inv X cp σ H s):interactive X.env=false:=by simp[interactive,I.ok.kind]
noncomputable def aEn(te:TE):TS:=λD σ H=>te σ H λ_ a=>D.nx σ a
def ZL(a:PE X e te)(hs:swapsWith e Y pos.line X.env=pure false:=by rfl):PS X (.Expr e pos) (aEn te):=by
 intro cp s σ H D I h;exact wpAny_Expr_any (thn (a cp s σ H _ I h) λv s1 ⟨x,b,c,f,d⟩=>⟨σ,b,c,d⟩) I.quiet hs
noncomputable def aPm(te:TE):TS:=λD σ H=>te σ H D.rt
def aLi(a:PE X e te):PS X (.Return (Z e) pos) (aPm te):=by
 intro cp s σ H D I h;exact wpAny_Return_some (thn (a cp s σ H _ I h) λv s1 ⟨x,b,c,d,f⟩=>⟨x,σ,b,c,d,f⟩)
noncomputable def aIP(c:TT)(t u:TS):TS:=λD σ H=>c σ H λb a=>if b=true then t D σ a else u D σ a
def aFA{c:Ud}{a b:Ta}{f:TT}(k:PT X c f)(ha:PSs X a t)(l:PSs X b u):PS X (.If c a b pos) (aIP f t u):=by
 intro cp s σ H D I h;refine wpAny_If (thn (k cp s σ H _ I h) λd s1 ⟨g,i,j⟩=>?_);cases d with
 |true=>exact ha cp s1 σ g D i j
 |false=>exact l cp s1 σ g D i j
noncomputable def aCG:TS:=λ_ _ _=>False
def aCy:PS X st aCG:=λ_ _ _ _ _ _ h=>h.elim
end
abbrev TG:=V->St->Hp->(St->Hp->Prop)->Prop
abbrev TGs:=Td->St->Hp->(St->Hp->Prop)->Prop
def PG(X:Cx)(a:Ud)(t:TG):Prop:=
 ∀(cp:T1)(s:Ub)(σ:St)(H:Hp)(v:V)(u:Tz)(Q:St->Hp->Prop),Inv X cp σ H s->RelV v u->t v σ H Q->
  bz (bx X.prog X.w) X.A (assign a X.env u) (λ_ s'=>∃b H',Inv X cp b H' s'/\Q b H') X.xe s
def PGs(X:Cx)(ts:T8)(t:TGs):Prop:=
 ∀(cp:T1)(s:Ub)(σ:St)(H:Hp)(vs:Td)(us:T4)(Q:St->Hp->Prop),Inv X cp σ H s->bE vs us->t vs σ H Q->
  bz (bx X.prog X.w) X.A (assignInOrder ((assignEach ts X.env).map (·.2)) us) (λ_ s'=>∃a H',Inv X cp a H' s'/\Q a H') X.xe s
abbrev aHW:=V->V->V->Hp->(Hp->Prop)->Prop
def aMT(X:Cx)(t:aHW):Prop:=
 ∀(cp:T1)(s:Ub)(σ:St)(H:Hp)(o i v:V)(a b u:Tz)(Q:Hp->Prop),Inv X cp σ H s->RelV o a->RelV i b->RelV v u->t o i v H Q->
  bz (bx X.prog X.w) X.A (setItem a b u) (λ_ s'=>∃H',Inv X cp σ H' s'/\Q H') X.xe s
section
variable{X:Cx}{pos:Pos}
def DU(i:Nat):TG:=λv σ H Q=>Q (σ.set i<|Z v) H
def aJc{i:Nat}{x:Str}(a:X.N.Nodup)(hi:X.N[i]?=Z x)(b:Loc X.env.scope x)(c:X.fn x=true\/X.env.scope.names.lookup x=Z .local:=by first|exact .inl rfl|exact .inr rfl|assumption):PG X (.Name x pos) (DU i):=by
 intro cp s σ H v u Q I r h;exact wpAny_assign_Name<|tT I a hi b r (λs' d=>⟨_,H,d,h⟩) c
noncomputable def aOM:TGs:=λvs σ H Q=>vs=[]/\Q σ H
noncomputable def aJG(t:TG)(u:TGs):TGs:=λvs σ H Q=>∃v r,vs=v::r/\t v σ H λa H'=>u r a H' Q
def aIc:PGs X [] aOM:=by
 intro cp s σ H vs us Q I r h;let⟨e,h⟩:=h;subst e;cases r;exact assignInOrder_nil ⟨σ,H,I,h⟩
def aFI{e:Ud}{es:T8}{t:TG}{u:TGs}(b:PG X e t)(c:PGs X es u)
 (hs:(assignEach (e::es) X.env).map (·.2)=assign e X.env::(assignEach es X.env).map (·.2):=by rfl):PGs X (e::es) (aJG t u):=by
 intro cp s σ H vs us Q I r h;let⟨v,k,d,h⟩:=h;subst d;cases r with
 |cons r f=>
  rw[hs];refine assignInOrder_cons (thn (b cp s σ H _ _ _ I r h) λ_ s1 ⟨a,g,i,j⟩=>?_);exact c cp s1 a g _ _ Q i f j
noncomputable def aMX(K:Fg)(n:Nat)(t:TGs):TG:=λv σ H Q=>∃a xs,v=.ref a/\SqT K H a xs/\xs.length=n/\t xs σ H Q
def aNb{n:Nat}(f:X.calm=true)(h:PGs X es t)
 (hn:(assignEach es X.env).length=n:=by rfl) (c:(assignEach es X.env).findIdx? (·.1)=Y:=by rfl):PG X (.Tuple es k pos) (aMX X.K n t):=by
 intro cp s σ H v u Q I r d;let⟨a,xs,g,i,j,d⟩:=d;subst g;cases r;let⟨its,l,ht,q⟩:=I.tuple i;refine assign_Tuple_tuple (I.ok.hd f) ht (by simp[hn,<- j,l.length]) c λh' m=>?_;have p:=I.kept (t':=s.toks) λb o e=>m b o (C2<|B2 e) e;exact h cp _ σ H xs _ Q p 61 d
noncomputable def aQb(to a:TE)(t:aHW):TG:=λv σ H Q=>to σ H λo b=>a σ b λi c=>t o i v c λd=>Q σ d
def aKb{o i:Ud}{to c:TE}{t:aHW}(d:PE X o to)(hi:PE X i c)(hs:aMT X t)
 (ha:∀v,assign (.Subscript o i pos) X.env v=(do
  let a <- holding [v] (eval o X.env);let b <- holding [v,a] (eval i X.env)
  standAt pos
  holding [v,a,b] (setItem a b v)
  release [v,a,b] []):=by intro _;rfl):PG X (.Subscript o i pos) (aQb to c t):=by
 intro cp s σ H v u Q I r h;refine A1<|E7 (thn (d cp s σ H _ I h) λa s1 ⟨x,e,f,g,j⟩=>?_);refine A1<|E7 (thn (hi cp s1 σ e _ f j) λb s2 ⟨y,k,l,m,n⟩=>?_);refine A1<|L9<|A1<|E7 (thn (hs cp s2 σ k x y v a b u _ l g m r n) λ_ s3 ⟨p,q,w⟩=>?_);exact wpAny_release ⟨σ,p,q,w⟩
noncomputable def aAU(a:TE)(g:TG):TS:=λD σ H=>a σ H λx b=>g x σ b D.nx
def aLY{tg e:Ud}{a:TE}{g:TG}(b:PE X e a)(c:PG X tg g)(hs:swapsWithSole [tg] e pos.line X.env=pure false:=by rfl)(d:swappedStores [tg] e X.env=pure Y:=by rfl)
 (f:(assignEach [tg] X.env).map (·.2)=[assign tg X.env]:=by rfl):PS X (.Assign [tg] e pos) (aAU a g):=by
 intro cp s σ H D I h;refine wpAny_Assign_stores (thn (b cp s σ H _ I h) λv s1 ⟨x,i,j,k,l⟩=>?_) hs d;rw[f];exact thn (c cp s1 σ i x v _ j k l) λ_ s2 q=>q
def aFz{i:Nat}{x:Str}{e:Ud}{a:TE}{pos':Pos}(b:X.N.Nodup)(hi:X.N[i]?=Z x)(c:Loc X.env.scope x)(d:PE X e a)(hs:swapsWith e (Z (.Name x pos')) pos.line X.env=pure false:=by rfl)(f:X.fn x=true\/X.env.scope.names.lookup x=Z .local:=by first|exact .inl rfl|exact .inr rfl|assumption):
 PS X (.Assign [.Name x pos'] e pos) (aAU a<|DU i):=by
 intro cp s σ H D I h;refine wpAny_Assign_Name (thn (d cp s σ H _ I h) λv s1 ⟨y,g,j,k,l⟩=>?_) hs;exact tT j b hi c k (λs2 m=>⟨_,g,m,l⟩) f
def aOy(i j:Nat)(a:TA):TS:=λD σ H=>a σ H λvs b=>∃v w,vs=[v,w]/\D.nx ((σ.set i<|Z v).set j (Z w)) b
def aMg{i j:Nat}{x y:Str}{a b:Ud}{n:TA}{kt k2 pt2}(C:X.calm=true)(r:X.N.Nodup)(hi:X.N[i]?=Z x)(E:X.N[j]?=Z y)(g:i≠j)
 (t:X.env.scope.names.lookup x=Z .local) (u:X.env.scope.names.lookup y=Z .local) (ha:PA X [a,b] n)
 (F:swappedStores [.Tuple [.Name x d,.Name y f] kt pt] (.Tuple [a,b] k2 pt2) X.env=pure (Z [x,y]))
 (hs:swapsWithSole [.Tuple [.Name x d,.Name y f] kt pt] (.Tuple [a,b] k2 pt2) pos.line X.env=pure false:=by rfl):
 PS X (.Assign [.Tuple [.Name x d,.Name y f] kt pt] (.Tuple [a,b] k2 pt2) pos) (aOy i j n):=by
 intro cp s σ H D I h;refine A1<|L9 ?_;refine A1<|A4 ?_;refine A1<|Tuple_ (thn (ha _ cp s σ H _ I h) λus s1 ⟨vs,z,G,J,k⟩=>?_);let⟨v,w,L,k⟩:=k;subst L
 obtain⟨u1,c,rfl,M,l⟩:∃u1 c,us=[u1,c]/\RelV v u1/\RelV w c:=by
  cases J with
  |cons p q=>
   cases q with
   |cons O P=>
    cases P;exact⟨_,_,rfl,p,O⟩
 refine D6 ?_ (by show 2<=bv;decide);have Q:Inv X cp σ z { s1 with heap:=s1.heap.push { cls:=.type "tuple",data:=.seq [u1,c].toArray } }:=G.kept λb o e=>A3 _ e;rw[F];refine A1<|A4 ?_;refine A1<|A0v<|A1 (unpackItems_tuple (items:=#[u1,c]) (I.ok.hd C) (IsTup.new s1.heap _) λh' m=>?_);have R:=Q.kept (t':=s1.toks) λb o e=>m b o (C2<|B2 e) e;refine A1<|assignInOrder_cons<|wpAny_bindName<|tT R r E (.inl u) l (λs2 S=>?_) (.inr u);refine assignInOrder_cons<|wpAny_bindName<|tT S r hi (.inl t) M (λs3 B=>assignInOrder_nil<|A4 ?_) (.inr t);rw[List.set_comm _ _ (Y6 g)]at B;exact⟨_,z,B,k⟩
end
section
variable{X:Cx}{pos:Pos}
def aDe(c:TT)(tb:TS):TS:=λD σ H=>∃W:Nat->St->Hp->Prop,(∃m,W m σ H)/\∀m σ H,W m σ H->
 c σ H λb d=>if b=true then ∃N:St->Hp->Prop,(∀a H',N a H'->∃e,e<m/\W e a H')/\tb { D with nx:=N,ct:=N,bk:=D.nx } σ d else D.nx σ d
def aFp(t:PassesOwn (bx X.prog X.w) X.A X.env X.xe)(B:PT X c r)(C:PSs X e tb):PS X (.While c e [] pos) (aDe r tb):=by
 intro cp s σ H D I h;let⟨W,⟨E,F⟩,g⟩:=h;refine wpAny_While<|codeAny_whileLoop (λn s'=>∃i H',Inv X cp i H' s'/\W n i H') ?_ E ⟨σ,H,I,F⟩;rintro n s1 ⟨d,u,G,J⟩;refine A1h t (thn (B cp s1 d u _ G<|g n d u J) λb s2 ⟨x,y,k⟩=>?_);cases b with
 |true=>
  let⟨N,z,k⟩:=k;refine A1h t (thn (C cp s2 d x _ y k) λf s3 l=>?_);cases f with
  |next=>
   let⟨a,j,m,o⟩:=l;let⟨p,hm,q⟩:=z a j o;exact⟨p,hm,a,j,m,q⟩
  |cont=>
   let⟨a,j,m,o⟩:=l;let⟨p,hm,q⟩:=z a j o;exact⟨p,hm,a,j,m,q⟩
  |brk=>exact l
  |ret v=>exact l
 |false=>
  exact A2v ⟨d,x,y,k⟩
end
structure It where
 go:Nat->Hp->Prop
 yld:Nat->Hp->V->Hp->Prop
 stop:Nat->Hp->Prop
def nE(X:Cx)(cp:T1)(H:Hp)(b:Uc):Prop:=
 H b=Y/\b≠X.env.locals/\b∉X.fs/\(b∈X.ex\/X.s₀.heap.objs.size<=b)/\(∀x c,X.env.cells.lookup x=Z c->c≠b)/\∀p∈X.pn++cp,p.1≠b
def Inv.fpOk{H':Hp}{b:Uc}(I:Inv X cp σ H s)(a:s.heap.objs.size<=b)(hn:H' b=Y):nE X cp H' b:=by
 refine⟨hn,O1<|C9 I.lt a,I.nofs a,.inr (C5 I.sz a),λx c e z=>?_,λp d z=>?_⟩
 .let⟨v,q⟩:=I.cell x c e;exact absurd (C9 q.lt 68)<|Y5 _
 .exact absurd (C9 (B2 (I.pin p d).1) 68)<|Y5 _
structure Turn(P:Ue)(w:World)(K:Fg)(tg:Ud)(J:It)(fp:Tb)(it:Uc)(tn:Nat->Heap->Prop):Prop where
 mem:it∈fp
 obj:∀i h,tn i h->∀b∈fp,∃o,h.get? b=Z o/\∀v,o.data≠.cell v
 keep:∀i h h',tn i h->(∀b∈fp,∀o,h.get? b=Z o->h'.get? b=Z o)->tn i h'
 item:∀(X:Cx),X.prog=P->X.w=w->X.K=K->X.calm=true->∀(i:Nat)(cp:T1)(s:Ub)(σ:St)(H:Hp)(E:T0),Inv X cp σ H s->(∀b∈fp,nE X cp H b)->tn i s.heap->J.go i H->
  bz (bx P w) X.A (pyNext (.ref it)) (λr s1=>∃u,r=Z u /\
   bz (bx P w) X.A (ci tg (.ref it) u) (λ_ s2=>∃x H',Inv X cp σ H' s2/\RelV x u/\J.yld i H x H'/\tn (i+1) s2.heap/\∀b∈fp,H' b=Y) E s1) E s
 done:∀(X:Cx),X.prog=P->X.w=w->X.K=K->X.calm=true->∀(i:Nat)(cp:T1)(s:Ub)(σ:St)(H:Hp)(E:T0),Inv X cp σ H s->(∀b∈fp,nE X cp H b)->tn i s.heap->J.stop i H->
  bz (bx P w) X.A (pyNext (.ref it)) (λr s1=>r=Y/\Inv X cp σ H s1) E s
 self:∀(A:Uf)(i:Nat)(s:Ub)(Q:T0)(E:T0),tn i s.heap->Q (.ref it) s->bz (bx P w) A (pyIter (.ref it)) Q E s
abbrev TI:=St->Hp->(It->Hp->Prop)->Prop
def PIE(X:Cx)(cp:T1)(σ:St)(tg:Ud)(R:It->Hp->Prop)(a:Tz)(s2:Ub):Prop:=
 ∃(it:Uc)(fp:Tb)(tn:Nat->Heap->Prop)(J:It)(H':Hp),a=.ref it/\Inv X cp σ H' s2/\Turn X.prog X.w X.K tg J fp it tn/\tn 0 s2.heap/\(∀b∈fp,nE X cp H' b)/\R J H'
def PI(X:Cx)(tg iter:Ud)(a:TI):Prop:=
 ∀(cp:T1)(s:Ub)(σ:St)(H:Hp)(R:It->Hp->Prop),Inv X cp σ H s->a σ H R->
  bz (bx X.prog X.w) X.A (eval iter X.env) (λv s1=>bz (bx X.prog X.w) X.A (pyIter v) (PIE X cp σ tg R) X.xe s1) X.xe s
def WW{A:Uf}{it:Uc}{o:Obj}{Q:Unit->Ub->Prop}(b:s.heap.get? it=Z o)(c:o.cls=.type n)(hd:o.data=.fields vs)
 (hn:["enumerate","zip","dict_itemiterator","dict_reverseitemiterator","odict_iterator","itertools.zip_longest","itertools.pairwise"].contains n=false) (a:Q () s):bz M A (ci tg (.ref it) u) Q E s:=by
 cases tg<;>first
  |exact A4 a
  |(cases u<;>first
   |exact A4 a
   | (refine A1 (wpAny_load b ?_)
      rw[c,hd];show bz M A (if (["enumerate","zip","dict_itemiterator","dict_reverseitemiterator","odict_iterator","itertools.zip_longest","itertools.pairwise"].contains n&&vs[0]?==Z (rawInt _))=true then _ else _) Q E s;rw[B7 68];exact A4 a))
def Itl(K:Fg)(a:Uc):It:=
 ⟨λi H=>∃xs x,SqL K H a xs/\xs[i]?=Z x,λi H x H'=>H'=H/\∀xs,SqL K H a xs->xs[i]?=Z x,λi H=>∃xs,SqL K H a xs/\xs.length<=i⟩
def Itt(K:Fg)(a:Uc):It:=
 ⟨λi H=>∃xs x,SqT K H a xs/\xs[i]?=Z x,λi H x H'=>H'=H/\∀xs,SqT K H a xs->xs[i]?=Z x,λi H=>∃xs,SqT K H a xs/\xs.length<=i⟩
noncomputable def Itr(lo:Int)(n:Nat):It:=⟨λi _=>i<n,λi H x H'=>H'=H/\x=.int (lo+i),λi _=>n<=i⟩
def aBv{P:Ue}(a it:Uc):Turn P w K tg (Itl K a) [it] it (λi h=>h.IsListIter it a i) where
 mem:=67
 obj:=λi h st b hb=>by
  have e:b=it:=68
  subst e;let⟨o,e,c,d⟩:=st;exact⟨o,e,λv z=>by rw[d]at z;cases z⟩
 keep:=λi h h' st k=>st.at λo e=>k it 67 o e
 item:=by
  intro X hP hw hK hc i cp s σ H E I hf st hg;subst hP hw hK;let⟨xs,x,hq,hx⟩:=hg;let⟨its,rv,p,hz⟩:=I.list hq;let⟨u,hu,ru⟩:=rv.get hx;let⟨f0,f1,f2,f3,f4,f5⟩:=hf it 67;refine wpAny_pyNext_list_item st p.isList (by simp;omega) λh' st' sb=>?_;have I1:=I.turned (t':=s.toks) (λb o hb e=>(sb.2 b hb).trans e) f0 f1 f3 f4 f5;let⟨o,e,c,d⟩:=id st';exact⟨u,rfl,WW e c d 66 ⟨x,H,I1,ru,⟨rfl,λys hy=>by rw[I.list_inj hy hq];exact hx⟩,st',λb hb=>(hf b hb).1⟩⟩
 done:=by
  intro X hP hw hK hc i cp s σ H E I hf st hg;subst hP hw hK;let⟨xs,hq,hx⟩:=hg;let⟨its,rv,p,hz⟩:=I.list hq;let⟨f0,f1,f2,f3,f4,f5⟩:=hf it 67;have hl:=rv.length;exact wpAny_pyNext_list_end (I.ok.hd hc) st p.isList 68 λh' eb=>⟨rfl,I.turned (λb o hb e=>eb b o hb e) f0 f1 f3 f4 f5⟩
 self:=λ_ _ _ _ _ st h=>wpAny_pyIter_listiter st h
def WD{P:Ue}(a it:Uc):Turn P w K tg (Itt K a) [it] it (λi h=>h.IsTupleIter it a i) where
 mem:=67
 obj:=λi h st b hb=>by
  have e:b=it:=68
  subst e;let⟨o,e,c,d⟩:=st;exact⟨o,e,λv z=>by rw[d]at z;cases z⟩
 keep:=λi h h' st k=>st.at λo e=>k it 67 o e
 item:=by
  intro X hP hw hK hc i cp s σ H E I hf st hg;subst hP hw hK;let⟨xs,x,hq,hx⟩:=hg;let⟨its,rv,p,hz⟩:=I.tuple hq;let⟨u,hu,ru⟩:=rv.get hx;let⟨f0,f1,f2,f3,f4,f5⟩:=hf it 67;refine wpAny_pyNext_tuple_item st p (by simp;omega) λh' st' sb=>?_;have I1:=I.turned (t':=s.toks) (λb o hb e=>(sb.2 b hb).trans e) f0 f1 f3 f4 f5;let⟨o,e,c,d⟩:=id st';exact⟨u,rfl,WW e c d 66 ⟨x,H,I1,ru,⟨rfl,λys hy=>by rw[I.tuple_inj hy hq];exact hx⟩,st',λb hb=>(hf b hb).1⟩⟩
 done:=by
  intro X hP hw hK hc i cp s σ H E I hf st hg;subst hP hw hK;let⟨xs,hq,hx⟩:=hg;let⟨its,rv,p,hz⟩:=I.tuple hq;let⟨f0,f1,f2,f3,f4,f5⟩:=hf it 67;have hl:=rv.length;exact wpAny_pyNext_tuple_end (I.ok.hd hc) st p 68 λh' eb=>⟨rfl,I.turned (λb o hb e=>eb b o hb e) f0 f1 f3 f4 f5⟩
 self:=λ_ _ _ _ _ st h=>wpAny_pyIter_tupleiter st h
def UV{P:Ue}(it:Uc)(lo:Int)(n:Nat):Turn P w K tg (Itr lo n) [it] it (λi h=>IsRangeIter h it (lo+(i:Nat)*1) ((n:Int)-(i:Nat)) 1) where
 mem:=67
 obj:=λi h st b hb=>by
  have e:b=it:=68
  subst e
  exact⟨_,st,λv z=>by
   have z':=z;cases z'⟩
 keep:=λi h h' st k=>k it 67 _ st
 item:=by
  intro X hP hw hK hc i cp s σ H E I hf st hg;subst hP hw hK;let⟨f0,f1,f2,f3,f4,f5⟩:=hf it 67;have W:=Walks.range (prog:=X.prog) (w:=X.w) (I.ok.hd hc) it lo 1 n;refine W.item i s _ _ hg st λv h' tk hv st' kk=>?_;let⟨t,rfl⟩:=hv;have I1:Inv X cp σ H { s with heap:=h',toks:=tk }:=I.turned (λb o hb e=>kk b o 68 e) f0 f1 f3 f4 f5;refine⟨_,rfl,WW st' rfl rfl 66 ⟨.int (lo+i),H,I1,⟨t,?_⟩,⟨rfl,rfl⟩,st',λb hb=>(hf b hb).1⟩⟩;rw[Int.mul_one]
 done:=by
  intro X hP hw hK hc i cp s σ H E I hf st hg;subst hP hw hK;let⟨f0,f1,f2,f3,f4,f5⟩:=hf it 67;exact wpAny_pyNext_range_end (I.ok.hd hc) st (by have:n<=i:=hg;omega) λh' eb=>⟨rfl,I.turned (λb o hb e=>eb b o hb e) f0 f1 f3 f4 f5⟩
 self:=λ_ _ _ _ _ st h=>wpAny_pyIter_rangeiter st h
section
variable{X:Cx}{tg:Ud}
def OM{R:It->Hp->Prop}{E:T0}{lo hi:Int}{t u v:Tok}{c:Nat}(I:Inv X cp σ H s)(d:-(2 ^ 62)<=lo)(f:lo<2 ^ 62)(g:-(2 ^ 62)<=hi)(h:hi<2 ^ 62)
 (q:R (Itr lo (hi-lo).toNat) H):bz (bx X.prog X.w) X.A (pyIter (.ref s.heap.objs.size)) (PIE X cp σ tg R) E { s with heap:=s.heap.push { cls:=.type "range",data:=.fields #[.int lo t,.int hi u,.int 1 v] },toks:=c }:=by
 refine wpAny_pyIter_range (IsRange.new ..) (small_one d f g h) ?_;have a:Inv X cp σ H { s with heap:=s.heap.push { cls:=.type "range",data:=.fields #[.int lo t,.int hi u,.int 1 v] },toks:=c }:=I.kept λb o e=>A3 _ e
 refine⟨(s.heap.push { cls:=.type "range",data:=.fields #[.int lo t,.int hi u,.int 1 v] }).objs.size,[(s.heap.push { cls:=.type "range",data:=.fields #[.int lo t,.int hi u,.int 1 v] }).objs.size],_,_,H,rfl,
  a.kept λb o e=>A3 _ e,UV _ lo (hi-lo).toNat,?_,λb k=>?_,q⟩
 .have i:lo+((0:Nat):Int)*1=lo:=67
  have j:(((hi-lo).toNat:Nat):Int)-((0:Nat):Int)=Builtin.Range.rangeSize lo hi 1:=by rw[rangeSize_one];split<;>omega
  rw[i,j];exact B5 _ rfl
 .have e:b=(s.heap.push { cls:=.type "range",data:=.fields #[.int lo t,.int hi u,.int 1 v] }).objs.size:=68
  subst e;exact a.fpOk (B3 _)<|a.hok.fresh<|B3 _
def aJp(a:TA):TI:=λσ H R=>a σ H λvs b=>∃j:Int,vs=[.int j]/\-(2 ^ 62)<=j/\j<2 ^ 62/\R (Itr 0 j.toNat) b
def aJE(a:TA):TI:=λσ H R=>a σ H λvs b=>∃i j:Int,vs=[.int i,.int j]/\(-(2 ^ 62)<=i/\i<2 ^ 62/\-(2 ^ 62)<=j/\j<2 ^ 62)/\R (Itr i (j-i).toNat) b
def aBX{a:Ud}{c:TA}{p:Pos}(d:Gl X "range")(hm:X.mg "range"=Y)(ha:PA X [a] c)(hs:cb [a] X.env=[(false,eval a X.env)]:=by rfl):PI X tg (.Call (.Name "range" p) [a] [] pos) (aJp c):=by
 intro cp s σ H R I h;refine Call_<|iI I d hm boot_range<|F9 (thn (ha pos cp s σ H _ I h) λus s1 ⟨vs,l,f,g,b⟩=>?_) hs rfl;let⟨j,e,b,i,q⟩:=b;subst e;cases g with
 |cons r k=>
  cases k;let⟨t,rfl⟩:=r;exact call_range_1<|OM f 61 61 b i 68
def aBg{a b:Ud}{g:TA}{p pos:Pos}(k:Gl X "range")(hm:X.mg "range"=Y)(ha:PA X [a,b] g)(hs:cb [a,b] X.env=[(false,eval a X.env),(false,eval b X.env)]:=by rfl)(c:cb [b] X.env=[(false,eval b X.env)]:=by rfl):
 PI X tg (.Call (.Name "range" p) [a,b] [] pos) (aJE g):=by
 intro cp s σ H R I h;refine Call_<|iI I k hm boot_range<|F9 (thn (ha pos cp s σ H _ I h) λus s1 ⟨vs,w,l,m,d⟩=>?_) 68 (by rw[c];rfl);let⟨i,j,e,⟨d,n,o,u⟩,q⟩:=d;subst e;cases m with
 |cons r f=>
  cases f with
  |cons v f=>
   cases f;let⟨t,rfl⟩:=r;let⟨x,rfl⟩:=v;exact call_range_2<|OM l d n o u q
def aPR(d:TI)(g:TG)(tb:TS):TS:=λD σ H=>d σ H λJ e=>∃W:Nat->Nat->St->Hp->Prop,(∃m,W 0 m σ e)/\∀i m σ H,W i m σ H->
 (J.stop i H/\D.nx σ H)\/(J.go i H/\∃N:St->Hp->Prop,(∀a H',N a H'->∃c,c<m/\W (i+1) c a H')/\∀x H',J.yld i H x H'->g x σ H' λb f=>tb { D with nx:=N,ct:=N,bk:=D.nx } b f)
noncomputable def qY(fp:Tb)(h:Heap):T1:=fp.filterMap λb=>(h.get? b).map λo=>(b,o)
def cX{fp:Tb}{h:Heap}{b:Uc}{o:Obj}(a:b∈fp)(e:h.get? b=Z o):(b,o)∈qY fp h:=Z9.mpr ⟨b,a,by rw[e];rfl⟩
def JH{p:Uc×Obj}(a:p∈qY fp h):p.1∈fp/\h.get? p.1=Z p.2:=by
 let⟨b,c,e⟩:=Z9.mp a;cases q:h.get? b with
 |none=>rw[q]at e;cases e
 |some o=>
  rw[q]at e;have d:=E5 e;subst d;exact⟨c,q⟩
def Inv.pinned{fp:Tb}(I:Inv X cp σ H s)(f:∀b∈fp,nE X cp H b)(g:∀b∈fp,∃o,s.heap.get? b=Z o/\∀v,o.data≠.cell v):Inv X (cp++qY fp s.heap) σ H s:=
 I.pins_of λp h=>(D5.mp h).elim (λz=>I.pin p<|B1 _ z) λz=>by
  let⟨a,e⟩:=JH z;let⟨f0,f1,f2,_⟩:=f p.1 a;let⟨o,c,d⟩:=g p.1 a;rw[e]at c;cases c;exact⟨e,f0,f1,f2,d⟩
def Inv.unpinned{cp a:T1}(I:Inv X (cp++a) σ H s):Inv X cp σ H s:=I.pins_of λp b=>I.pin p<|B1 _<|E2 _ b
def aMp{iter:Ud}{t:Ta}{S:TI}{g:TG}{tb:TS}{pos:Pos}(B:PassesOwn (bx X.prog X.w) X.A X.env X.xe)(U:X.calm=true)(hi:PI X tg iter S)(hg:PG X tg g)(c:PSs X t tb)
 (hs:∀x,cc iter X.env x=pure x:=by intro _;rfl):PS X (.For tg iter t [] pos) (aPR S g tb):=by
 intro cp s σ H D I h;refine wpAny_For (thn (hi cp s σ H _ I h) λv s1 h1=>thn h1 λa0 s2 h2=>?_) hs;let⟨it,fp,tn,J,H2,e,I2,T,M,f2,W,⟨m0,w0⟩,C⟩:=h2;subst e;have j:∀{H':Hp},(∀b∈fp,H' b=Y)->∀b∈fp,nE X cp H' b:=λhn b c=>⟨hn b c,(f2 b c).2⟩;refine codeAny_forLoop_any (λn s'=>∃i k H',Inv X cp k H' s'/\tn i s'.heap/\(∀b∈fp,H' b=Y)/\W i n k H') ?_ m0 ⟨0,σ,H2,I2,M,λb c=>(f2 b c).1,w0⟩;rintro n s3 ⟨i,l,L,V,E,F,w3⟩;obtain⟨stop,qn⟩|⟨go,N,hN,step⟩:=C i n l L w3
 .refine A1h B (thn (T.done X rfl rfl rfl U i cp s3 l L X.xe V (j F) E stop) λr s4 ⟨O,I4⟩=>?_);subst O;exact A2v ⟨l,L,I4,qn⟩
 .refine A1h B (thn (T.item X rfl rfl rfl U i cp s3 l L X.xe V (j F) E go) λr s4 ⟨u,O,h4⟩=>?_);subst O;refine A1h B (thn h4 λ_ s5 ⟨x,H5,I5,r5,y5,z,P⟩=>?_);have Q:=I5.pinned (j P)<|T.obj _ _ z;refine A1h B (thn (hg _ s5 l H5 x u _ Q r5<|step x H5 y5) λ_ s6 ⟨R,H6,I6,q6⟩=>?_);refine A1h B (thn (c _ s6 R H6 _ I6 q6) λf s7 y=>?_)
  have again:∀{a:St}{p:Hp},Inv X (cp++qY fp s5.heap) a p s7->N a p->∃m,m<n/\∃i k H',Inv X cp k H' s7/\tn i s7.heap/\(∀b∈fp,H' b=Y)/\W i m k H':=λ{a p} q G=>by
   let⟨m',hm,w7⟩:=hN a p G;refine⟨m',hm,i+1,a,p,q.unpinned,T.keep _ _ _ z λb c o e=>(q.pin (b,o)<|B1 _<|B1 _<|cX c e).1,λb c=>?_,w7⟩;let⟨o,e,d⟩:=T.obj _ _ z b c;exact(q.pin (b,o)<|B1 _<|B1 _<|cX c e).2.1
  cases f with
  |next=>let⟨a,p,q,G⟩:=y;exact again q G
  |cont=>let⟨a,p,q,G⟩:=y;exact again q G
  |brk=>let⟨a,p,q,y⟩:=y;exact⟨a,p,q.unpinned,y⟩
  |ret v=>let⟨x7,a,p,q,r7,y⟩:=y;exact⟨x7,a,p,q.unpinned,r7,y⟩
end
abbrev R2:=V->V->Hp->VK->Prop
def OpR(X:Cx)(f:Tn)(r:R2):Prop:=
 ∀(cp:T1)(s:Ub)(σ:St)(H:Hp)(x y:V)(v u:Tz)(Q:VK),Inv X cp σ H s->RelV x v->RelV y u->r x y H Q->
  bz (bx X.prog X.w) X.A (f v u) (EP X cp σ Q) X.xe s
def UnR(X:Cx)(f:Tz->Sem Tz)(r:V->Hp->VK->Prop):Prop:=
 ∀(cp:T1)(s:Ub)(σ:St)(H:Hp)(x:V)(v:Tz)(Q:VK),Inv X cp σ H s->RelV x v->r x H Q->
  bz (bx X.prog X.w) X.A (f v) (EP X cp σ Q) X.xe s
def dH(X:Cx)(f:Tz)(r:Td->Hp->VK->Prop):Prop:=
 ∀(cp:T1)(s:Ub)(σ:St)(H:Hp)(xs:Td)(us:T4)(Q:VK),Inv X cp σ H s->bE xs us->r xs H Q->
  bz (bx X.prog X.w) X.A (call f us) (EP X cp σ Q) X.xe s
def aQX(X:Cx)(r:V->Hp->(Bool->Hp->Prop)->Prop):Prop:=
 ∀(cp:T1)(s:Ub)(σ:St)(H:Hp)(x:V)(v:Tz)(Q:Bool->Hp->Prop),Inv X cp σ H s->RelV x v->r x H Q->
  bz (bx X.prog X.w) X.A (truthy v) (TP X cp σ Q) X.xe s
noncomputable def tOp(r:R2)(a tb:TE):TE:=λσ H Q=>a σ H λx b=>tb σ b λy c=>r x y c Q
noncomputable def tUn(r:V->Hp->VK->Prop)(a:TE):TE:=λσ H Q=>a σ H λx b=>r x b Q
noncomputable def rI(C:Int->Int->Prop)(g:Int->Int->V):R2:=λx y H Q=>∃i j,x=.int i/\y=.int j/\C i j/\Q (g i j) H
noncomputable def rI0(g:Int->Int->V):R2:=λx y H Q=>∃i j,x=.int i/\y=.int j/\Q (g i j) H
def rU(g:Int->V):V->Hp->VK->Prop:=λx H Q=>∃i,x=.int i/\Q (g i) H
section
variable{X:Cx}{a b c:Ud}{ta tb tc:TE}{pos:Pos}
def aNu(ha:PE X a ta)(j:PE X b tb){cp:T1}{R:V->V->Hp->Prop}(I:Inv X cp σ H s)
 (h:ta σ H λx i=>tb σ i λy d=>R x y d) {Q:T0} {f:Tn}
 (k:∀v u s2 x y d,Inv X cp σ d s2->RelV x v->RelV y u->R x y d->bz (bx X.prog X.w) X.A (f v u) Q X.xe s2):
 bz (bx X.prog X.w) X.A (eval a X.env) (λv e=>bz (bx X.prog X.w) X.A (eval b X.env) (λu g=>bz (bx X.prog X.w) X.A (f v u) Q X.xe g) X.xe e) X.xe s:=by
 refine thn (ha cp s σ H _ I h) λv s1 ⟨x,i,l,m,n⟩=>?_;refine thn (j cp s1 σ i _ l n) λu s2 ⟨y,d,o,p,q⟩=>?_;exact k v u s2 x y d o m p q
def aNX(d:OpR X (binaryOp op) r)(ha:PE X a ta)(e:PE X b tb):PE X (.BinOp a op b pos) (tOp r ta tb):=by
 intro cp s σ H Q I h;exact wpAny_BinOp (aNu ha e I h λv u s2 x y f g i j q=>d cp s2 σ f x y v u Q g i j q)
def aPS{op:UnaryOp}{r:V->Hp->VK->Prop}(d:UnR X (unaryOp op) r)(ha:PE X a ta):PE X (.UnaryOp op a pos) (tUn r ta):=by
 intro cp s σ H Q I h;exact UnaryOp_ (thn (ha cp s σ H _ I h) λv s1 ⟨x,e,f,g,i⟩=>d cp s1 σ e x v Q f g i)
def opI{f:Tn}{C:Int->Int->Prop}{g:Int->Int->Int}
 (rule:∀(i j:Int)(t u:Tok)(s:Ub)(Q:T0)(E:T0),C i j->Q (.int (g i j) s.toks) { s with toks:=s.toks+1 }->bz (bx X.prog X.w) X.A (f (.int i t) (.int j u)) Q E s):
 OpR X f (rI C λi j=>.int (g i j)):=by
 intro cp s σ H x y v u Q I d e h;let⟨i,j,rfl,rfl,k,q⟩:=h;let⟨t,rfl⟩:=d;let⟨l,rfl⟩:=e;exact rule i j t l s _ _ k ⟨.int (g i j),H,I.tok _,⟨_,rfl⟩,q⟩
def aPq{f:Tn}{g:Int->Int->Int}
 (rule:∀(i j:Int)(t u:Tok)(s:Ub)(Q:T0)(E:T0),Q (.int (g i j) s.toks) { s with toks:=s.toks+1 }->bz (bx X.prog X.w) X.A (f (.int i t) (.int j u)) Q E s):
 OpR X f (rI0 λi j=>.int (g i j)):=by
 intro cp s σ H x y v u Q I d e h;let⟨i,j,rfl,rfl,q⟩:=h;let⟨t,rfl⟩:=d;let⟨k,rfl⟩:=e;exact rule i j t k s _ _ ⟨.int (g i j),H,I.tok _,⟨_,rfl⟩,q⟩
def aJf{f:Tn}{g:Int->Int->Bool}
 (rule:∀(i j:Int)(t u:Tok)(s:Ub)(Q:T0)(E:T0),Q (.bool (g i j)) s->bz (bx X.prog X.w) X.A (f (.int i t) (.int j u)) Q E s):
 OpR X f (rI0 λi j=>.bl (g i j)):=by
 intro cp s σ H x y v u Q I d e h;let⟨i,j,rfl,rfl,q⟩:=h;let⟨t,rfl⟩:=d;let⟨k,rfl⟩:=e;exact rule i j t k s _ _ ⟨.bl (g i j),H,I,rfl,q⟩
def aOO(i j:Int):Prop:=0<=j/\j<=1000000/\i.natAbs<2 ^ 64
def aMK(i j:Int):Prop:=(-(2 ^ 64)<i/\i<2 ^ 64)\/(-(2 ^ 64)<j/\j<2 ^ 64)
def aMK.ok(h:aMK i j):IntMulOk i j:=by
 obtain⟨d,e⟩|⟨d,e⟩:=h
 .exact .of_left (intBits_le_64 d e)
 .exact .of_right (intBits_le_64 d e)
def op_add:OpR X (binaryOp .Add) (rI0 λi j=>.int (i+j)):=aPq λ_ _ _ _ _ _ _ q=>add_int q
def aKy:OpR X (binaryOp .Sub) (rI0 λi j=>.int (i-j)):=aPq λ_ _ _ _ _ _ _ q=>sub_int q
def aKT:OpR X (binaryOp .Mod) (rI (λ_ j=>0<j) λi j=>.int (i % j)):=opI λi j _ _ _ _ _ d q=>by
 exact mod_int' 61 68
def aNm:OpR X (binaryOp .Pow) (rI aOO λi j=>.int (i ^ j.toNat)):=opI λ_ _ _ _ _ _ _ d q=>pow_int_small d.1 d.2.1 d.2.2 q
def unI{f:Tz->Sem Tz}{g:Int->Int}
 (rule:∀(i:Int)(t:Tok)(s:Ub)(Q:T0)(E:T0),Q (.int (g i) s.toks) { s with toks:=s.toks+1 }->bz (bx X.prog X.w) X.A (f (.int i t)) Q E s):
 UnR X f (rU λi=>.int (g i)):=by
 intro cp s σ H x v Q I d h;let⟨i,rfl,q⟩:=h;let⟨t,rfl⟩:=d;exact rule i t s _ _ ⟨.int (g i),H,I.tok _,⟨_,rfl⟩,q⟩
def aLC:UnR X (unaryOp .USub) (rU λi=>.int (-i)):=unI λ_ _ _ _ _ q=>neg_int q
end
noncomputable def aPE:V->V->Bool
 |.non,.non=>true|.non,.int _=>true|.int _,.non=>true|.non,.bl _=>true|.bl _,.non=>true|.non,.str _=>true|.str _,.non=>true
 |.int _,.int _=>true|.bl _,.bl _=>true|.str _,.str _=>true|.byt _,.byt _=>true
 |.int _,.str _=>true|.str _,.int _=>true|.bl _,.str _=>true|.str _,.bl _=>true
 |_,_=>false
def rEq:R2:=λx y H Q=>aPE x y=true/\Q (.bl (decide (x=y))) H
def rNe:R2:=λx y H Q=>aPE x y=true/\Q (.bl (!decide (x=y))) H
def ZG:decide (V.int i=V.int j)=(i==j):=by
 rw[A0y];simp
def aDL:decide (V.bl i=V.bl j)=(i==j):=by
 rw[A0y];simp
def XX:decide (V.str i=V.str j)=(i==j):=by
 rw[A0y];simp
def aAq:decide (V.byt i=V.byt j)=(i.toList==j.toList):=by
 rw[A0y];cases i;cases j;simp
section
variable{X:Cx}{a b c:Ud}{ta tb tc:TE}{pos:Pos}
def cC{Q:VK}{k':Bool}(I:Inv X cp σ H s)(q:Q (.bl k) H)(e:k=k'):EP X cp σ Q (.bool k') s:=by
 subst e;exact⟨.bl k,H,I,rfl,q⟩
def op_eq:OpR X (cf .Eq) rEq:=by
 intro cp s σ H x y v u Q I f d h;let⟨hs,q⟩:=h;cases x with
 |non=>
  cases f;cases y with
  |non=>cases d;exact PySem.EqNone.eq_none_none<|cC I q 67
  |bl j=>cases d;exact PySem.EqNone.eq_none_bool<|cC I q 67
  |int j=>let⟨e,rfl⟩:=d;exact PySem.EqNone.eq_none_int<|cC I q 67
  |str j=>let⟨e,rfl⟩:=d;exact PySem.EqNone.eq_none_str<|cC I q 67
  |_=>exact absurd hs C4
 |bl i=>
  cases f;cases y with
  |non=>cases d;exact PySem.EqNone.eq_bool_none<|cC I q 67
  |bl j=>cases d;exact eq_bool<|cC I q aDL
  |str j=>let⟨e,rfl⟩:=d;exact PySem.EqMixed.eq_bool_str<|cC I q 67
  |_=>exact absurd hs C4
 |int i=>
  let⟨t,rfl⟩:=f;cases y with
  |non=>cases d;exact PySem.EqNone.eq_int_none<|cC I q 67
  |int j=>let⟨e,rfl⟩:=d;exact eq_int<|cC I q ZG
  |str j=>let⟨e,rfl⟩:=d;exact PySem.EqMixed.eq_int_str<|cC I q 67
  |_=>exact absurd hs C4
 |str i=>
  let⟨t,rfl⟩:=f;cases y with
  |non=>cases d;exact PySem.EqNone.eq_str_none<|cC I q 67
  |bl j=>cases d;exact PySem.EqMixed.eq_str_bool<|cC I q 67
  |int j=>let⟨e,rfl⟩:=d;exact PySem.EqMixed.eq_str_int<|cC I q 67
  |str j=>let⟨e,rfl⟩:=d;exact eq_str<|cC I q XX
  |_=>exact absurd hs C4
 |byt i=>
  let⟨t,rfl⟩:=f;cases y with
  |byt j=>let⟨e,rfl⟩:=d;exact W.eq_bytes<|cC I q aAq
  |_=>exact absurd hs C4
 |_=>cases y<;>exact absurd hs C4
def op_ne:OpR X (cf .NotEq) rNe:=by
 intro cp s σ H x y v u Q I f d h;let⟨hs,q⟩:=h;cases x with
 |non=>
  cases f;cases y with
  |non=>cases d;exact PySem.EqNone.ne_none_none<|cC I q 67
  |bl j=>cases d;exact PySem.EqNone.ne_none_bool<|cC I q 67
  |int j=>let⟨e,rfl⟩:=d;exact PySem.EqNone.ne_none_int<|cC I q 67
  |str j=>let⟨e,rfl⟩:=d;exact PySem.EqNone.ne_none_str<|cC I q 67
  |_=>exact absurd hs C4
 |bl i=>
  cases f;cases y with
  |non=>cases d;exact PySem.EqNone.ne_bool_none<|cC I q 67
  |bl j=>cases d;exact ne_bool<|cC I q<|Z7 not aDL
  |str j=>let⟨e,rfl⟩:=d;exact PySem.EqMixed.ne_bool_str<|cC I q 67
  |_=>exact absurd hs C4
 |int i=>
  let⟨t,rfl⟩:=f;cases y with
  |non=>cases d;exact PySem.EqNone.ne_int_none<|cC I q 67
  |int j=>let⟨e,rfl⟩:=d;exact ne_int<|cC I q<|Z7 not ZG
  |str j=>let⟨e,rfl⟩:=d;exact PySem.EqMixed.ne_int_str<|cC I q 67
  |_=>exact absurd hs C4
 |str i=>
  let⟨t,rfl⟩:=f;cases y with
  |non=>cases d;exact PySem.EqNone.ne_str_none<|cC I q 67
  |bl j=>cases d;exact PySem.EqMixed.ne_str_bool<|cC I q 67
  |int j=>let⟨e,rfl⟩:=d;exact PySem.EqMixed.ne_str_int<|cC I q 67
  |str j=>let⟨e,rfl⟩:=d;exact ne_str<|cC I q<|Z7 not XX
  |_=>exact absurd hs C4
 |byt i=>
  let⟨t,rfl⟩:=f;cases y with
  |byt j=>let⟨e,rfl⟩:=d;exact W.ne_bytes<|cC I q<|Z7 not aAq
  |_=>exact absurd hs C4
 |_=>cases y<;>exact absurd hs C4
def aPX:OpR X (cf .Lt) (rI0 λi j=>.bl (decide (i<j))):=aJf λ_ _ _ _ _ _ _ q=>lt_int q
def aOb:OpR X (cf .LtE) (rI0 λi j=>.bl (decide (i<=j))):=aJf λ_ _ _ _ _ _ _ q=>le_int q
def aOX:OpR X (cf .Gt) (rI0 λi j=>.bl (decide (j<i))):=aJf λ_ _ _ _ _ _ _ q=>gt_int q
def aPo:OpR X (cf .GtE) (rI0 λi j=>.bl (decide (j<=i))):=aJf λ_ _ _ _ _ _ _ q=>ge_int q
def OpR.or(h:OpR X f r)(h':OpR X f d):OpR X f (λx y H Q=>r x y H Q\/d x y H Q):=by
 intro cp s σ H x y v u Q I e g q;obtain q|q:=q
 .exact h cp s σ H x y v u Q I e g q
 .exact h' cp s σ H x y v u Q I e g q
def aIj(d:OpR X (cf op) r)(ha:PE X a ta)(e:PE X b tb)(hm:behindInMarks op b=false):PE X (.Compare a [op] [b] pos) (tOp r ta tb):=by
 intro cp s σ H Q I h;exact wpAny_Compare1 (aNu ha e I h λv u s2 x y f g i j q=>d cp s2 σ f x y v u Q g i j q) hm
noncomputable def aJF(t:TE):TT:=λσ H Q=>t σ H λx H'=>∃k,x=.bl k/\Q k H'
def aHa{op:CmpOp}{r:R2}(d:OpR X (cf op) r)(ha:PE X a ta)(f:PE X b tb)(hm:behindInMarks op b=false):PT X (.Compare a [op] [b] pos) (aJF<|tOp r ta tb):=by
 intro cp s σ H Q I h
 refine wpAny_isTrue_Compare1 (thn (ha cp s σ H _ I h) λv s1 ⟨x,g,i,j,l⟩=>thn (f cp s1 σ g _ i l) λu s2 ⟨y,m,n,o,p⟩=>
  thn (d cp s2 σ m x y v u _ n j o p) λc s3 ⟨z,q,t,w,k,e,B⟩=>?_) hm
 subst e;cases w;exact A0h ⟨q,t,B⟩
noncomputable def aCP(r e:R2)(ta tb tc:TE):TE:=λσ H Q=>ta σ H λx f=>tb σ f λy g=>r x y g λz d=>∃k,z=.bl k /\
 (if k=true then tc σ d λh i=>e y h i Q else Q (.bl false) d)
def aEy{op f:CmpOp}{r i:R2}(o:OpR X (cf op) r)(g:OpR X (cf f) i)(ha:PE X a ta)(p:PE X b tb)(q:PE X c tc)
 (hm:lastMarks [op,f] [b,c]=false:=by with_unfolding_all rfl):PE X (.Compare a [op,f] [b,c] pos) (aCP r i ta tb tc):=by
 intro cp s σ H Q I h
 refine Compare_chain (thn (ha cp s σ H _ I h) λv s1 ⟨x,t,w,B,C⟩=>chain_link (thn (p cp s1 σ t _ w C) λu s2 ⟨y,D,E,j,F⟩=>
  thn (o cp s2 σ D x y v u _ E B j F) λd s3 ⟨z,l,m,G,k,e,n⟩=>?_)) hm
 subst e;cases G;refine A0h ?_;cases k with
 |false=>exact ite_ff ⟨.bl false,l,m,rfl,n⟩
 |true=>exact ite_tt<|chain_last (thn (q cp s3 σ l _ m n) λJ s4 ⟨L,M,N,O,P⟩=>g cp s4 σ M y L u J Q N j O P)
def aIs(K:Fg)(x:V)(H:Hp)(k:Bool):Prop:=
 match x with
 |.non=>k=false
 |.bl b=>k=b
 |.int i=>k=(i != 0)
 |.str y=>y.length<=bv/\k=((y.length:Int) != 0)
 |.byt y=>y.size<=bv/\k=((y.size:Int) != 0)
 |.ref p=>(∃xs,SqL K H p xs/\k=!xs.isEmpty)\/(∃xs,SqT K H p xs/\k=!xs.isEmpty)\/∃kvs,H p=Z (.dK kvs)/\k=!kvs.isEmpty
 |_=>False
def VZ{d:Type}{kvs:Tv (d×V)}{vs:Tv (d×Tz)}(r:KV kvs vs):(!vs.isEmpty)=!kvs.isEmpty:=by
 cases r<;>rfl
def DQ(r:bE xs its):(!its.toArray.isEmpty)=!xs.isEmpty:=by
 cases r<;>simp
def FE:(bv:Nat)<2 ^ 63:=by rw[J7];decide
def aLD:aQX X (λx H Q=>∃k,aIs X.K x H k/\Q k H):=by
 intro cp s σ H x v Q I g h;let⟨k,e,q⟩:=h;have hs:=J7;cases x with
 |non=>
  cases g;have d:=e;subst d;exact truthy_none ⟨H,I,q⟩
 |bl b=>
  cases g;have d:=e;subst d;exact A0h ⟨H,I,q⟩
 |int i=>
  let⟨t,rfl⟩:=g;have d:=e;subst d;exact PySem.P.truthy_int ⟨H,I,q⟩
 |str y=>
  let⟨t,rfl⟩:=g;let⟨o,d⟩:=e;subst d;exact PySem.P.truthy_str 61 ⟨H,I.tok _,q⟩
 |byt y=>
  let⟨t,rfl⟩:=g;let⟨o,d⟩:=e;subst d;exact W.truthy_bytes 61 ⟨H,I.tok _,q⟩
 |ref p=>
  cases g;have d:=e;obtain⟨xs,j,d⟩|⟨xs,j,d⟩|⟨kvs,j,d⟩:=d
  .subst d;let⟨its,r,l,n⟩:=I.list j;have f:=r.length;exact wpAny_truthy_list l.isList 68 ⟨H,I.tok _,by rw[DQ r];exact q⟩
  .subst d;let⟨its,r,l,n⟩:=I.tuple j;have f:=r.length;exact truthy_tuple l 68 ⟨H,I.tok _,by rw[DQ r];exact q⟩
  .subst d;let⟨n,hS,vs,r,m⟩:=I.hok p _ j;have f:=A2o r;exact wpAny_truthy_dict hS m 61 ⟨H,I.tok _,by rw[VZ r];exact q⟩
 |_=>exact e.elim
def aDA(ha:PE X a ta)(e:∀d,isTrue a X.env d=(do let v <- d;standAt a.pos;holding [v]<|truthy v)):
 PT X a (λσ H Q=>ta σ H λx H'=>∃k,aIs X.K x H' k/\Q k H'):=by
 intro cp s σ H Q I h;exact isTrue_plain (thn (ha cp s σ H _ I h) λv s1 ⟨x,f,g,i,j⟩=>aLD cp s1 σ f x v Q g i j)<|e _
def vals1{x:V}{us:T4}(r:bE [x] us):∃u,us=[u]/\RelV x u:=by
 cases r with
 |cons d e=>cases e;exact⟨_,rfl,d⟩
def vals2{x y:V}{us:T4}(r:bE [x,y] us):∃u d,us=[u,d]/\RelV x u/\RelV y d:=by
 cases r with
 |cons e f=>
  cases f with
  |cons g h=>cases h;exact⟨_,_,rfl,e,g⟩
def aBw(e:X.calm=true):dH X (.builtin "max") (λxs H Q=>∃i j,xs=[.int i,.int j]/\Q (.int (if j > i then j else i)) H):=by
 intro cp s σ H xs us Q I r h;let⟨i,j,rfl,q⟩:=h;let⟨u,f,rfl,⟨t,rfl⟩,⟨g,rfl⟩⟩:=vals2 r;refine max_two_ints (I.ok.hd e) λh' l k=>⟨_,H,I.kept k,?_,q⟩;by_cases d:j > i
 .rw[A8 d,A8 d];exact⟨_,rfl⟩
 .rw[B7 d,B7 d];exact⟨_,rfl⟩
def aAF(e:X.calm=true):dH X (.builtin "min") (λxs H Q=>∃i j,xs=[.int i,.int j]/\Q (.int (if j<i then j else i)) H):=by
 intro cp s σ H xs us Q I r h;let⟨i,j,rfl,q⟩:=h;let⟨u,f,rfl,⟨t,rfl⟩,⟨g,rfl⟩⟩:=vals2 r;refine min_two_ints (I.ok.hd e) λh' l k=>⟨_,H,I.kept k,?_,q⟩;by_cases d:j<i
 .rw[A8 d,A8 d];exact⟨_,rfl⟩
 .rw[B7 d,B7 d];exact⟨_,rfl⟩
end
structure aBT(h:Heap)(x dx C:Uc)(mA:Str->Tf):Prop where
 obj:h.get? x=Z (W.instObj C dx)
 ns:h.Ns1 dx mA
 ne:dx≠x
def aBG{h:Heap}(n:h.Ns1 dx mA):∃od,h.get? dx=Z od/\∀b,W.lookIn b od=Z (mA b):=by
 let⟨o,es,ep,d,hd,f,_,hm⟩:=n;refine⟨o,d,λb=>?_⟩;have e:=hm b;unfold nsFind findBy at e;rw[<- Array.find?_toList]at e;unfold W.lookIn;rw[hd];dsimp only;split
 .rename_i y q;rw[q]at e;exact Z7 Z e
 .rename_i q;rw[q]at e
  have a:es.toList.any (·.refKey)=false:=by
   rw[List.any_eq_false];intro y g;let⟨z,t,c⟩:=f y<|Array.mem_toList_iff.mp g;simp[DictEntry.refKey,c]
  have i:¬es.toList.any (·.refKey)=true:=68
  rw[B7 i];exact Z7 Z e
def aBT.look(I:aBT h x dx C mA):∃od,W.InstAt h x (W.instObj C dx) C (Z od)/\∀a,W.lookIn a od=Z (mA a):=
 let⟨od,b,c⟩:=aBG I.ns
 ⟨od,⟨I.obj,rfl,rfl,b⟩,c⟩
section
variable{prog:Ue}{w:World}{A:Uf}{E:T0}{s:Ub}{K:Fg}{x dx C f:Uc}{mA:Str->Tf}{name:Str}{v:Tz}
def get_map{Q:T0}(X:K.In s.heap)(I:aBT s.heap x dx C mA)(c:W.plainGet K C name=true)(d:W.hasDictIn K C=true)
 (ha:W.findIn K (.ref C) name=Z Y) (e:mA name=Z v) (b:W.handedIn v=true) (h:Q v { s with toks:=s.toks+1 }):
 bz (bx prog w) A (getAttr (.ref x) name a) Q E s:=by
 let⟨od,J,g⟩:=I.look;exact W.get_value X J (W.plainGet_of c).1 (W.findObj_own d ha rfl 68) b h
def aHK{Q:Unit->Ub->Prop}(X:K.In s.heap)(I:aBT s.heap x dx C mA)
 (hs:W.findIn K (.ref C) "__setattr__"=Z (Z (.builtin "object.__setattr__"))) (j:W.plainOver K C=true) (ht:W.takerIn K C name=Z Y) (k:W.hasDictIn K C=true)
 (l:PySem.Within mA ns) (m:ns.length<=bv)
 (h:∀h',aBT h' x dx C (λy=>if y=name then Z v else mA y)->Heap.SameBut dx s.heap h'->Q () { s with heap:=h',toks:=s.toks+2 }):
 bz (bx prog w) A (setAttr (.ref x) name v) Q E s:=by
 let⟨od,J,r⟩:=I.look;refine W.set_plain X J hs (W.osa_open X J j ht λb=>?_);let⟨t,n,d⟩:=W.any_some k;have o:=I.obj;refine A1<|A4<|A1<|A1<|wpAny_loadPart o<|A1<|W.Looks.here (W.looks_clsIn X n) ?_;rw[d];refine A4<|A1<|A4<|A1 ?_;refine wpAny_nsSet1 I.ns λh' a c=>?_;let⟨u,p,q,e,g,i⟩:=a.count<|PySem.Within.cons name v l;refine A1<|wpAny_lookBehind e (by rw[g];exact pastItsLine_dict<|C5 i 68) ?_;exact A4<|h _ ⟨(c.2 _<|Y6 I.ne).trans I.obj,a,I.ne⟩ c
def aFt{R:Result->Ub->Prop}{vs:T4}{a:Tt}(X:K.In s.heap)(hm:W.makesIn K C=true)
 (hi:W.findIn K (.ref C) "__init__"=Z (Z (.ref f))) (b:W.typeIn K (.ref f)=Z (.type "function"))
 (h:cg (bx prog w) (A.under (.builtin "type.__call__" ⟨.ref C::vs,a⟩)) (.call (.ref f) ⟨.ref (s.heap.objs.size+1)::vs,a⟩) (W.InitBack (s.heap.objs.size+1) R)
  { s with heap:=(s.heap.push W.emptyDict).push (W.instObj C s.heap.objs.size) }):
 cg (bx prog w) A (.call (.ref C) ⟨vs,a⟩) R s:=by
 let⟨c,g,d,t,os⟩:=s;exact W.make_core (W.makes_of X hm) (W.looks_findIn X hi) (λself=>W.bind_fn X self b) (.inl rfl) h
end
noncomputable def qL(f:Str)(v:V):Tv (Str×V)->Tv (Str×V)
 |[]=>[(f,v)]
 |(g,x)::r=>if g=f then(g,v)::r else(g,x)::qL f v r
theorem BC(f g:Str)(v:V):∀fs:Tv (Str×V),(qL f v fs).lookup g=if g=f then Z v else fs.lookup g
 |[]=>by
  show List.lookup g [(f,v)]=_;by_cases h:g=f
  .have a:=A0f.mpr h;simp only[List.lookup,a,A8 h]
  .have a:=Y1.mpr h;simp only[List.lookup,a,B7 h]
 |(k,x)::r=>by
  have ih:=BC f g v r;rw[show qL f v ((k,x)::r)=(if k=f then(k,v)::r else(k,x)::qL f v r)from rfl];by_cases b:k=f
  .rw[A8 b];by_cases h:g=k
   .have a:=A0f.mpr h;simp only[List.lookup,a,A8<|h.trans b]
   .have a:=Y1.mpr h;simp only[List.lookup,a,B7 (λe:g=f=>h<|e.trans b.symm)]
  .rw[B7 b];by_cases h:g=k
   .have a:=A0f.mpr h;simp only[List.lookup,a,B7 (λe:g=f=>b<|h.symm.trans e)]
   .have a:=Y1.mpr h;simp only[List.lookup,a];exact ih
theorem zE(f:Str)(v:V):∀fs:Tv (Str×V),f∈(qL f v fs).map (·.1)/\∀g,g∈fs.map (·.1)->g∈(qL f v fs).map (·.1)
 |[]=>⟨by simp[qL],λg h=>by simp at h⟩
 |(k,x)::r=>by
  let⟨i1,i2⟩:=zE f v r;rw[show qL f v ((k,x)::r)=(if k=f then(k,v)::r else(k,x)::qL f v r)from rfl];by_cases a:k=f
  .rw[A8 a];subst a;exact⟨67,λg h=>by simpa using h⟩
  .rw[B7 a];refine⟨?_,λg h=>?_⟩
   .rw[C6];exact A7 _ i1
   .rw[C6]at h ⊢;obtain e|e:=C1.mp h
    .exact C1.mpr (.inl e)
    .exact A7 _<|i2 g e
theorem BU(f:Str)(v:V):∀fs:Tv (Str×V),(qL f v fs).length<=fs.length+1
 |[]=>by simp[qL]
 |(k,x)::r=>by
  have ih:=BU f v r;rw[show qL f v ((k,x)::r)=(if k=f then(k,v)::r else(k,x)::qL f v r)from rfl];by_cases a:k=f
  .rw[A8 a,D8,D8];omega
  .rw[B7 a,D8,D8];omega
def BA.some_of{v:V}(r:BA (Z v) o):∃u,o=Z u/\RelV v u:=by
 cases o with
 |none=>exact r.elim
 |some u=>exact⟨u,rfl,r⟩
def aBR(r:RelV v u):W.handedIn u=true:=by
 cases v with
 |non=>cases r;rfl
 |bl b=>cases r;rfl
 |int i=>let⟨t,e⟩:=r;cases e;rfl
 |str x=>let⟨t,e⟩:=r;cases e;rfl
 |byt b=>let⟨t,e⟩:=r;cases e;rfl
 |flt b=>let⟨t,e⟩:=r;cases e;rfl
 |ref a=>cases r;rfl
 |ty n=>cases r;rfl
section
variable{P:Ue}{w:World}{H H':Hp}{h h':Heap}{a C dx:Uc}{fs fs':Tv (Str×V)}
def ZA(hok:HOk P w H h)(e:H a=Z (.ins C dx fs)):∃mA,aBT h a dx C mA/\(∀f,BA (fs.lookup f)<|mA f)/\PySem.Within mA (fs.map (·.1))/\fs.length<=1000/\H dx=Z (.own a):=by
 let⟨d,z,ne,ob,mA,n,r,q⟩:=(hok a _ e);exact⟨mA,⟨ob,n,ne⟩,r,q,z,d⟩
end
structure Cls(K:Fg)(C:Uc):Prop where
 pg:W.plainGet K C Str.empty=true
 hd:W.hasDictIn K C=true
 po:W.plainOver K C=true
 sa:W.findIn K (.ref C) "__setattr__"=Z (Z (.builtin "object.__setattr__"))
def Cls.get(c:Cls K C)(f:Str):W.plainGet K C f=true:=c.pg
def jS(K:Fg)(C:Uc)(f:Str):Prop:=W.findIn K (.ref C) f=Z Y
def jS.taker(n:jS K C f):W.takerIn K C f=Z Y:=by
 unfold W.takerIn;rw[show W.findIn K (.ref C) f=Z Y from n];rfl
section
variable{X:Cx}{cp:T1}{σ:St}{H:Hp}{s:Ub}{a C dx:Uc}{fs:Tv (Str×V)}{f:Str}{v:V}{A:Uf}{E:T0}
def WA{Q:T0}(I:Inv X cp σ H s)(e:H a=Z (.ins C dx fs))(c:Cls X.K C)(n:jS X.K C f)(l:fs.lookup f=Z v)
 (h:∀u s',Inv X cp σ H s'->RelV v u->Q u s'):bz (bx X.prog X.w) A (getAttr (.ref a) f b) Q E s:=by
 let⟨mA,O,r,_,_,_⟩:=ZA I.hok e;let⟨u,g,d⟩:=BA.some_of (by rw[<- l];exact r f);exact get_map I.kIn O (c.get f) c.hd n g (aBR d)<|h u _ (I.tok _) d
def VT{Q:Unit->Ub->Prop}(I:Inv X cp σ H s)(e:H a=Z (.ins C dx fs))(c:Cls X.K C)(n:jS X.K C f)(B:fs.length<1000)(k:RelV y u)
 (h:∀s',Inv X cp σ (upd H a (.ins C dx (qL f y fs))) s'->Q () s'):bz (bx X.prog X.w) A (setAttr (.ref a) f u) Q E s:=by
 let⟨mA,O,r,i,_,j⟩:=ZA I.hok e;have l:(fs.map (·.1)).length<=bv:=by rw[A6,J7];omega
 refine aHK I.kIn O c.sa c.po n.taker c.hd i l λh' d m=>h _ ?_;have hd:∃o,h'.get? dx=Z o:=let⟨o,_,_,p,_⟩:=d.ns;⟨o,p⟩;refine I.write (by rw[e];exact True.intro) (.inr j) (λb q t z=>(m.2 b t).trans z) hd ?_;refine⟨by rw[aO O.ne];exact j,?_,O.ne,d.obj,_,d.ns,λg=>?_,λg x=>?_⟩
 .have:=BU f y fs;omega
 .show BA ((qL f y fs).lookup g) (if g=f then Z u else mA g);rw[BC];by_cases q:g=f
  .rw[A8 q,A8 q];exact k
  .rw[B7 q,B7 q];exact r g
 .by_cases q:g=f
  .rw[q];exact(zE f y fs).1
  .refine(zE f y fs).2 g (i g λz=>x ?_);show(if g=f then Z u else mA g)=Y;rw[B7 q];exact z
def Inv.made(I:Inv X cp σ H s):Inv X cp σ (upd (upd H s.heap.objs.size (.own (s.heap.objs.size+1))) (s.heap.objs.size+1) (.ins C s.heap.objs.size []))
 { s with heap:=(s.heap.push W.emptyDict).push (W.instObj C s.heap.objs.size) }:=by
 have c:(s.heap.push W.emptyDict).get? s.heap.objs.size=Z W.emptyDict:=B5 s.heap rfl
 have d:((s.heap.push W.emptyDict).push (W.instObj C s.heap.objs.size)).get? (s.heap.objs.size+1)=Z (W.instObj C s.heap.objs.size):=by
  have:=B5 (s.heap.push W.emptyDict) (o:=W.instObj C s.heap.objs.size) rfl
  rwa [S3]at this
 have g:(s.heap.push W.emptyDict).Ns s.heap.objs.size (λ_=>Y):=⟨W.emptyDict,#[],_,c,rfl,(λe h=>absurd h 67),65⟩;have i:=I.laid (o:=.own (s.heap.objs.size+1)) (t':=s.toks) (λb u q=>A3 _ q) (B3 _) ⟨_,c⟩;refine i.laid (λb u q=>A3 _ q) (Nat.le_of_eq<|S3 _ _) ?_;have ne:s.heap.objs.size≠s.heap.objs.size+1:=C2<|Y8 _;refine⟨by rw[aO ne,aS],E6 _,ne,d,λ_=>Y,(Heap.Ns1.of_empty g).at λo q=>A3 _ q,λ_=>True.intro,λy j=>absurd rfl j⟩
def aIx{f:Str}{pos:Pos}{s:Ub}(c:attributeBase e f env (eval e env)=eval e env)
 (h:bz (bx prog w) A (eval e env) (λo b=>bz (bx prog w) A (getAttr o f true) Q E b) E s):bz (bx prog w) A (eval (.Attribute e f pos) env) Q E s:=
 Attribute_any_ h (by rw[arm_eval_Attribute,c])
end
def aOl(K:Fg)(c:TE)(f:Str):TE:=λσ H Q=>c σ H λx b=>∃a C dx fs v,x=.ref a/\b a=Z (.ins C dx fs)/\Cls K C/\jS K C f/\fs.lookup f=Z v/\Q v b
def aOu(K:Fg)(c d:TE)(f:Str):TS:=λD σ H=>d σ H λy e=>c σ e λx b=>∃a C dx fs,x=.ref a/\b a=Z (.ins C dx fs)/\Cls K C/\jS K C f/\fs.length<1000 /\
 D.nx σ (upd b a (.ins C dx (qL f y fs)))
section
variable{X:Cx}{o e value:Ud}{f:Str}{pos pos' tpos:Pos}{ta tv:TE}
def aMC(b:PE X e ta)(d:attributeBase e f X.env (eval e X.env)=eval e X.env):PE X (.Attribute e f pos) (aOl X.K ta f):=by
 intro cp s σ H Q I h;refine aIx d (thn (b cp s σ H _ I h) λu s1 g=>?_);let⟨x,i,j,k,a,C,dx,fs,v,ex,m,c,n,l,q⟩:=g;subst ex;obtain rfl:=k;exact WA j m c n l λt s2 p r=>⟨v,i,p,r,q⟩
def aKM(ha:PE X o ta)(b:PE X value tv)(hs:swapsWith value (Z (.Attribute o f pos')) pos.line X.env=pure false):PS X (.Assign [.Attribute o f pos'] value pos) (aOu X.K ta tv f):=by
 intro cp s σ H D I h;refine plainObj_wpAny_Assign_Attribute (thn (b cp s σ H _ I h) λu s1 ⟨y,d,g,i,q⟩=>thn (ha cp s1 σ d _ g q) λv s2 j=>?_) hs;let⟨x,w,k,m,a,C,dx,fs,ex,p,c,n,l,r⟩:=j;subst ex;obtain rfl:=m;exact VT k p c n l i λs3 t=>⟨σ,_,t,r⟩
end
structure cM(k:Nat)(A:Uf)(q:Bool:=true):Prop where
 hd:q=true->A.handled=Y
 dp:A.depth+3*k+5<recursionLimit
 un:A.units+16*k+200<cLine
 gd:A.guards=Z []
def cM.mono{j:Nat}(r:cM k A q)(h:j<=k):cM j A q:=⟨r.hd,by have:=r.dp;omega,by have:=r.un;omega,r.gd⟩
def cM.deeper{k:Nat}(r:cM (k+1) A q)(env:Env):cM k (A.deeper env) q:=
 ⟨r.hd,by have:=r.dp;show A.depth+1+3*k+5<_;omega,by have:=r.un;show A.units+3+16*k+200<_;omega,r.gd⟩
def WM{C:Uc}{us:T4}{a:Tt}:(A.under (.builtin "type.__call__" ⟨.ref C::us,a⟩)).depth=A.depth+1:=rfl
def WH{C:Uc}{us:T4}{a:Tt}:(A.under (.builtin "type.__call__" ⟨.ref C::us,a⟩)).units=A.units+1:=rfl
def QE{C:Uc}{us:T4}{a:Tt}:(A.under (.builtin "type.__call__" ⟨.ref C::us,a⟩)).guards=A.guards:=rfl
def cM.make{k:Nat}(r:cM (k+1) A q)(C:Uc)(us:T4)(a:Tt):cM k (A.under (.builtin "type.__call__" ⟨.ref C::us,a⟩)) q:=
 ⟨r.hd,by have:=r.dp;rw[WM];omega,by have:=r.un;rw[WH];omega,by rw[QE];exact r.gd⟩
def cM.depth(r:cM k A q):A.depth<recursionLimit:=by have:=r.dp;omega
def cM.units(r:cM k A q):A.units+64<cLine:=by have:=r.un;omega
noncomputable def aBf:TA:=λ_ H Q=>Q [] H
noncomputable def sW(a:TE)(tr:TA):TA:=λσ H Q=>a σ H λx b=>tr σ b λxs c=>Q (x::xs) c
section
variable{X:Cx}{e:Ud}{es:T8}{te:TE}{t:TA}{pos:Pos}
def FR:PA X [] aBf:=λ_ _ _ _ H Q I h=>A1z ⟨[],H,I,.nil,h⟩
def jV(ha:PE X e te)(a:PA X es t)(hs:cb (e::es) X.env=(false,eval e X.env)::cb es X.env:=by rfl):PA X (e::es) (sW te t):=by
 intro pos cp s σ H Q I h;rw[hs];refine A1w (thn (ha cp s σ H _ I h) λu s1 ⟨x,b,c,d,f⟩=>?_);exact thn (a pos cp s1 σ b _ c f) λus s2 ⟨xs,g,i,j,k⟩=>⟨x::xs,g,i,.cons d j,k⟩
def aHu(t:TA):TE:=λσ H Q=>t σ H λxs a=>xs.length<=bv/\∀p,a p=Y->Q (.ref p) (upd a p (.tup xs))
def aKz(t:TA):TE:=λσ H Q=>t σ H λxs a=>xs.length<=bv/\∀p,a p=Y->Q (.ref p) (upd a p (.lst xs))
def UC{x1}(h:PA X es t):PE X (.Tuple es x1 pos) (aHu t):=by
 intro cp s σ H Q I c;refine wpAny_Tuple_spliced (thn (h pos cp s σ H _ I c) λus s1 ⟨xs,d,a,r,z,q⟩=>⟨by rw[<- r.length];exact z,?_⟩);have f:=a.hok.fresh<|B3 _;refine⟨.ref s1.heap.objs.size,upd d s1.heap.objs.size (.tup xs),a.laid (λb u e=>A3 _ e) (B3 _) ?_,rfl,q _ f⟩;exact⟨z,us,r,⟨_,B5 _ rfl,rfl,_,rfl⟩⟩
def aFv(h:PA X es t):PE X (.List es pos) (aKz t):=by
 intro cp s σ H Q I c;refine wpAny_List_spliced (thn (h pos cp s σ H _ I c) λus s1 ⟨xs,d,a,r,z,q⟩=>⟨by rw[<- r.length];exact z,?_⟩);have f:=a.hok.fresh<|B3 _;refine⟨.ref s1.heap.objs.size,upd d s1.heap.objs.size (.lst xs),a.laid (λb u e=>A3 _ e) (B3 _) ?_,rfl,q _ f⟩;exact⟨z,us,0,r,B5 _ rfl⟩
end
abbrev Sp:=Td->Hp->VK->XK->Prop
abbrev CXT:=List Env->Hp->Shared->XK->Value->Shared->Prop
structure UO(P:Ue)(w:World)(K:Fg)(mg:Str->Tf)(base:Heap)(A:Uf)(outer:Tv Env)(s:Ub)(H:Hp):Prop where
 frames:A.frames=Z outer
 mod:Mod K mg base
 bs:∀b o,base.get? b=Z o->s.heap.get? b=Z o/\H b=Y
 bsz:base.objs.size<=s.heap.objs.size
 funs:s.heap.FunFrames base outer
 frf:∀b∈frs outer,H b=Y
 hok:HOk P w H s.heap
 bare:AllBare s.gens
def CE(outer:Tv Env)(P:Ue)(w:World)(H:Hp)(s:Ub)(Q:VK)(u:Tz)(s':Ub):Prop:=
 ∃v H',s'.os=s.os/\AllBare s'.gens/\Un (frs outer) [] H H' s.heap s'.heap/\HOk P w H' s'.heap/\RelV v u/\Q v H'
def CR(CX:CXT)(outer:Tv Env)(P:Ue)(w:World)(H:Hp)(s:Ub)(Q:VK)(E:XK)(r:Result)(s':Ub):Prop:=
 match r with
 |.ok (.ret u)=>CE outer P w H s Q u s'
 |.ok _=>False
 |.error e=>CX outer H s E e s'
structure mE(P:Ue)(w:World)(K:Fg)(mg:Str->Tf)(base:Heap)(CX:CXT)(k:Nat)(f:Uc)(fd:FuncData)(ps:Tc)(sp:Sp)(q:Bool:=true):Prop where
 len:∀vs H Q E,sp vs H Q E->vs.length=ps.length
 run:∀(A:Uf)(outer:Tv Env)(s:Ub)(H:Hp)(args:Args)(us:T4)(vs:Td)(Q:VK)(E:XK),cM k A q->UO P w K mg base A outer s H->BindsTo s fd args (ps.zip us)->bE vs us->sp vs H Q E->
  cg (bx P w) A (.call (.ref f) args) (CR CX outer P w H s Q E) s
def mE.mono{P:Ue}{k:Nat}(F:mE P w K mg base CX j f fd ps sp q)(h:j<=k):
 mE P w K mg base CX k f fd ps sp q:=⟨F.len,λA outer s H args us vs Q E a=>F.run A outer s H args us vs Q E<|a.mono h⟩
def UO.make{P:Ue}(e:UO P w K mg base A outer s H)(C:Uc)(us:T4)(a:Tt):
 UO P w K mg base (A.under (.builtin "type.__call__" ⟨.ref C::us,a⟩)) outer s H:=⟨by first|exact e.frames|(simpa[Around.under,Code.envs,Code.isFrame,pushEnvs]using e.frames),e.mod,e.bs,e.bsz,e.funs,e.frf,e.hok,e.bare⟩
section
variable{X:Cx}{cp:T1}{σ:St}{H:Hp}{s s':Ub}
def Inv.env0(I:Inv X cp σ H s):UO X.prog X.w X.K X.mg X.base X.A X.stack s H:=
 ⟨I.ok.frames,I.ok.mod,I.bs,C5 I.ok.bsz I.sz,I.stack,I.stkFree,I.hok,I.bare⟩
def Inv.after(I:Inv X cp σ H s)(h:CE X.stack X.prog X.w H s Q u s'):EP X cp σ Q u s':=by
 let⟨v,H',os,bare,un,hok,r,q⟩:=h;let⟨c,g,d,t,a⟩:=s';obtain rfl:=os;exact⟨v,H',I.call un hok bare (λb z=>absurd z 67),r,q⟩
end
noncomputable def aCX(sp:Sp)(a:Td)(E:XK)(t:TA):TE:=λσ H Q=>t σ H λvs b=>sp (vs++a) b Q E
def aJN(C:Uc)(sp:Sp)(a:Td)(E:XK)(t:TA):TE:=λσ H Q=>t σ H λvs b=>∀x dx,b x=Y->b dx=Y->dx≠x->
 sp (.ref x::(vs++a)) (upd (upd b dx (.own x)) x (.ins C dx [])) (λv c=>v=.non/\Q (.ref x) c) E
def Binds(K:Fg)(fd:FuncData)(ps:Tc)(ds:T4):Prop:=
 ∀(s:Ub)(us:T4),K.In s.heap->(us++ds).length=ps.length->BindsTo s fd ⟨us,[]⟩ (ps.zip (us++ds))
def Binds.all{ps:Tc}(h:∀us:T4,us.length=ps.length->bindArgs fd ⟨us,[]⟩=pure (ps.zip us)):Binds K fd ps []:=λs us _ a=>by
 rw[J8]at a ⊢;exact .of_eq (h us a)
def MZ(CX:CXT)(X:Cx)(E:XK):Prop:=∀(cp:T1)(σ:St)(H:Hp)(s:Ub)(e:Tz)(s':Ub),Inv X cp σ H s->CX X.stack H s E e s'->X.xe e s'
section
variable{X:Cx}{CX:CXT}{k:Nat}{f C:Uc}{fd:FuncData}{ps:Tc}{sp:Sp}{dvs:Td}{ds:T4}{E:XK}{x m:Str}{p pos apos:Pos}{e o:Ud}{es:T8}{ta:TE}{t:TA}
def aNV{σ:St}{H:Hp}{s:Ub}{vs:Td}(F:mE X.prog X.w X.K X.mg X.base CX k f fd ps sp q)(c:cM k X.A q)(d:Binds X.K fd ps ds)(hd:bE dvs ds)(g:MZ CX X E)
 (I:Inv X cp σ H s) (r:bE vs us) (h:sp (vs++dvs) H Q E):bz (bx X.prog X.w) X.A (call (.ref f) us) (EP X cp σ Q) X.xe s:=by
 have b:=r.append hd;have i:(us++ds).length=ps.length:=by rw[<- b.length];exact F.len _ _ _ _ h
 refine wpAny_call (A1d (F.run X.A X.stack s H ⟨us,[]⟩ (us++ds) (vs++dvs) Q E c I.env0 (d s us I.kIn i) b h) λr s' a=>?_);cases r with
 |error e=>exact g cp σ H s e s' I a
 |ok j=>
  cases j with
  |ret u=>exact I.after a
  |next=>exact False.elim a
  |brk=>exact False.elim a
  |cont=>exact False.elim a
def XZ{q:Bool}(F:mE X.prog X.w X.K X.mg X.base CX k f fd ps sp q)(d:cM k X.A q)(g:Gl X x)(hm:X.mg x=Z (.ref f))(i:W.keepIn X.K (.ref f)=true)(j:Binds X.K fd ps ds)(hd:bE dvs ds)(l:MZ CX X E)
 (ha:PA X (e::es) t) (a:(x==("__debug__":Str))=false:=by decide) (n:cb (e::es) X.env=(false,eval e X.env)::cb es X.env:=by rfl) (b:(backTo pos<|cb es X.env).any (·.1)=false:=by rfl):
 PE X (.Call (.Name x p) (e::es) [] pos) (aCX sp dvs E t):=by
 intro cp s σ H Q I h;refine Z0<|vF I g hm ?_ a;refine W.callWith_K I.ok.mod.kin i (thn (ha pos cp s σ H _ I h) λus s1 ⟨vs,u,c,r,q⟩=>⟨c.kIn,?_⟩) n b;exact aNV F d j hd l c r q
structure Mk(K:Fg)(C f:Uc):Prop where
 makes:W.makesIn K C=true
 init:W.findIn K (.ref C) "__init__"=Z (Z (.ref f))
 fn:W.isFn K (.ref f)=true
 kp:W.keepIn K (.ref C)=true
def aCw{σ:St}{H:Hp}{s:Ub}{Q:VK}(M:Mk X.K C f)(F:mE X.prog X.w X.K X.mg X.base CX k f fd ps sp)(g:cM (k+1) X.A)(i:Binds X.K fd ps ds)(hd:bE dvs ds)
 (j:∀H s e s',Inv X cp σ H s->CX X.stack H s E e s'->X.xe e s') (I:Inv X cp σ H s) (r:bE vs us)
 (h:∀x dx,H x=Y->H dx=Y->dx≠x->sp (.ref x::(vs++dvs)) (upd (upd H dx (.own x)) x (.ins C dx [])) (λv l=>v=.non/\Q (.ref x) l) E):
 bz (bx X.prog X.w) X.A (call (.ref C) us) (EP X cp σ Q) X.xe s:=by
 have c:=h (s.heap.objs.size+1) s.heap.objs.size (I.hok.fresh<|A1i _) (I.hok.fresh<|B3 _)<|C2<|Y8 _;have b:=Inv.made (C:=C) I;have d:bE (V.ref (s.heap.objs.size+1)::(vs++dvs)) (Value.ref (s.heap.objs.size+1)::(us++ds)):=.cons rfl (r.append hd)
 have n:(Value.ref (s.heap.objs.size+1)::us++ds).length=ps.length:=by
  have e:=d.length;rw[F.len _ _ _ _ c]at e;exact e.symm
 refine wpAny_call (aFt I.kIn M.makes M.init (A0f.mp M.fn) (A1d (F.run _ X.stack _ _ ⟨Value.ref (s.heap.objs.size+1)::us,[]⟩ (Value.ref (s.heap.objs.size+1)::(us++ds)) _ _ E (g.make C us [])
  (b.env0.make C us []) (i _ (Value.ref (s.heap.objs.size+1)::us) b.kIn n) d c) λr s' a=>?_))
 cases r with
 |error e=>exact j _ _ e s' b a
 |ok q=>
  cases q with
  |ret u=>
   let⟨v,H',y,z,ev,B⟩:=b.after a;subst ev;exact⟨z,⟨V.ref (s.heap.objs.size+1),H',y,rfl,B⟩⟩
  |next=>exact False.elim a
  |brk=>exact False.elim a
  |cont=>exact False.elim a
def aHp(M:Mk X.K C f)(F:mE X.prog X.w X.K X.mg X.base CX k f fd ps sp)(d:cM (k+1) X.A)(g:Gl X x)(hm:X.mg x=Z (.ref C))(i:Binds X.K fd ps ds)(hd:bE dvs ds)(j:MZ CX X E)
 (ha:PA X (e::es) t) (a:(x==("__debug__":Str))=false:=by decide) (l:cb (e::es) X.env=(false,eval e X.env)::cb es X.env:=by rfl) (b:(backTo pos<|cb es X.env).any (·.1)=false:=by rfl):
 PE X (.Call (.Name x p) (e::es) [] pos) (aJN C sp dvs E t):=by
 intro cp s σ H Q I h;refine Z0<|vF I g hm ?_ a;refine W.callWith_K I.ok.mod.kin M.kp (thn (ha pos cp s σ H _ I h) λus s1 ⟨vs,n,c,r,q⟩=>⟨c.kIn,?_⟩) l b;exact aCw M F d i hd (j cp σ) c r q
end
structure aT(N P:Tc)(sc:Scope):Prop where
 kind:sc.kind=.function
 co:sc.isCoroutine=false
 gen:sc.isGenerator=false
 nd:N.Nodup
 pre:N.take P.length=P
 par:∀x∈P,sc.names.lookup x=Z .local\/sc.names.lookup x=Z .cell
 nofree:∀y∈sc.names,y.2≠.free
theorem JP{kindOf:Tq}{x:Str}:∀{binds:Tt}{m:Str->Tf},(∀v,(x,v)∉binds)->bindL kindOf binds m x=m x
 |[],_=>65
 |(n,v)::r,m=>λh=>by
  unfold bindL;rw[JP λw a=>h w<|A7 _ a];split
  .have:x≠n:=68
   simp[this]
  .rfl
theorem KM{kindOf:Tq}{x:Str}:∀{binds:Tt}{m:Str->Tf},(∀v,(x,v)∉binds)->bindC kindOf binds m x=m x
 |[],_=>65
 |(n,v)::r,m=>λh=>by
  unfold bindC;rw[KM λw a=>h w<|A7 _ a];split
  .rfl
  .have:x≠n:=68
   simp[this]
theorem IZ{kindOf:Tq}{x:Str}{v:Tz}:∀{P:Tc}{vs:T4}{i:Nat}{m:Str->Tf},P.Nodup->P[i]?=Z x->vs[i]?=Z v->kindOf x=Z .local->
 bindL kindOf (P.zip vs) m x=Z v
 |[],_,_,_=>λ_ h _ _=>by simp at h
 |_::_,[],_,_=>λ_ _ h _=>by simp at h
 |p::P,w::vs,0,m=>λnd a b c=>by
  simp at a b;subst a;subst b;show bindL kindOf ((p,w)::P.zip vs) m p=_;unfold bindL;rw[JP λv d=>(A0o.mp nd).1 (A2g d).1,A8 c];simp
 |p::P,w::vs,i+1,m=>λnd a b c=>by
  unfold bindL;exact IZ (A0o.mp nd).2 (by assumption) 68 c
theorem KI{kindOf:Tq}{x:Str}{v:Tz}:∀{P:Tc}{vs:T4}{i:Nat}{m:Str->Tf},P.Nodup->P[i]?=Z x->vs[i]?=Z v->kindOf x≠Z .local->
 bindC kindOf (P.zip vs) m x=Z v
 |[],_,_,_=>λ_ h _ _=>by simp at h
 |_::_,[],_,_=>λ_ _ h _=>by simp at h
 |p::P,w::vs,0,m=>λnd a b c=>by
  simp at a b;subst a;subst b;show bindC kindOf ((p,w)::P.zip vs) m p=_;unfold bindC;rw[KM λv d=>(A0o.mp nd).1 (A2g d).1,B7 c];simp
 |p::P,w::vs,i+1,m=>λnd a b c=>by
  unfold bindC;exact KI (A0o.mp nd).2 (by assumption) 68 c
def start(N:Tc)(vs:Td):St:=vs.map Z++List.replicate (N.length-vs.length) Y
noncomputable def oQ(CX:CXT)(P:Ue)(w:World)(K:Fg)(mg:Str->Tf)(base:Heap)(N:Tc)(qual:Str)(scope:Scope)(f:Uc)(cd:Tz)(A:Uf)(outer:Tv Env)(s:Ub)(H:Hp)(E:XK)(q:Bool:=true):Cx where
 prog:=P
 w:=w
 K:=K
 mg:=mg
 base:=base
 A:=A.deeper<|envOfC qual scope s.heap.objs.size f cd
 N:=N
 s₀:=s
 H₀:=H
 env:=envOfC qual scope s.heap.objs.size f cd
 outer:=outer
 stack:=envOfC qual scope s.heap.objs.size f cd::outer
 ex:=[]
 calm:=q
 fn:=λ_=>true
 pn:=[]
 xe:=λe s'=>bz (bx P w) (A.deeper<|envOfC qual scope s.heap.objs.size f cd) (leaving (envOfC qual scope s.heap.objs.size f cd) e) (λ_ s''=>CX outer H s E e s'') (λe' s''=>CX outer H s E e' s'') s'
def PH{sc:Scope}(h:sc.names.lookup x=Z .cell):∃c,(cellsFrom n sc.names []).lookup x=Z c:=by
 have q:=W.cellsFrom_some sc.names n [] (.inl h);exact A1l.mp q
def aBm{P:Ue}{K:Fg}{A:Uf}{s s1:Ub}{H:Hp}{vs:Td}{q:Bool}
 (S:aT N ps scope) (hd:q=true->A.handled=Y) (g:UO P w K mg base A outer s H) (F:vs.length=ps.length) (r:bE vs us)
 (x:InCallC s s.heap.objs.size (bindL (envOfC qual scope s.heap.objs.size f n).kindOf (ps.zip us) λ_=>Y) (cellsFrom (s.heap.objs.size+1) scope.names []) (bindC (envOfC qual scope s.heap.objs.size f n).kindOf (ps.zip us) λ_=>Y) s1):
 Inv (oQ CX P w K mg base N qual scope f n A outer s H E q) [] (start N vs) H s1:=by
 have C:ps.length<=N.length:=by have:=Z7 List.length S.pre;rw[A0r]at this;omega
 let⟨o,G,rfl,t⟩:=x.done;have j:∀b:Uc,b∉(oQ CX P w K mg base N qual scope f n A outer s H E q).ex:=λb z=>absurd (show b∈([]:Tb)from z) 67
 refine⟨⟨g.mod,S.kind,rfl,rfl,B3 _,λy z c o d=>?_,λy hy=>?_,λy c _ h=>?_,hd,Around.frames_deeper g.frames,.inr ⟨rfl,rfl⟩,λb z=>absurd z<|j b,g.bs,g.bsz,λb _ _=>j b,λb z=>absurd z<|j b,g.funs,g.frf⟩,
  rfl,g.bare,Un.kept t,⟨_,x.toInCall.ns,λi y v o d I=>?_⟩,λy c h=>⟨_,x.cell y c h⟩,g.hok.fresh (B3 _),λy c h=>?_,λp l=>absurd (show p∈([]:T1)from l) 67,g.hok.kept t,?_⟩
 .exact name_of_addr x.apart (O6 o)<|O6 d
 .have hy:=hy;obtain hy|hy:=hy
  .exact PH hy
  .exact absurd rfl<|S.nofree _<|O6 hy
 .exact A1r<|x.above y c<|O6 h
 .have hi:i<vs.length:=by
   unfold start at d;by_cases hi:i<vs.length
   .exact hi
   .rw[Z3 68]at d;rw[List.getElem?_replicate]at d;split at d<;>cases d
  have ha:vs[i]?=Z v:=by
   unfold start at d;rw[Y0 68,D7]at d;cases e:vs[i]? with
   |none=>rw[e]at d;cases d
   |some a=>rw[e]at d;cases (d);rfl
  let⟨u,B,D⟩:=r.get ha
  have l:ps[i]?=Z y:=by
   rw[<- S.pre,List.getElem?_take_of_lt 61];exact o
  have m:ps.Nodup:=by rw[<- S.pre];exact S.nd.sublist<|List.take_sublist _ _
  refine⟨u,D,?_⟩;obtain k|k:=S.par y (U7 l)
  .exact .inl ⟨k,IZ m l B k⟩
  .let⟨c,e⟩:=PH k;refine .inr ⟨.inl k,c,e,?_⟩;have q:=x.cell y c e;rw[KI m l B (by show scope.names.lookup y≠_;rw[k];decide)]at q;exact q
 .exact g.hok.fresh<|A1r<|x.above y c<|O6 h
 .unfold start;show _=N.length;rw[B6,A6,List.length_replicate];omega
def aJl{P:Ue}{K:Fg}{kV doc oc:Tz}{od:Th}
 {osl:Array (Tf)} {sp:Sp} {q:Bool} (F:K.lookup f=Z ⟨oc,od,.func (W.fnOf g qual a c scope D kV doc pm an cdv ct),osl⟩) (p:W.codeIn K cdv qual=true) (S:aT N ps scope)
 (len:∀vs H Q E,sp vs H Q E->vs.length=ps.length)
 (h:∀(A:Uf)(outer:Tv Env)(s:Ub)(H:Hp)(vs:Td)(Q:VK)(E:XK),cM k (A.deeper<|envOfC qual scope s.heap.objs.size f cdv) q->sp vs H Q E->
  ∃t,PSs (oQ CX P w K mg base N qual scope f cdv A outer s H E q) c t/\t { nx:=λ_ H'=>Q .non H',rt:=Q } (start N vs) H):
 mE P w K mg base CX (k+1) f (W.fnOf g qual a c scope D kV doc pm an cdv ct) ps sp q:=by
 refine⟨len,λA outer s H args us vs Q E z j G r l=>?_⟩;have L:=len _ _ _ _ l;have KX:=j.mod.kin.keeps λb o e=>(j.bs b o e).1;have B:=j.mod.nolimit.keeps λb o e=>(j.bs b o e).1
 have i:∀y∈ps.zip us,scope.names.lookup y.1=Z .local\/(scope.names.lookup y.1=Z .cell/\((cellsFrom (s.heap.objs.size+1) scope.names []).lookup y.1).isSome=true):=λ⟨n,v⟩ M=>by
  obtain q|q:=S.par n (A2g M).1
  .exact .inl q
  .exact .inr ⟨q,W.cellsFrom_some _ _ _ (.inl q)⟩
 refine codeAny_call_function z.depth (KX _ _ F) rfl S.co S.gen rfl (W.codeRec_of KX p)<|G _ _ _ _ ?_;refine wpAny_newFunctionEnv_cells S.kind i λenv O s1 x=>?_;subst O;refine⟨B.keeps x.toInCall.keep,codeAny_func ?_⟩;let⟨t,ht,R⟩:=h A outer s H vs Q E (z.deeper _) l;have I:Inv (oQ CX P w K mg base N qual scope f cdv A outer s H E q) [] (start N vs) H s1:=aBm S z.hd j L r x;refine C7 (ht [] s1 (start N vs) H _ I R) (λT s' hs=>?_) λe s' hs=>hs
 have m:∀{d:St}{H':Hp}{v:V}{u:Tz},Inv (oQ CX P w K mg base N qual scope f cdv A outer s H E q) [] d H' s'->RelV v u->Q v H'->CE outer P w H s Q u s':=
  λ{d H' v u} J C q=>⟨v,H',J.os,J.bare,J.base,J.hok,C,q⟩
 cases T with
 |ret u=>
  let⟨v,d,H',J,C,q⟩:=hs;exact m J C q
 |next=>
  let⟨d,H',J,q⟩:=hs;exact m (v:=V.non) J rfl q
 |brk=>
  let⟨_,_,_,q⟩:=hs;exact False.elim q
 |cont=>
  let⟨_,_,_,q⟩:=hs;exact False.elim q
section
variable{X:Cx}{x:Str}{p pos:Pos}{e:Ud}{es:T8}{t:TA}{id T:String}{r:Td->Hp->VK->Prop}
noncomputable def tCB(r:Td->Hp->VK->Prop)(t:TA):TE:=λσ H Q=>t σ H λvs a=>r vs a Q
def uH(c:dH X (.builtin id) r)(d:Gl X x)(hm:X.mg x=Y)(f:bootBuiltins x=Z (.builtin id))(ha:PA X (e::es) t)(hn:x≠"__name__":=by decide)(a:(x==("__debug__":Str))=false:=by decide)
 (g:cb (e::es) X.env=(false,eval e X.env)::cb es X.env:=by rfl) (b:(backTo pos<|cb es X.env).any (·.1)=false:=by rfl):PE X (.Call (.Name x p) (e::es) [] pos) (tCB r t):=by
 intro cp s σ H Q I h;refine Z0<|iI I d hm f ?_ hn a;exact A1y (thn (ha pos cp s σ H _ I h) λus s1 ⟨vs,i,j,k,l⟩=>c cp s1 σ i vs us Q j k l) g b
def aBJ(c:dH X (.type T) r)(d:Gl X x)(hm:X.mg x=Y)(f:bootBuiltins x=Z (.type T))(ha:PA X (e::es) t)(hn:x≠"__name__":=by decide)(a:(x==("__debug__":Str))=false:=by decide)
 (g:cb (e::es) X.env=(false,eval e X.env)::cb es X.env:=by rfl) (b:(backTo pos<|cb es X.env).any (·.1)=false:=by rfl):PE X (.Call (.Name x p) (e::es) [] pos) (tCB r t):=by
 intro cp s σ H Q I h;refine Z0<|iI I d hm f ?_ hn a;exact F9 (thn (ha pos cp s σ H _ I h) λus s1 ⟨vs,i,j,k,l⟩=>c cp s1 σ i vs us Q j k l) g b
end
end L2
namespace HT
open PySem PyProof.Rows
noncomputable def lexLt:T6->T6->Bool
 |[],[]=>false
 |[],_::_=>true
 |_::_,[]=>false
 |x::xs,y::a=>if x=y then lexLt xs a else decide (x<y)
def VB(x y:Int)(xs ys:T6):lexLt (x::xs) (y::ys)=if x=y then lexLt xs ys else decide (x<y):=rfl
def lexLt_nil_nil:lexLt [] []=false:=rfl
def lexLt_nil_cons(y:Int)(ys:T6):lexLt [] (y::ys)=true:=rfl
def lexLt_cons_nil(x:Int)(xs:T6):lexLt (x::xs) []=false:=rfl
def aDV(A:Uf)(s:Ub)(a:Int)(t:Tok)(c:Int)(u:Tok):∃e,SeqAt.EqAt A s (.int a t) (.int c u) e/\(e=true↔a=c):=
 ⟨(a==c),SeqAt.EqAt.int_int a t c u,67⟩
def aCb(A:Uf)(s:Ub)(a:Int)(t:Tok)(c:Int)(u:Tok)(prog:Ue)(w:World)(E:T0)(Q:T0)(h:Q (.bool (decide (a<c))) s):
 bz (bx prog w) A (richCompare .Lt (.int a t) (.int c u)) Q E s:=
 (PyProof.Rows.lt_int h:bz (bx prog w) A (cf .Lt (.int a t) (.int c u)) Q E s)
section
open PySem.SeqAt
open PySem.AutoSeq1 (wpAny_loadPart')
open PySem.MeetsSeq PySem.MeetsSeq2 PySem.MeetsSeq3
def IJ(l b:Uc)(items f:Ti)(n M:Nat)(N G:Th)(sl H:Array (Tf))(ns ms:T6)(hi:IntsAre items.toList ns)(K:IntsAre f.toList ms):
 Meets (Builtin.«tuple.__lt__» ⟨[.ref l,.ref b],[]⟩)
  (λ_ R s=>s.heap.get? l=Z { cls:=.type "tuple",dict:=N,data:=.seq items n,slots:=sl }/\s.heap.get? b=Z { cls:=.type "tuple",dict:=G,data:=.seq f M,slots:=H } /\
   R (.ok (.ret (.bool (lexLt ns ms)))) s):=
 .of_wp λprog w A R s h=>by
  let⟨E,g,d,F,os⟩:=s;let⟨O,P,h⟩:=h;have f2:=AutoSeq1.sub_tuple_tuple;have V:items.size=ns.length:=by rw[<- hi.length];simp
  have W:f.size=ms.length:=by rw[<- K.length];simp
  wp_walk using A1v O,A1v P,wpAny_forIn_list _ (λrest b s'=>b.1=Y/\s'=⟨E,g,d,F,os⟩/\∃(vs ws:T4)(j k:T6),rest=vs.zip ws /\
   IntsAre vs j/\IntsAre ws k/\j.length+f.size=k.length+items.size/\R (.ok (.ret (.bool (lexLt j k)))) ⟨E,g,d,F,os⟩) _
  case turn=>
   rintro⟨y,x⟩ rest b s' ⟨B,rfl,vs,ws,j,k,r,v,m,i,o⟩;cases v with
   |nil=>rw[List.zip_nil_left]at r;cases r
   |cons a t C=>
    cases m with
    |nil=>rw[List.zip_nil_right]at r;cases r
    |cons c u D=>
     injection r with I z
     injection I with Q S
     subst Q S;rw[VB]at o;simp only[D8]at i;let⟨e,T,p⟩:=aDV A.in1 ⟨E,g,d,F,os⟩ a t c u;refine A1<|T prog w _ _ ?_;cases e with
     |true=>
      rw[A8 (p.mp rfl)]at o
      wp_walk
      exact⟨rfl,rfl,_,_,_,_,z,C,D,61,o⟩
     |false=>
      rw[B7 λq=>absurd (p.mpr q) C4]at o;have J:=aCb A.in1 ⟨E,g,d,F,os⟩ a t c u prog w
      wp_walk using J
      exact⟨_,rfl,by simpa using o⟩
  case fin=>
   rintro⟨X,b2⟩ s' ⟨B,rfl,vs,ws,j,k,r,v,m,i,o⟩;subst B
   have L:lexLt j k=decide (items.size<f.size):=by
    cases v with
    |nil=>
     cases m with
     |nil=>
      exact(D0 61).symm
     |cons c u U=>
      simp only[Z5,D8]at i;exact(B8 61).symm
    |cons a t L=>
     cases m with
     |nil=>
      simp only[Z5,D8]at i;exact(D0 61).symm
     |cons c u U=>
      cases r
   rw[L]at o
   wp_walk
   exact⟨_,rfl,by simpa[Builtin.Tuple.tupleCompareSizes]using o⟩
  case h=>
   exact⟨rfl,rfl,items.toList,f.toList,ns,ms,rfl,hi,K,61,h⟩
end
section
variable{prog:Ue}{w:World}{A:Uf}{E:T0}{s:Ub}
def lt_tupInts{Q:T0}(k:IsTup s.heap l items)(m:IsTup s.heap b a)(hi:IntsAre items.toList ns)(o:IntsAre a.toList ms)
 (p:A.units<cLine) (h:Q (.bool (lexLt ns ms)) s):bz (bx prog w) A (cf .Lt (.ref l) (.ref b)) Q E s:=by
 let⟨⟨cls,q,data,sl⟩,i,r,n,hd⟩:=id k;let⟨⟨j,d,data2,e⟩,c,f,t,g⟩:=id m;subst r hd f g
 exact richCompare_meets_room (op:=.Lt) ⟨_,i,rfl⟩ ⟨_,c,rfl⟩ F.slot_tuple_lt F.entry_tuple_lt (F.args_tuple_lt_2 _ _) (IJ l b items a n t q d sl e ns ms hi o)
  ⟨i,c,show Value.bool (lexLt ns ms)≠Value.notImplemented/\Q (.bool (lexLt ns ms)) s from⟨(λx=>nomatch x),h⟩⟩ p
def cat_tup{vs ws:T4}{Q:T0}(ht:IsTup s.heap t vs.toArray)(m:IsTup s.heap b ws.toArray)(u:vs≠[])
 (o:ws=[]->Q (.ref t) s) (p:ws≠[]->Q (.ref s.heap.objs.size) { s with heap:=s.heap.push { cls:=.type "tuple",data:=.seq (vs++ws).toArray } })
 (q:vs.length+ws.length<=bv):bz (bx prog w) A (binaryOp .Add (.ref t) (.ref b)) Q E s:=by
 let⟨⟨cls,j,data,sl⟩,f,r,n,hd⟩:=id ht;let⟨⟨k,c,data2,d⟩,a,g,l,h⟩:=id m;subst r hd g h;have e:vs.toArray++ws.toArray=(vs++ws).toArray:=67
 by_cases i:ws=[]
 .exact concat_meets ⟨_,f,rfl⟩ ⟨_,a,rfl⟩ noFill_tuple_add seq_tuple_add F.slot_tuple_add F.entry_tuple_add (F.args_tuple_add_2 _ _)
   (tuple_addW1 t b vs.toArray ws.toArray n l j c sl d 68 (by simp[i])) ⟨f,a,o i⟩
 .refine concat_meets ⟨_,f,rfl⟩ ⟨_,a,rfl⟩ noFill_tuple_add seq_tuple_add F.slot_tuple_add F.entry_tuple_add (F.args_tuple_add_2 _ _)
   (tuple_addW2 t b vs.toArray ws.toArray n l j c sl d 68 68 61) ⟨f,a,?_⟩
  rw[e];exact p i
def sIx(n d:Nat):Tk->Nat
 |none=>d
 |some v=>if v<0 then(v+(n:Int)).toNat else min v.toNat n
def sIx_none(n d:Nat):sIx n d Y=d:=rfl
def sIx_nat(n d k:Nat):sIx n d (Z (k:Int))=min k n:=rfl
def sIx_le(n d:Nat)(hd:d<=n)(o:Tk):sIx n d o<=n:=by
 cases o with
 |none=>exact hd
 |some v=>
  show(if v<0 then(v+(n:Int)).toNat else min v.toNat n)<=n;by_cases a:v<0
  .rw[A8 a];omega
  .rw[B7 a];exact Nat.min_le_right _ _
def WZ(v:Int)(n d:Nat):(if v<0 then max (v+(n:Int)) 0 else min v (n:Int))=((sIx n d (Z v):Nat):Int):=by
 show(if v<0 then max (v+(n:Int)) 0 else min v (n:Int))=(((if v<0 then(v+(n:Int)).toNat else min v.toNat n):Nat):Int);by_cases a:v<0
 .simp only[A8 a];omega
 .simp only[B7 a];omega
def UM(lo hi:Tk)(n:Nat):Builtin.Slice.sliceAdjust lo hi 1 (n:Int)=(((sIx n 0 lo:Nat):Int),((sIx n n hi:Nat):Int)):=by
 have a:¬((1:Int)<0):=61
 unfold Builtin.Slice.sliceAdjust;refine Prod.ext ?_ ?_
 .cases lo with
  |none=>rfl
  |some v=>exact WZ v n 0
 .cases hi with
  |none=>rfl
  |some v=>exact WZ v n n
def VP(i j:Nat):Builtin.Slice.slicePlaces (i:Int) (j:Int) 1=j-i:=by
 unfold Builtin.Slice.slicePlaces;split<;>omega
def xJ{Q:Tk->Ub->Prop}(p:IsPart v o)(h:Q o s):bz (bx prog w) A (Builtin.Slice.slicePartIndex v) Q E s:=by
 cases p with
 |none=>exact slicePart_none h
 |int i t=>exact slicePart_int h
def pP{lo:Tk}{n:Nat}{Q:Int×Int×Nat->Ub->Prop}(hs:s.heap.IsSliceOf sl vl b .none)(c:IsPart vl lo)(d:IsPart b hi)
 (h:Q (((sIx n 0 lo:Nat):Int),1,sIx n n hi-sIx n 0 lo) s):bz (bx prog w) A (Builtin.Slice.sliceApplied (.ref sl)<|pure (n:Int)) Q E s:=by
 let⟨os,a,e,hds⟩:=id hs;refine A1<|A1<|E8 a hds rfl<|A1<|E8 a hds rfl<|A1<|E8 a hds rfl<|A4 ?_;refine A1<|slicePart_none ?_;refine A1<|xJ c<|A1<|xJ d<|A1<|A4 ?_;show bz _ _ (match Builtin.Slice.sliceAdjust lo hi 1 (n:Int)with|(lo,hi)=>pure (lo,(1:Int),Builtin.Slice.slicePlaces lo hi 1)) _ _ s;rw[UM lo hi n];show bz _ _ (pure (((sIx n 0 lo:Nat):Int),(1:Int),Builtin.Slice.slicePlaces ((sIx n 0 lo:Nat):Int) ((sIx n n hi:Nat):Int) 1)) _ _ s;rw[VP];exact A4 h
def aEq(xs:Ti)(i k:Nat):((List.range k).filterMap λ(m:Nat)=>xs[((i:Int)+(m:Int)*1).toNat]?).toArray=((xs.toList.drop i).take k).toArray:=by
 have e:(λ(m:Nat)=>xs[((i:Int)+(m:Int)*1).toNat]?)=λm=>xs[i+m]?:=by
  funext m;have:((i:Int)+(m:Int)*1).toNat=i+m:=61
  rw[this]
 rw[e];have:=pick_run xs i k;rw[List.filterMap_map]at this;have a:((λx=>xs[x]?) ∘ λx=>i+x)=λm=>xs[i+m]?:=rfl;rw[a]at this;rw[this]
def getItem_tuple_cut{lo:Tk}{Q:T0}(ht:IsTup s.heap t items)(hs:s.heap.IsSliceOf sl vl f .none)(g:IsPart vl lo)(i:IsPart f hi)
 (j:¬(sIx items.size 0 lo=0/\sIx items.size items.size hi=items.size))
 (h:Q (.ref s.heap.objs.size) { s with heap:=s.heap.push { cls:=.type "tuple",data:=.seq ((items.toList.drop<|sIx items.size 0 lo).take (sIx items.size items.size hi-sIx items.size 0 lo)).toArray } })
 (k:items.size<=bv):bz (bx prog w) A (getItem (.ref t) (.ref sl)) Q E s:=by
 have a:sizeOk (.seq ((items.toList.drop<|sIx items.size 0 lo).take (sIx items.size items.size hi-sIx items.size 0 lo)).toArray):=by
  show((items.toList.drop<|sIx items.size 0 lo).take (sIx items.size items.size hi-sIx items.size 0 lo)).toArray.size<=bv;rw[F4,A0r,A1k,D4];omega
 let⟨os,b,c,hds⟩:=id hs;have d:s.TypeIs (.ref sl) "slice":=⟨os,b,c⟩;unfold getItem
 try with_reducible refine E7 ?_
 first|refine A1 (A4 ?_)|skip
 refine A1<|wpAny_sequenceKey ht.typeIs 66 ?_
 refine A1 (J9 ht.typeIs U6
  (F7 U6 ht.typeIs entry_tuple_getitem ?_ (args_tuple_getitem _ _)))
 show bz _ _ (Builtin.Tuple.tupleItemsOf (.ref t) >>= _) _ _ s;refine A1<|tupleItemsOf_ ht ?_;refine A1<|A1e d ?_;refine A1<|pP hs g i ?_
 have e:¬((((sIx items.size 0 lo:Nat):Int)==0&&(1:Int)==1&&(sIx items.size items.size hi-sIx items.size 0 lo)==items.size)=true):=by
  intro q;rw[A9,A9]at q;have l:=eq_of_beq q.1.1;have m:=eq_of_beq q.2;exact j ⟨61,61⟩
 show bz _ _ (if (((sIx items.size 0 lo:Nat):Int)==0&&(1:Int)==1&&(sIx items.size items.size hi-sIx items.size 0 lo)==items.size)=true then _ else _) _ _ s;rw[B7 e,aEq]
 first
  |exact A1<|D6 (A4 ⟨_,rfl,A4 h⟩) a
  |exact A1<|D6 (A1<|A4<|A4 ⟨_,rfl,A4 h⟩) a
  |exact A1<|A1<|D6 (A4<|A4 ⟨_,rfl,A4 h⟩) a
  |exact A1<|A1<|D6 (A4 ⟨_,rfl,A4 h⟩) a
end
end HT
namespace L2
variable{H:Hp}{σ:St}{s:Ub}{pos:Pos}
open PySem PySem.Spec PyProof.Rows
abbrev TO:=St->Hp->(Tk->Hp->Prop)->Prop
def PO(X:Cx)(e:Tx Ud)(t:TO):Prop:=
 ∀(cp:T1)(s:Ub)(σ:St)(H:Hp)(Q:Tk->Hp->Prop),Inv X cp σ H s->t σ H Q->
  bz (bx X.prog X.w) X.A (evalPart e X.env) (λu s'=>∃o H',Inv X cp σ H' s'/\IsPart u o/\Q o H') X.xe s
def aAd:TO:=λ_ H Q=>Q Y H
def aJy(t:TE):TO:=λσ H Q=>t σ H λx a=>∃i,x=.int i/\Q (Z i) a
def intsAre_of{ns:T6}:∀{us:T4},bE (ns.map V.int) us->IntsAre us ns:=by
 induction ns with
 |nil=>intro us r;rw[List.map_nil]at r;cases r;exact .nil
 |cons n ns ih=>
  intro us r;cases r with
  |cons a b=>
   let⟨t,e⟩:=a;subst e;exact .cons n t (ih b)
section
variable{X:Cx}{e:Ud}{te:TE}{lo hi:Tx Ud}{tl th:TO}{pos p2:Pos}
def aHk:PO X Y aAd:=by
 intro cp s σ H Q I h;exact A4 ⟨Y,H,I,.none,h⟩
def aHJ(h:PE X e te):PO X (Z e) (aJy te):=by
 intro cp s σ H Q I a;refine thn (h cp s σ H _ I a) λu s1 ⟨x,b,c,d,f⟩=>?_;let⟨i,rfl,q⟩:=f;let⟨t,rfl⟩:=d;exact⟨Z i,b,c,.int i t,q⟩
def SlR(X:Cx)(r:V->Tk->Tk->Hp->VK->Prop):Prop:=
 ∀(cp:T1)(s:Ub)(σ:St)(H:Hp)(x:V)(v vl a:Tz)(lo hi:Tk)(sl:Uc)(Q:VK),Inv X cp σ H s->RelV x v->s.heap.IsSliceOf sl vl a .none->IsPart vl lo->IsPart a hi->r x lo hi H Q->
  ∃T id,typeLookup (.type T) "__getitem__"=pure (Z (.builtin id))/\s.TypeIs v T/\bz (bx X.prog X.w) X.A (getItem v (.ref sl)) (EP X cp σ Q) X.xe s
def SlR.or(h:SlR X r)(h':SlR X a):SlR X (λx lo hi H Q=>r x lo hi H Q\/a x lo hi H Q):=by
 intro cp s σ H x v vl b lo hi sl Q I c hs d f q;obtain q|q:=q
 .exact h cp s σ H x v vl b lo hi sl Q I c hs d f q
 .exact h' cp s σ H x v vl b lo hi sl Q I c hs d f q
noncomputable def tSl(r:V->Tk->Tk->Hp->VK->Prop)(te:TE)(tl th:TO):TE:=λσ H Q=>te σ H λx a=>tl σ a λl b=>th σ b λu c=>r x l u c Q
def aDX{r:V->Tk->Tk->Hp->VK->Prop}(d:SlR X r)(f:PE X e te)(g:PO X lo tl)(i:PO X hi th):PE X (.Subscript e (.Slice lo hi Y p2) pos) (tSl r te tl th):=by
 intro cp s σ H Q I h;refine Subscript_ (thn (f cp s σ H _ I h) λv s1 ⟨x,j,k,m,n⟩=>?_);refine wpAny_Slice (thn (g cp s1 σ j _ k n) λvl s2 ⟨l,o,p,t,w⟩=>thn (i cp s2 σ o _ p w) λa s3 ⟨u,c,y,z,A⟩=>?_);refine A4 ?_;have B:Inv X cp σ c { s3 with heap:=s3.heap.push { cls:=.type "slice",data:=.fields #[vl,a,.none] } }:=y.kept λb ob q=>A3 _ q;let⟨T,id,hT,ht,C⟩:=d cp { s3 with heap:=s3.heap.push { cls:=.type "slice",data:=.fields #[vl,a,.none] } } σ c x v vl a l u s3.heap.objs.size Q B m (Heap.IsSliceOf.new ..) t z A;exact tail_any ht hT C rfl
def PL(xs:Td)(lo hi:Tk):Td:=(xs.drop<|HT.sIx xs.length 0 lo).take (HT.sIx xs.length xs.length hi-HT.sIx xs.length 0 lo)
def BK(xs:Td)(lo hi:Tk):(PL xs lo hi).length<=xs.length:=by
 unfold PL;rw[A0r,A1k];omega
def aPM(K:Fg):V->Tk->Tk->Hp->VK->Prop:=λx lo hi H Q=>∃a xs,x=.ref a/\SqT K H a xs /\
 ¬(HT.sIx xs.length 0 lo=0/\HT.sIx xs.length xs.length hi=xs.length)/\∀p,H p=Y->Q (.ref p) (upd H p (.tup (PL xs lo hi)))
def sl_tup:SlR X (aPM X.K):=by
 intro cp s σ H x v vl k lo hi sl Q I d hs f g h;let⟨a,xs,rfl,i,l,q⟩:=h;cases d;let⟨its,r,ht,j⟩:=I.tuple i;have c:its.toArray.size=xs.length:=by rw[F4];exact r.length.symm
 refine⟨"tuple",_,PyProof.Rows.slot_tuple_getitem.lookup,ht.typeIs,?_⟩;refine HT.getItem_tuple_cut ht hs f g 68 ?_ 61;rw[c];refine⟨.ref s.heap.objs.size,_,I.laid (λb ob q=>A3 _ q) (B3 _) ?_,rfl,q _<|I.hok.fresh<|B3 _⟩;exact⟨C5 (BK xs lo hi) j,_,(r.drop<|HT.sIx xs.length 0 lo).take (HT.sIx xs.length xs.length hi-HT.sIx xs.length 0 lo),IsTup.new _ _⟩
def aDj(K:Fg):R2:=λx y H Q=>∃a b xs c,x=.ref a/\y=.ref b/\SqT K H a xs/\SqT K H b c/\xs≠[]/\xs.length+c.length<=bv /\
 (c=[]->Q (.ref a) H)/\(c≠[]->∀p,H p=Y->Q (.ref p) (upd H p (.tup (xs++c))))
def bE.nil_iff(r:bE xs us):us=[]↔xs=[]:=by
 cases r with
 |nil=>simp
 |cons _ _=>simp
def aGY:OpR X (binaryOp .Add) (aDj X.K):=by
 intro cp s σ H x y v u Q I i j h;let⟨a,b,xs,p,rfl,rfl,ha,k,l,f,m,n⟩:=h;cases i;cases j;let⟨its,d,o,_⟩:=I.tuple ha;let⟨g,c,p2,_⟩:=I.tuple k;refine HT.cat_tup o p2 (λz=>l<|d.nil_iff.mp z) (λz=>⟨.ref a,H,I,rfl,m<|c.nil_iff.mp z⟩) (λz=>?_) (by rw[<- d.length,<- c.length];exact f);refine⟨.ref s.heap.objs.size,_,I.laid (λb ob q=>A3 _ q) (B3 _) ?_,rfl,n (λw=>z<|c.nil_iff.mpr w) _<|I.hok.fresh<|B3 _⟩;exact⟨by rw[B6];exact f,_,d.append c,IsTup.new _ _⟩
end
def ixN(n:Nat)(i:Int):Tg:=if 0<=i then(if i<n then Z i.toNat else Y)else if -(n:Int)<=i then Z (i+n).toNat else Y
def atI{a:Type}(xs:Tv a)(i:Int):Tx a:=(ixN xs.length i).bind λj=>xs[j]?
def YA{n:Nat}{j:Nat}(h:ixN n i=Z j):seqIndex? i n=Z j/\j<n/\-(n:Int)<=i/\i<n:=by
 unfold ixN at h;by_cases b:0<=i
 .rw[A8 b]at h;by_cases a:i<n
  .rw[A8 a]at h;have e:=E5 h;exact⟨by rw[seqIndex_of b a,e],61,61,a⟩
  .rw[B7 a]at h;cases h
 .rw[B7 b]at h;by_cases a:-(n:Int)<=i
  .rw[A8 a]at h;have e:=E5 h;exact⟨by rw[seqIndex_neg 61 a,e],61,a,61⟩
  .rw[B7 a]at h;cases h
def LK{a:Type}{xs:Tv a}{v:a}(h:atI xs i=Z v):∃j,seqIndex? i xs.length=Z j/\xs[j]?=Z v/\j<xs.length/\-(xs.length:Int)<=i/\i<xs.length:=by
 unfold atI at h;cases e:ixN xs.length i with
 |none=>rw[e]at h;cases h
 |some j=>
  rw[e]at h;let⟨b,c,d,f⟩:=YA e;exact⟨j,b,h,c,d,f⟩
def lM{a:Type}{xs:Tv a}{j:Nat}{v:a}(h:xs[j]?=Z v):atI xs (j:Int)=Z v:=by
 have b:=(B9.mp h).1
 have e:ixN xs.length (j:Int)=Z j:=by
  unfold ixN;rw[A8 61,A8 61];simp
 unfold atI;rw[e];exact h
def ZK(b:Ud):Prop:=∀o i,subscripted b false o i=operate [o,i] (getItem o i)
def IxR(X:Cx)(r:R2):Prop:=
 ∀(b a:Ud)(cp:T1)(s:Ub)(σ:St)(H:Hp)(x y:V)(v u:Tz)(Q:VK),Inv X cp σ H s->RelV x v->RelV y u->r x y H Q->
  subscripted a false v u=operate [v,u] (getItem v u)->bz (bx X.prog X.w) X.A (subscriptTail b a v u) (EP X cp σ Q) X.xe s
def MtR(X:Cx)(id:String)(r:V->Td->Hp->VK->Prop):Prop:=
 ∀(cp:T1)(s:Ub)(σ:St)(H:Hp)(x:V)(xs:Td)(v:Tz)(us:T4)(Q:VK),Inv X cp σ H s->RelV x v->bE xs us->r x xs H Q->
  bz (bx X.prog X.w) X.A (call (.builtin id) (v::us)) (EP X cp σ Q) X.xe s
section
variable{X:Cx}{a b:Ud}{ta tb:TE}{pos:Pos}
def IxR.or(h:IxR X r)(h':IxR X e):IxR X (λx y H Q=>r x y H Q\/e x y H Q):=by
 intro c d cp s σ H x y v u Q I f g q hs;obtain q|q:=q
 .exact h c d cp s σ H x y v u Q I f g q hs
 .exact h' c d cp s σ H x y v u Q I f g q hs
def aOZ(c:IxR X r)(ha:PE X a ta)(d:PE X b tb)(hs:ZK b):PE X (.Subscript a b pos) (tOp r ta tb):=by
 intro cp s σ H Q I h;exact Subscript_ (aNu ha d I h λv u s2 x y e f g i q=>c a b cp s2 σ e x y v u Q f g i q<|hs _ _)
def aPC(K:Fg):R2:=λx y H Q=>∃p xs i v,x=.ref p/\y=.int i/\SqL K H p xs/\atI xs i=Z v/\Q v H
def aOc(K:Fg):R2:=λx y H Q=>∃p xs i v,x=.ref p/\y=.int i/\SqT K H p xs/\atI xs i=Z v/\Q v H
def aOm:R2:=λx y H Q=>∃z i c,x=.str z/\y=.int i/\z.length<=bv/\atI z.cps.toList i=Z c/\Q (.str ⟨#[c]⟩) H
def ix_list:IxR X (aPC X.K):=by
 intro e f cp s σ H x y v u Q I m n h hs;let⟨p,xs,i,z,rfl,rfl,o,A,q⟩:=h;cases m;let⟨t,rfl⟩:=n;let⟨its,r,g,G⟩:=I.list o;let⟨j,d,B,J,C,D⟩:=LK A;let⟨w,L,k⟩:=r.get B;have E:=r.length;have hn:=FE;have c:EP X cp σ Q w s:=⟨z,H,I,k,q⟩;by_cases l:0<=i
 .have F:i.toNat=j:=by
   rw[seqIndex_of l D]at d;exact E5 d
  exact item_listR g.isList l 61 68 c hs
 .have F:(i+(its.toArray.size:Int)).toNat=j:=by
   rw[seqIndex_neg 61 C]at d;rw[F4,<- E];exact E5 d
  exact subscriptTail_builtinR g.isList.typeIs slot_list_getitem.lookup
   (wpAny_getItem_list_neg g.isList 61 68 61 68 ⟨rfl,c⟩) hs
def ix_tup:IxR X (aOc X.K):=by
 intro c d cp s σ H x y v u Q I k l h hs;let⟨p,xs,i,z,rfl,rfl,m,n,q⟩:=h;cases k;let⟨t,rfl⟩:=l;let⟨its,r,g,C⟩:=I.tuple m;let⟨j,o,A,D,E,F⟩:=LK n;let⟨w,G,e⟩:=r.get A;have B:=r.length;have hn:=FE;have f:EP X cp σ Q w s:=⟨z,H,I,e,q⟩
 exact subscriptTail_builtinR g.typeIs slot_tuple_getitem.lookup
  (getItem_tuple g 61 61 (by rw[F4,<- B];exact o) 68 ⟨rfl,f⟩) hs
def aMn:IxR X aOm:=by
 intro d e cp s σ H x y v u Q I f g h hs;let⟨z,i,c,rfl,rfl,w,k,q⟩:=h;let⟨t,rfl⟩:=f;let⟨A,rfl⟩:=g;let⟨j,l,B,C,m,n⟩:=LK k;have o:z.cps.toList.length=z.length:=by rfl
 rw[o]at l m n;have hn:=FE
 exact tail_any (typeIs_str s z t) slot_str_getitem.lookup (getItem_str (by
  have p:decide (i < -(2 ^ 63:Int))=false:=D0 61;have r:decide (i>=2 ^ 63)=false:=D0 61;rw[p,r,Bool.or_false]) 68 ⟨.str ⟨#[c]⟩,H,I.tok _,⟨_,rfl⟩,q⟩) hs
def rIx(K:Fg):R2:=λx y H Q=>aPC K x y H Q\/aOc K x y H Q\/aOm x y H Q
def aNq:IxR X (rIx X.K):=ix_list.or<|ix_tup.or aMn
def UF(its:T4)(n j:Nat)(u:Tz):Obj.mapSeq (·.setIfInBounds j u) { cls:=.type "list",data:=.seq its.toArray n }={ cls:=.type "list",data:=.seq (its.set j u).toArray n }:=by
 simp[Obj.mapSeq]
def Inv.lst(I:Inv X cp σ H s)(h:H p=Z (.lst xs)):
 ∃(its:T4)(n:Nat),bE xs its/\s.heap.get? p=Z { cls:=.type "list",data:=.seq its.toArray n }/\xs.length<=bv:=by
 let⟨z,its,n,r,e⟩:=I.hok p _ h;exact⟨its,n,r,e,z⟩
def Inv.lstUpd{its its':T4}{f:Obj->Obj}(I:Inv X cp σ H s)(h:H p=Z (.lst xs))
 (g:s.heap.get? p=Z { cls:=.type "list",data:=.seq its.toArray n }) (d:f { cls:=.type "list",data:=.seq its.toArray n }={ cls:=.type "list",data:=.seq its'.toArray c }) (r:bE ys its') (i:ys.length<=bv) (t:Nat):
 Inv X cp σ (upd H p (.lst ys)) { s with heap:=s.heap.update p f,toks:=t }:=by
 have e:(s.heap.update p f).get? p=Z { cls:=.type "list",data:=.seq its'.toArray c }:=by
  rw[L6 f g (by rw[d]<;>rfl),d]
 refine I.write (by rw[h];trivial) (.inl rfl) (λb u j q=>(S8 _ _<|Y6 j).trans q) ⟨_,e⟩ ?_;exact⟨i,its',c,r,e⟩
def aJr:V->V->V->Hp->(Hp->Prop)->Prop:=λo i v H Q=>∃p xs k j,o=.ref p/\i=.int k/\H p=Z (.lst xs)/\ixN xs.length k=Z j/\Q (upd H p (.lst (xs.set j v)))
def set_list:aMT X aJr:=by
 intro cp s σ H o i v B C u Q I g l m h;let⟨p,xs,k,j,rfl,rfl,e,w,q⟩:=h;cases g;let⟨t,rfl⟩:=l;let⟨its,n,r,d,D⟩:=I.lst e;let⟨c,E,x,y⟩:=YA w;have z:=r.length;have hn:=FE
 have F:Inv X cp σ (upd H p (.lst (xs.set j v))) { s with heap:=s.heap.update p (Obj.mapSeq (·.setIfInBounds j u)) }:=
  I.lstUpd e d (UF its n j u) (r.set m j) 68 s.toks
 by_cases f:0<=k
 .have A:k.toNat=j:=by
   rw[seqIndex_of f y]at c;exact E5 c
  exact W.ki_setAt d f 61 68 68
 .have A:(k+(its.toArray.size:Int)).toNat=j:=by
   rw[seqIndex_neg 61 x]at c;rw[F4,<- z];exact E5 c
  exact W.ki_setBack d 61 68 61 68
def NC(lo hi:Tk)(n:Nat):(sliceBounds lo hi Y n).1=((HT.sIx n 0 lo:Nat):Int)/\(sliceBounds lo hi Y n).2.1=((HT.sIx n n hi:Nat):Int)/\(sliceBounds lo hi Y n).2.2=1:=by
 refine⟨?_,?_,rfl⟩
 .cases lo with
  |none=>simp[sliceBounds,HT.sIx]
  |some i=>
   simp only[sliceBounds,HT.sIx,Option.getD_none];by_cases h:i<0
   .simp only[h,A0g]<;>omega
   .simp only[h,A2p]<;>omega
 .cases hi with
  |none=>simp[sliceBounds,HT.sIx]
  |some i=>
   simp only[sliceBounds,HT.sIx,Option.getD_none];by_cases h:i<0
   .simp only[h,A0g]<;>omega
   .simp only[h,A2p]<;>omega
def HW(its:T4)(lo hi:Tk):slicePick its.toArray lo hi Y=((its.drop<|HT.sIx its.length 0 lo).take (HT.sIx its.length its.length hi-HT.sIx its.length 0 lo)).toArray:=by
 let⟨c,d,e⟩:=NC lo hi its.toArray.size;unfold slicePick;rw[c,d,e];simp only[sliceRange_one,pick_run]<;>rfl
def aOY(K:Fg):V->Tk->Tk->Hp->VK->Prop:=λx lo hi H Q=>∃a xs,x=.ref a/\SqL K H a xs/\∀p,H p=Y->Q (.ref p) (upd H p (.lst (PL xs lo hi)))
def sl_list:SlR X (aOY X.K):=by
 intro cp s σ H x v vl j lo hi sl Q I d hs e f h;let⟨a,xs,rfl,g,q⟩:=h;cases d;let⟨its,r,ht,i⟩:=I.list g;have c:=r.length;refine⟨"list",_,slot_list_getitem.lookup,ht.isList.typeIs,?_⟩;refine wpAny_getItem_list_slice ht.isList hs e f .none 67 ?_ 68;rw[HW,<- c];refine⟨.ref s.heap.objs.size,_,I.laid (λb ob q=>A3 _ q) (B3 _) ?_,rfl,q _<|I.hok.fresh<|B3 _⟩;exact⟨C5 (BK xs lo hi) i,_,0,(r.drop<|HT.sIx xs.length 0 lo).take (HT.sIx xs.length xs.length hi-HT.sIx xs.length 0 lo),B5 _ rfl⟩
def LY:dH X (.builtin "len") (λxs H Q=>∃p ys,xs=[.ref p]/\(SqL X.K H p ys\/SqT X.K H p ys)/\Q (.int ys.length) H):=by
 intro cp s σ H xs us Q I r h;let⟨p,ys,rfl,hq,q⟩:=h;let⟨u,rfl,f⟩:=vals1 r;cases f;have hn:=FE;obtain hq|hq:=hq
 .let⟨its,d,e,g⟩:=I.list hq;have c:=d.length;exact Calls.call_len_list e.isList 68 ⟨.int ys.length,H,I.tok _,⟨s.toks+1,by rw[F4,c]⟩,q⟩
 .let⟨its,d,e,g⟩:=I.tuple hq;have c:=d.length;exact len_tuple e 68 ⟨.int ys.length,H,I.tok _,⟨s.toks+1,by rw[F4,c]⟩,q⟩
def dH.or(h:dH X f r)(h':dH X f c):dH X f (λxs H Q=>r xs H Q\/c xs H Q):=by
 intro cp s σ H xs us Q I rs q;obtain q|q:=q
 .exact h cp s σ H xs us Q I rs q
 .exact h' cp s σ H xs us Q I rs q
def OA:dH X (.type "list") (λxs H Q=>∃p ys,xs=[.ref p]/\(SqL X.K H p ys\/SqT X.K H p ys)/\∀l,H l=Y->Q (.ref l) (upd H l (.lst ys))):=by
 intro cp s σ H xs us Q I r h;let⟨p,ys,rfl,hq,q⟩:=h;let⟨u,rfl,m⟩:=vals1 r;cases m
 have d:∀(its:T4),bE ys its->ys.length<=bv->∀(h':Heap)(c':Nat),(∀b o',s.heap.get? b=Z o'->h'.get? b=Z o')->
  h'.get? s.heap.objs.size=Z { cls:=.type "list",dict:=Y,data:=.seq its.toArray c',slots:=#[] }->EP X cp σ Q (.ref s.heap.objs.size) { s with heap:=h' }:=λits c f h' c' kp e=>
  ⟨.ref s.heap.objs.size,_,I.laid kp (B3 _) (show fA X.prog X.w _ h' _ (.lst ys)from⟨f,its,c',c,e⟩),rfl,q _<|I.hok.fresh<|B3 _⟩
 obtain hq|hq:=hq
 .let⟨its,c,i,f⟩:=I.list hq;have g:=c.length;let⟨o,j,k,n,hd⟩:=i.isList;exact call_list_seq p (.inl rfl) j k hd (λh' c' kp e=>d its c f h' c' kp e) 68
 .let⟨its,c,i,f⟩:=I.tuple hq;have g:=c.length;let⟨o,j,k,n,hd⟩:=i;exact call_list_seq p (.inr rfl) j k hd (λh' c' kp e=>d its c f h' c' kp e) 68
def IL:dH X (.type "tuple") (λxs H Q=>∃p ys,xs=[.ref p]/\((SqL X.K H p ys/\∀l,H l=Y->Q (.ref l) (upd H l (.tup ys)))\/(SqT X.K H p ys/\Q (.ref p) H))):=by
 intro cp s σ H xs us Q I r h;let⟨p,ys,rfl,h⟩:=h;let⟨u,rfl,k⟩:=vals1 r;cases k;obtain⟨c,q⟩|⟨c,q⟩:=h
 .let⟨its,d,f,g⟩:=I.list c;have i:=d.length;refine call_tuple_list f.isList (λh' kp=>?_) 68;have j:=I.kept (t':=s.toks) kp
  have m:Inv X cp σ (upd H h'.objs.size (.tup ys)) { s with heap:=h'.push { cls:=.type "tuple",data:=.seq its.toArray } }:=
   j.laid (λb o e=>A3 _ e) (B3 _) (⟨g,its,d,IsTup.new _ _⟩)
  exact⟨.ref h'.objs.size,_,m,rfl,q _<|j.hok.fresh<|B3 _⟩
 .let⟨its,d,f,g⟩:=I.tuple c;exact call_tuple_same f ⟨.ref p,H,I,rfl,q⟩
def tyV(K:Fg)(T:String)(x:V)(H:Hp):Prop:=match x with
 |.str _=>T="str"
 |.int _=>T="int"
 |.ref p=>(T="list"/\∃xs,SqL K H p xs)\/(T="tuple"/\∃o,K.lookup p=Z o/\o.cls=.type "tuple"/\o.dict=Y) \/
  (T="dict"/\((∃kvs,H p=Z (.dK kvs))\/∃kvs,H p=Z (.dT kvs)))\/(T="set"/\∃S n,H p=Z (.set S n))
 |_=>False
def aDq(I:Inv X cp σ H s)(r:RelV x v)(ty:tyV X.K T x H):
 s.TypeIs v T/\∀a,v=.ref a->∃ob,s.heap.get? a=Z ob/\ob.dict=Y:=by
 cases x with
 |str z=>
  let⟨t,rfl⟩:=r;cases ty;exact⟨typeIs_str s z t,λ_ e=>nomatch e⟩
 |int i=>
  let⟨t,rfl⟩:=r;cases ty;exact⟨typeIs_int s i t,λ_ e=>nomatch e⟩
 |ref p=>
  cases r;obtain⟨rfl,xs,h⟩|⟨rfl,o,d,j,hd⟩|⟨rfl,d⟩|⟨rfl,S,n,d⟩:=ty
  .let⟨its,_,g,_⟩:=I.list h;refine⟨g.isList.typeIs,λa e=>?_⟩;cases e;let⟨o,n,e,c,hd,_⟩:=g;exact⟨o,e,hd⟩
  .refine⟨⟨o,I.kIn p o d,j⟩,λa e=>?_⟩;cases e;exact⟨o,I.kIn _ o d,hd⟩
  .have z:∃o,s.heap.get? p=Z o/\o.ExactDict:=by
    obtain⟨kvs,d⟩|⟨kvs,d⟩:=d
    .let⟨_,_,_,_,o,_,_,e,ex,_⟩:=I.hok p _ d;exact⟨o,e,ex⟩
    .let⟨_,_,_,_,o,_,_,e,ex,_⟩:=I.hok p _ d;exact⟨o,e,ex⟩
   let⟨o,e,ex⟩:=z;refine⟨⟨o,e,ex.1⟩,λa f=>?_⟩;cases f;exact⟨o,e,ex.2.1⟩
  .let⟨o,_,_,_,e,ex,_⟩:=I.hok p _ d;refine⟨⟨o,e,ex.1⟩,λa f=>?_⟩;cases f;exact⟨o,e,ex.2.1⟩
 |_=>exact False.elim ty
noncomputable def aPO(K:Fg)(T:String)(r:V->Td->Hp->VK->Prop)(to:TE):TE:=λσ H Q=>to σ H λx c=>tyV K T x c/\r x [] c Q
noncomputable def tBM(K:Fg)(T:String)(r:V->Td->Hp->VK->Prop)(to:TE)(t:TA):TE:=λσ H Q=>to σ H λx c=>tyV K T x c/\t σ c λxs d=>r x xs d Q
variable{o e:Ud}{es:T8}{to:TE}{t:TA}{name:Str}{apos cpos:Pos}{T id:String}{r:V->Td->Hp->VK->Prop}
def aDb(j:PlainAttrs T)(slot:Slot T name id)(f:typeOf (.builtin id)=pure (.type "method_descriptor"))(hm:MtR X id r)(k:PE X o to)
 (c:attributeBase o name X.env (eval o X.env)=eval o X.env:=by rfl) (d:(apos.endLine==cpos.line)=true:=by rfl):PE X (.Call (.Attribute o name apos) [] [] cpos) (aPO X.K T r to):=by
 intro cp s σ H Q I h;refine wpAny_Call_method0_late c d (thn (k cp s σ H _ I h) λv s1 ⟨x,l,g,i,ty,m⟩=>?_);let⟨n,p⟩:=aDq g i ty;exact⟨T,id,j,slot,f,n,p,Calls.callWith_builtin rfl<|PySem.evalArgs_none<|hm cp s1 σ l x [] v [] Q g i .nil m⟩
def aQa(m:PlainAttrs T)(slot:Slot T name id)(i:typeOf (.builtin id)=pure (.type "method_descriptor"))(hm:MtR X id r)(n:PE X o to)(ha:PA X (e::es) t)
 (c:attributeBase o name X.env (eval o X.env)=eval o X.env:=by rfl)
 (f:((backTo cpos<|cb (e::es) X.env).all (λx=>!x.1)&&(backToKw cpos<|keywordEach [] X.env).all (λx=>x.1.isSome)
  && decide ((e::es).length+([]:Tv Keyword).length+(if ([]:Tv Keyword).isEmpty then 0 else 1)<30))=true:=by rfl)
 (d:(apos.endLine==cpos.line)=true:=by rfl) (hs:cb (e::es) X.env=(false,eval e X.env)::cb es X.env:=by rfl) (g:(backTo cpos<|cb es X.env).any (·.1)=false:=by rfl):
 PE X (.Call (.Attribute o name apos) (e::es) [] cpos) (tBM X.K T r to t):=by
 intro cp s σ H Q I h;refine wpAny_Call_method_late c f d rfl (thn (n cp s σ H _ I h) λv s1 ⟨x,p,j,k,ty,q⟩=>?_);let⟨u,w⟩:=aDq j k ty;refine⟨T,id,m,slot,i,u,w,?_⟩;have l:=ha cpos cp s1 σ p _ j q;rw[hs]at l ⊢;refine Calls.callWith_builtin 68<|Calls.evalArgs_plain ?_;exact thn l λus s2 ⟨vs,y,z,A,B⟩=>hm cp s2 σ y x vs v us Q z k A B
end
def MtM(X:Cx)(id:String)(r:V->Td->Hp->VK->Prop):Prop:=
 ∀(cp:T1)(s:Ub)(σ:St)(H:Hp)(x:V)(xs:Td)(v:Tz)(us:T4)(Q:VK),Inv X cp σ H s->RelV x v->bE xs us->r x xs H Q->
  bz (bx X.prog X.w) X.A (call (.builtin id) (v::us)) (EP X cp σ Q) X.xe s
def bE.one{x:V}{us:T4}(h:bE [x] us):∃u,us=[u]/\RelV x u:=by
 cases h with
 |cons r h=>cases h;exact⟨_,rfl,r⟩
def bE.zero:∀{us:T4},bE [] us->us=[]
 |_,.nil=>rfl
def bE.dropLast(h:bE xs us):bE xs.dropLast us.dropLast:=by
 induction h with
 |nil=>exact .nil
 |cons r t ih=>
  cases t with
  |nil=>exact .nil
  |cons q a=>exact .cons r ih
def bE.reverse(h:bE xs us):bE xs.reverse us.reverse:=by
 induction h with
 |nil=>exact .nil
 |cons r t ih=>rw[A0b,A0b];exact bE.append ih (.cons r .nil)
def UD{a:Type}(l:Tv a):l.eraseIdx (l.length-1)=l.dropLast:=68
section
variable{X:Cx}{cp:T1}{σ:St}{H:Hp}{s:Ub}{l b:Uc}{xs ys zs:Td}
def Inv.lset{its its':T4}{f:Ti->Ti}{t':Nat}(I:Inv X cp σ H s)(a:H l=Z (.lst xs))
 (e:s.heap.get? l=Z { cls:=.type "list",data:=.seq its.toArray n }) (c:f its.toArray=its'.toArray) (d:bE ys its') (g:ys.length<=bv):
 Inv X cp σ (upd H l (.lst ys)) { s with heap:=s.heap.update l<|Obj.mapSeq f,toks:=t' }:=by
 have q:=PySem.IsL.update e f;rw[c]at q;refine I.write (by rw[a];exact trivial) (.inl rfl) (λj u h i=>(S8 s.heap (Obj.mapSeq f)<|Y6 h).trans i) ⟨_,q⟩ ?_;exact⟨g,its',_,d,q⟩
def Inv.lnew{t':Nat}(I:Inv X cp σ H s)(a:bE ys its)(c:ys.length<=bv):
 Inv X cp σ (upd H s.heap.objs.size (.lst ys)) { s with heap:=s.heap.push { cls:=.type "list",data:=.seq its.toArray },toks:=t' }:=
 I.laid (λ_ _ q=>A3 _ q) (B3 _) ⟨c,its,0,a,B5 _ rfl⟩
def Inv.fresh(I:Inv X cp σ H s):H s.heap.objs.size=Y:=I.hok.fresh<|B3 _
def Inv.lstM(I:Inv X cp σ H s)(a:H l=Z (.lst xs)):xs.length<=bv/\∃(its:T4)(n:Nat),bE xs its/\xs.length=its.length/\s.heap.get? l=Z { cls:=.type "list",data:=.seq its.toArray n }:=by
 let⟨z,its,n,r,e⟩:=I.hok l _ a;exact⟨z,its,n,r,r.length,e⟩
end
section
variable{X:Cx}
def ZJ:V->Td->Hp->VK->Prop:=λx vs H Q=>∃l xs y,x=.ref l/\vs=[y]/\H l=Z (.lst xs)/\xs.length<bv/\Q .non (upd H l (.lst (xs++[y])))
def aBx:MtM X "list.append" ZJ:=by
 intro cp s σ H x vs v us Q I b c h;let⟨l,xs,y,rfl,rfl,a,f,q⟩:=h;cases b;let⟨u,rfl,d⟩:=c.one;let⟨z,its,n,r,g,e⟩:=I.lstM a;refine call_meets F.slot_list_append ⟨_,e,rfl⟩ F.entry_list_append (F.args_list_append_2 _ _) (PySem.list_append l its.toArray n u 68) ⟨e,?_⟩;refine⟨.non,_,I.lset a e 67 (r.append (.cons d .nil)) ?_,rfl,q⟩;rw[B6,E9];omega
def aPB:V->Td->Hp->VK->Prop:=λx vs H Q=>∃l xs y,x=.ref l/\vs=[]/\H l=Z (.lst xs)/\xs[xs.length-1]?=Z y/\Q y (upd H l (.lst xs.dropLast))
def aLP:MtM X "list.pop" aPB:=by
 intro cp s σ H x vs v us Q I d f h;let⟨l,xs,y,rfl,rfl,c,g,q⟩:=h;cases d;have a:=f.zero;subst a;let⟨z,its,n,r,i,e⟩:=I.lstM c;let⟨u,j,k⟩:=r.get g
 have b:its.toArray[its.toArray.size-1]?=Z u:=by
  show its.toArray[its.length-1]?=Z u;rw[<- F8,<- i];exact j
 refine call_meets F.slot_list_pop ⟨_,e,rfl⟩ F.entry_list_pop (F.args_list_pop_1 _) (MeetsSeq.list_pop_last l its.toArray n u b 68) ⟨e,?_⟩;refine⟨y,_,I.lset c e ?_ r.dropLast ?_,k,q⟩
 .show its.toArray.eraseIdxIfInBounds (its.toArray.size-1)=its.dropLast.toArray;rw[F4,List.eraseIdxIfInBounds_toArray,UD]
 .rw[List.length_dropLast];omega
def SW:V->Td->Hp->VK->Prop:=λx vs H Q=>∃l xs,x=.ref l/\vs=[]/\H l=Z (.lst xs)/\Q .non (upd H l (.lst xs.reverse))
def UP:MtM X "list.reverse" SW:=by
 intro cp s σ H x vs v us Q I c d h;let⟨l,xs,rfl,rfl,b,q⟩:=h;cases c;have a:=d.zero;subst a;let⟨z,its,n,r,f,e⟩:=I.lstM b;refine call_meets F.slot_list_reverse ⟨_,e,rfl⟩ F.entry_list_reverse (F.args_list_reverse_1 _) (AutoSeq1.list_reverse_list_0 l its.toArray n 68) ⟨e,?_⟩;refine⟨.non,_,I.lset b e 67 r.reverse ?_,rfl,q⟩;rw[Y2];omega
end
section
variable{κ:Type}[DecidableEq κ]
noncomputable def jO(kvs:Tv (κ×V))(k:κ):Tx V:=(kvs.find? λa=>decide (a.1=k)).map (·.2)
noncomputable def putK(kvs:Tv (κ×V))(k:κ)(v:V):Tv (κ×V):=
 if (kvs.any λa=>decide (a.1=k))=true then kvs.map (λa=>if a.1=k then(a.1,v)else a)else kvs++[(k,v)]
def GM{p:κ×V}{r:Tv (κ×V)}{k:κ}(e:p.1=k):jO (p::r) k=Z p.2:=by simp[jO,O9,e]
def FL{p:κ×V}{r:Tv (κ×V)}{k:κ}(e:¬p.1=k):jO (p::r) k=jO r k:=by simp[jO,O9,e]
theorem EN(k:κ):∀kvs:Tv (κ×V),(kvs.any λa=>decide (a.1=k))=(jO kvs k).isSome
 |[]=>rfl
 |p::r=>by
  rw[Z1];by_cases e:p.1=k
  .simp only[GM e,B8 e,Bool.true_or,Option.isSome_some]
  .rw[FL e,D0 e,Bool.false_or];exact EN k r
def kL(kvs:Tv (κ×V))(k:κ)(v:V):(putK kvs k v).length<=kvs.length+1:=by
 unfold putK;split
 .rw[A6];omega
 .rw[B6,D8,Z5];omega
def aCW{k:κ}(v:V)(h:jO kvs k=Y):putK kvs k v=kvs++[(k,v)]:=by
 unfold putK;rw[EN,h];exact B7 66
def BA.isSome_eq(r:BA o u):o.isSome=u.isSome:=by
 cases o with
 |none=>cases u with
  |none=>rfl
  |some _=>exact r.elim
 |some _=>cases u with
  |none=>exact r.elim
  |some _=>rfl
def KV.val(r:KV kvs vs)(k:κ):BA (jO kvs k) (valueAt vs k):=by
 induction r with
 |nil=>exact True.intro
 |@cons p q ps a h t ih=>
  let⟨d,f⟩:=h;by_cases e:p.1=k
  .have c:=d.symm.trans e;have b:valueAt (q::a) k=Z q.2:=by simp[valueAt,O9,c]
   rw[GM e,b];exact f
  .have c:¬q.1=k:=λz=>e<|d.trans z;have b:valueAt (q::a) k=valueAt a k:=by simp[valueAt,O9,c]
   rw[FL e,b];exact ih
def KV.any(r:KV kvs vs)(k:κ):(kvs.any λa=>decide (a.1=k))=vs.any λa=>decide (a.1=k):=by
 induction r with
 |nil=>rfl
 |cons h t ih=>rw[Z1,Z1,ih,h.1]
def KV.repl(r:KV kvs vs)(k:κ)(c:RelV y u):
 KV (kvs.map λa=>if a.1=k then(a.1,y)else a) (vs.map λa=>if a.1=k then(a.1,u)else a):=by
 induction r with
 |nil=>exact .nil
 |@cons p q ps f h t ih=>
  rw[C6,C6];refine .cons ?_ ih;let⟨b,d⟩:=h;by_cases e:p.1=k
  .rw[A8 e,A8<|b.symm.trans e];exact⟨b,c⟩
  .rw[B7 e,B7 λz=>e<|b.trans z];exact⟨b,d⟩
def KV.put(r:KV kvs vs)(k:κ)(a:RelV y u):KV (putK kvs k y) (stored vs k u):=by
 unfold putK stored;rw[r.any k];by_cases e:(vs.any λb=>decide (b.1=k))=true
 .rw[A8 e,A8 e];exact r.repl k a
 .rw[B7 e,B7 e];exact Paired.snoc r ⟨rfl,a⟩
def KV.length(r:KV kvs vs):kvs.length=vs.length:=A2o r
end
def KN{P:Ue}(r:RelV (kV k) u):(dX P w).is k u=true:=by
 cases k with
 |inl i=>let⟨t,e⟩:=r;subst e;exact OK P w i t
 |inr x=>let⟨t,e⟩:=r;subst e;exact PX P w x t
theorem IY{P:Ue}:∀{ks:Tv Key}{us:T4},bE (ks.map kV) us->ItemsAre (dX P w) ks us
 |[],_=>λr=>by rw[List.map_nil]at r;cases r;exact .nil
 |k::ks,_=>λr=>by
  cases r with
  |cons h t=>exact .cons (KN h) (IY t)
abbrev KT(H:Hp):Tv (Tv Key×V)->Tv (Tv Key×Uc×Tz)->Prop:=Paired λp q=>p.1=q.1/\H q.2.1=Z (.tup (p.1.map kV))/\RelV p.2 q.2.2
def KT.val(r:KT H kvs xs)(k:Tv Key):BA (jO kvs k) ((atKey xs k).map (·.2)):=by
 induction r with
 |nil=>exact True.intro
 |@cons p q ps a h t ih=>
  let⟨d,_,f⟩:=h;by_cases e:p.1=k
  .have c:=d.symm.trans e;have b:atKey (q::a) k=Z q.2:=by simp[atKey,O9,c]
   rw[GM e,b];exact f
  .have c:¬q.1=k:=λz=>e<|d.trans z;have b:atKey (q::a) k=atKey a k:=by simp[atKey,O9,c]
   rw[FL e,b];exact ih
def KT.repl(r:KT H kvs xs)(k:Tv Key)(d:RelV y u):
 KT H (kvs.map λb=>if b.1=k then(b.1,y)else b) (xs.map<|putAt k u):=by
 induction r with
 |nil=>exact .nil
 |@cons p q ps g h t ih=>
  rw[C6,C6];refine .cons ?_ ih;let⟨a,c,f⟩:=h;unfold putAt;by_cases e:p.1=k
  .rw[A8 e,A8<|a.symm.trans e];exact⟨a,c,d⟩
  .rw[B7 e,B7 λz=>e<|a.trans z];exact⟨a,c,f⟩
def KT.put(r:KT H kvs xs)(k:Tv Key)(c:H b=Z (.tup (k.map kV)))(a:RelV y u):
 KT H (putK kvs k y) (storedH xs k b u):=by
 have e:(kvs.any λd=>decide (d.1=k))=(atKey xs k).isSome:=by
  rw[EN,(r.val k).isSome_eq,Option.isSome_map]
 unfold putK storedH;rw[e];by_cases q:(atKey xs k).isSome=true
 .rw[A8 q,A8 q];exact r.repl k a
 .rw[B7 q,B7 q];exact Paired.snoc r ⟨rfl,c,a⟩
def KT.keeps{H':Hp}(r:KT H kvs xs)(ht:∀b ys,H b=Z (.tup ys)->H' b=Z (.tup ys)):KT H' kvs xs:=
 Paired.mapP r λ_ _ z=>⟨z.1,ht _ _ z.2.1,z.2.2⟩
section
variable{P:Ue}{w:World}{H:Hp}{h:Heap}{a:Uc}
def aJP(ok:HOk P w H h)(e:Rd H a u):fA P w H h a u:=e.ok ok
def aAt(ok:HOk P w H h)(e:Rd H a (.dK kvs)):kvs.length<=bv/\(a==sysModules)=false/\∃vs,KV kvs vs/\h.DictOf (dX P w) a vs:=
 show fA P w H h a (.dK kvs)from aJP ok e
def aED(ok:HOk P w H h)(e:H a=Z (.dK kvs)):kvs.length<=bv/\(a==sysModules)=false/\∃vs,KV kvs vs/\h.DictOf (dX P w) a vs:=aAt ok (.inl e)
def GS{ks:Tv Key}(ok:HOk P w H h)(e:H a=Z (.tup (ks.map kV))):(tupleKind<|dX P w).is h ks a:=by
 let⟨_,its,r,o,b,c,n,d⟩:=(ok a _ e);exact⟨o,its.toArray,n,b,c,d,by simpa using IY r⟩
def aAg(ok:HOk P w H h)(e:Rd H a (.dT kvs)):kvs.length<=bv/\(a==sysModules)=false /\
 ∃xs,KT H kvs xs/\h.DictOfH (tupleKind<|dX P w) a xs:=by
 let⟨z,y,xs,r,o,es,ep,b,c,d,f,g⟩:=(aJP ok e);refine⟨z,y,xs,r,o,es,ep,b,c,d,f,λx hx=>?_,g⟩
 have all:∀{l:Tv (Tv Key×V)}{m:Tv (Tv Key×Uc×Tz)},KT H l m->∀x∈m,(tupleKind<|dX P w).is h x.1 x.2.1:=by
  intro l m q
  induction q with
  |nil=>intro x hx;exact nomatch hx
  |@cons p q ps i j t ih=>
   intro x hx;obtain e|hx:=C1.mp hx
   .subst e;exact GS ok 68
   .exact ih x hx
 exact all r x hx
def aJq(ok:HOk P w H h)(e:H a=Z (.dT kvs)):kvs.length<=bv/\(a==sysModules)=false /\
 ∃xs,KT H kvs xs/\h.DictOfH (tupleKind<|dX P w) a xs:=aAg ok (.inl e)
end
def CO(H:Hp)(a:Uc)(y:V)(r:Tx V):Prop:=
 (∃kvs k,Rd H a (.dK kvs)/\y=kV k/\r=jO kvs k)\/∃kvs k b,Rd H a (.dT kvs)/\y=.ref b/\H b=Z (.tup (k.map kV))/\r=jO kvs k
def BB(H:Hp)(a:Uc)(y v:V)(H':Hp):Prop:=
 (∃kvs k,H a=Z (.dK kvs)/\y=kV k/\kvs.length<bv/\H'=upd H a (.dK (putK kvs k v))) \/
 ∃kvs k b,H a=Z (.dT kvs)/\y=.ref b/\H b=Z (.tup (k.map kV))/\kvs.length<bv/\H'=upd H a (.dT (putK kvs k v))
def CO.k{a:Uc}{kvs:Tv (Key×V)}{k:Key}(e:H a=Z (.dK kvs)):CO H a (kV k) (jO kvs k):=.inl ⟨kvs,k,.inl e,rfl,rfl⟩
def CO.t{k:Tv Key}(e:H a=Z (.dT kvs))(c:H b=Z (.tup (k.map kV))):CO H a (.ref b) (jO kvs k):=.inr ⟨kvs,k,b,.inl e,rfl,c,rfl⟩
def BB.k{a:Uc}{kvs:Tv (Key×V)}{k:Key}{v:V}(e:H a=Z (.dK kvs))(b:kvs.length<bv):BB H a (kV k) v (upd H a (.dK (putK kvs k v))):=.inl ⟨kvs,k,e,rfl,b,rfl⟩
def BB.t{k:Tv Key}(e:H a=Z (.dT kvs))(c:H b=Z (.tup (k.map kV)))(d:kvs.length<bv):
 BB H a (.ref b) v (upd H a (.dT (putK kvs k v))):=.inr ⟨kvs,k,b,e,rfl,c,d,rfl⟩
section
variable{X:Cx}{cp:T1}{σ:St}{H:Hp}{s:Ub}{a:Uc}{y v:V}{u r:Tz}{o:Tx V}{A:Uf}{E:T0}
def Inv.big(I:Inv X cp σ H s):sysModules<s.heap.objs.size:=by
 have h:=(I.mod.glob.keeps I.bk).lt;exact A0p 66 h
def aBn{Q:T0}(t:A.units+1<cLine)(I:Inv X cp σ H s)(g:CO H a y (Z v))(q:RelV y u)(h:∀f s',Inv X cp σ H s'->RelV v f->Q f s'):
 bz (bx X.prog X.w) A (getItem (.ref a) u) Q E s:=by
 obtain⟨kvs,k,e,i,l⟩|⟨kvs,k,b,e,i,x,l⟩:=g
 .subst i;let⟨z,hd,vs,c,j⟩:=aAt I.hok e;let⟨f,m,d⟩:=BA.some_of (by rw[l];exact c.val k);exact wpAny_getItem_of (KN q) j.mapOf m<|h f _ (I.tok _) d
 .subst i;cases q;let⟨z,hd,xs,c,j⟩:=aAg I.hok e;let⟨f,m,d⟩:=BA.some_of (by rw[l];exact c.val k);let⟨p,B,n⟩:=A0w.mp m;refine wpAny_getItem_heap (tupleKind_room_in1 t) (GS I.hok x) j B ?_;rw[n];exact h f _ (I.tok _) d
def aRa{Q:T0}(j:A.units+1<cLine)(I:Inv X cp σ H s)(g:CO H a y o)(i:RelV y u)(h:∀s',Inv X cp σ H s'->Q (.bool o.isSome) s'):
 bz (bx X.prog X.w) A (cf .In u (.ref a)) Q E s:=by
 obtain⟨kvs,k,e,d,l⟩|⟨kvs,k,b,e,d,m,l⟩:=g
 .subst d;let⟨z,hd,vs,c,f⟩:=aAt I.hok e;refine wpAny_in_of (KN i) hd f.mapOf ?_;rw[<- (c.val k).isSome_eq,<- l];exact h _<|I.tok _
 .subst d;cases i;let⟨z,hd,xs,c,f⟩:=aAg I.hok e;refine wpAny_in_heap (tupleKind_room_in1 j) (GS I.hok m) hd f ?_;have q:=(c.val k).isSome_eq;rw[Option.isSome_map]at q;rw[<- q,<- l];exact h _<|I.tok _
def uU{t':Nat}(I:Inv X cp σ H s)(c:Mut (H a))(hs:Heap.SameBut a s.heap h')(d:∃q,h'.get? a=Z q)(new:fA X.prog X.w (upd H a ob) h' a ob):
 Inv X cp σ (upd H a ob) { s with heap:=h',toks:=t' }:=
 I.write c (.inl rfl) (λb q e z=>(hs.2 b e).trans z) d new
def TN{P:Ue}{h':Heap}{kvs:Tv (Key×V)}(z:kvs.length<=bv)(hd:(a==sysModules)=false)(b:KV kvs vs)(c:h'.DictOf (dX P w) a vs):
 fA P w H' h' a (.dK kvs):=⟨z,hd,vs,b,c⟩
def aBb{Q:Unit->Ub->Prop}(D:A.units+1<cLine)(I:Inv X cp σ H s)(g:BB H a y v H')(t:RelV y u)(x:RelV v r)(h:∀s',Inv X cp σ H' s'->Q () s'):
 bz (bx X.prog X.w) A (setItem (.ref a) u r) Q E s:=by
 obtain⟨kvs,k,e,j,l,m⟩|⟨kvs,k,b,e,j,B,l,m⟩:=g
 .subst j m;let⟨z,hd,vs,d,n⟩:=aED I.hok e;have F:vs.length<=bv:=by rw[<- d.length];exact z
  have p:(putK kvs k v).length<=bv:=by have:=kL kvs k v;omega
  refine wpAny_setItem_pairs (KN t) n λh' f hs=>h _ ?_;have G:∃q,h'.get? a=Z q:=let⟨q,_,_,i,_⟩:=f;⟨q,i⟩;exact uU I (by rw[e];exact True.intro) hs G<|TN p hd (d.put k x) f
 .subst j m;cases t;let⟨z,hd,xs,d,n⟩:=aJq I.hok e;have F:xs.length<=bv:=by rw[<- A2o d];exact z
  have p:(putK kvs k v).length<=bv:=by have:=kL kvs k v;omega
  refine wpAny_setItem_heap (tupleKind_room_in1 D) (GS I.hok B) n λh' f hs=>h _ ?_;let⟨q,es,ep,i,J,K,L,_,M⟩:=f;refine uU I (by rw[e];exact True.intro) hs ⟨q,i⟩ ⟨p,hd,_,(d.put k B x).keeps λc N C=>?_,q,es,ep,i,J,K,L,M⟩;rw[aO (aJo C e λz=>nomatch z)];exact C
end
def aMu(i:Ud):Prop:=∀a b,subscripted i false a b=operate [a,b] (getItem a b)
def aIK{s:Ub}{pos:Pos}{id:String}
 (l:typeLookup (.type T) "__getitem__"=pure (Z (.builtin id))) (hs:aMu a)
 (h:bz (bx prog w) A (eval b env) (λo e=>bz (bx prog w) A (eval a env) (λi c=>c.TypeIs o T/\bz (bx prog w) A (getItem o i) Q E c) E e) E s):
 bz (bx prog w) A (eval (.Subscript b a pos) env) Q E s:=by
 refine Subscript_ (C7 h (λo e j=>C7 j (λi c d=>?_) λ_ _ x=>x) λ_ _ x=>x);let⟨hT,d⟩:=d;refine A1 ?_;refine A1<|wpAny_specialOf hT l ?_
 have g:bz (bx prog w) A (subscripted a false o i) (λr f=>bz (bx prog w) A (letTemporaryGo b o r >>= λ_=>pure r) Q E f) E c:=by
  rw[hs o i];exact wpAny_operating (C7 d (λr f k=>A1<|wpAny_letTemporaryGo<|A4 k) λ_ _ x=>x)
 first
  |exact A4<|A1 g
  |exact A1<|A4<|A1 g
  |exact A1 g
def QJ(I:Inv X cp σ H s)(g:CO H a y o):s.TypeIs (.ref a) "dict":=by
 obtain⟨kvs,k,e,_,_⟩|⟨kvs,k,b,e,_,_,_⟩:=g
 .let⟨_,_,vs,_,c⟩:=aAt I.hok e;exact c.typeIs
 .let⟨_,_,xs,_,c⟩:=aAg I.hok e;exact c.typeIs
def aJx(c ty:TE):TE:=λσ H Q=>c σ H λx d=>ty σ d λy b=>∃a v,x=.ref a/\CO b a y (Z v)/\Q v b
noncomputable def aQl(ty c:TE):TE:=λσ H Q=>ty σ H λy d=>c σ d λx b=>∃a o,x=.ref a/\CO b a y o/\Q (.bl o.isSome) b
noncomputable def aJw(c ty d:TE):TS:=λD σ H=>d σ H λv e=>c σ e λx f=>ty σ f λy g=>∃a b,x=.ref a/\BB g a y v b/\D.nx σ b
section
variable{X:Cx}{o i e value:Ud}{pos pos' tpos:Pos}{td ty tv:TE}
def aGb(d:X.A.units+1<cLine)(f:PE X o td)(hi:PE X i ty)(hs:aMu i):PE X (.Subscript o i pos) (aJx td ty):=by
 intro cp s σ H Q I h;refine aIK F.slot_dict_getitem.lookup hs (thn (f cp s σ H _ I h) λu s1 ⟨x,j,k,l,m⟩=>thn (hi cp s1 σ j _ k m) λw s2 n=>?_);let⟨y,p,c,q,a,v,ex,g,r⟩:=n;subst ex;obtain rfl:=l;exact⟨QJ c g,aBn d c g q λz s3 t b=>⟨v,p,t,b,r⟩⟩
def aMo(b:X.A.units+1<cLine)(hi:PE X i ty)(c:PE X o td):PC X .In i o (aQl ty td):=by
 intro cp s σ H Q I h;refine thn (hi cp s σ H _ I h) λt s1 ⟨y,d,f,j,k⟩=>thn (c cp s1 σ d _ f k) λu s2 ⟨x,l,m,n,a,p,ex,g,q⟩=>?_;subst ex;obtain rfl:=n;exact aRa b m g j λs3 r=>⟨.bl p.isSome,l,r,rfl,q⟩
def aGD(b:X.A.units+1<cLine)(c:PE X o td)(hi:PE X i ty)(d:PE X value tv)(hs:swapsWith value (Z (.Subscript o i pos')) pos.line X.env=pure false):
 PS X (.Assign [.Subscript o i pos'] value pos) (aJw td ty tv):=by
 intro cp s σ H D I h;refine wpAny_Assign_Subscript (thn (d cp s σ H _ I h) λr s1 ⟨v,f,j,k,l⟩=>thn (c cp s1 σ f _ j l) λu s2 ⟨x,m,n,p,q⟩=>thn (hi cp s2 σ m _ n q) λF s3 t=>?_) hs;let⟨y,G,w,z,a,B,ex,g,C⟩:=t;subst ex;obtain rfl:=p;exact aBb b w g z k λs4 E=>⟨σ,B,E,C⟩
end
def EZ{P:Ue}(h:Heap)(a:sysModules<h.objs.size):fA P w H (h.push { cls:=.type "dict",data:=.dict #[] }) h.objs.size (.dK []):=
 ⟨E6 _,Y1.mpr<|Y6<|C2 a,[],.nil,Heap.DictOf.new h⟩
def QT{P:Ue}(h:Heap)(a:sysModules<h.objs.size):fA P w H (h.push { cls:=.type "dict",data:=.dict #[] }) h.objs.size (.dT []):=
 ⟨E6 _,Y1.mpr<|Y6<|C2 a,[],.nil,_,#[],0,B5 _ rfl,⟨rfl,rfl,rfl⟩,rfl,rfl,A2q⟩
def aEJ:TE:=λ_ H Q=>∀p,H p=Y->Q (.ref p) (upd H p (.dK []))
def aDK:TE:=λ_ H Q=>∀p,H p=Y->Q (.ref p) (upd H p (.dT []))
section
variable{X:Cx}{pos:Pos}
def aDr:PE X (.Dict [] [] pos) aEJ:=λcp s σ H Q I h=>
 wpAny_Dict_empty ⟨.ref s.heap.objs.size,_,I.laid (λ_ _ q=>A3 _ q) (B3 _)<|EZ s.heap I.big,rfl,h _<|I.hok.fresh<|B3 _⟩
def aFu:PE X (.Dict [] [] pos) aDK:=λcp s σ H Q I h=>
 wpAny_Dict_empty ⟨.ref s.heap.objs.size,_,I.laid (λ_ _ q=>A3 _ q) (B3 _)<|QT s.heap I.big,rfl,h _<|I.hok.fresh<|B3 _⟩
end
def MR:Tv (TE×TE)->St->Hp->(Tv (V×V)->Hp->Prop)->Prop
 |[],_,H,Q=>Q [] H
 |(a,b)::r,σ,H,Q=>a σ H λx c=>b σ c λy d=>MR r σ d λps e=>Q ((x,y)::ps) e
abbrev VV:Tv (V×V)->Tv (Tz×Tz)->Prop:=Paired λp q=>RelV p.1 q.1/\RelV p.2 q.2
def PPs(X:Cx)(pos:Pos)(b:Tv (Tx Ud))(a:T8)(c:Tv (TE×TE)):Prop:=
 ∀(cp:T1)(s:Ub)(σ:St)(H:Hp)(Q:Tv (V×V)->Hp->Prop),Inv X cp σ H s->MR c σ H Q->
  bz (bx X.prog X.w) X.A (evalPairs<|pairTrees b a X.env pos) (λvs s'=>∃ps H',Inv X cp σ H' s'/\VV ps vs/\Q ps H') X.xe s
def aIB:PPs X pos [] [] []:=λcp s σ H Q I h=>pairTrees_nil_walk ⟨[],H,I,.nil,h⟩
def aEf{v:Ud}{c:TE}(e:PE X k c)(f:PE X v d)(g:PPs X pos ks vs a):
 PPs X pos (Z k::ks) (v::vs) ((c,d)::a):=λcp s σ H Q I h=>
 pairTrees_cons_walk (thn (e cp s σ H _ I h) λu s1 ⟨x,i,j,l,m⟩=>thn (f cp s1 σ i _ j m) λz s2 ⟨y,n,o,p,q⟩=>
  thn (g cp s2 σ n _ o q) λws s3 ⟨ps,r,t,b,w⟩=>⟨(x,y)::ps,r,t,.cons ⟨l,p⟩ b,w⟩)
def uN(kvs more:Tv (Key×V)):Tv (Key×V):=more.foldl (λacc a=>putK acc a.1 a.2) kvs
def KV.merge:∀{more:Tv (Key×V)}{rs:Tv (Key×Tz)}{kvs:Tv (Key×V)}{vs:Tv (Key×Tz)},KV more rs->KV kvs vs->KV (uN kvs more) (merged vs rs):=by
 intro more rs kvs vs r;unfold KV at r
 induction r generalizing kvs vs with
 |nil=>intro q;exact q
 |@cons p q ps b h t ih=>
  intro a
  have e:KV (putK kvs p.1 p.2) (stored vs q.1 q.2):=by
   have:=a.put p.1 h.2;rw[<- h.1];exact this
  exact ih e
theorem wA:∀(more kvs:Tv (Key×V)),(uN kvs more).length<=kvs.length+more.length
 |[]=>λkvs=>by show kvs.length<=kvs.length+0;omega
 |p::r=>λkvs=>by
  have a:=wA r<|putK kvs p.1 p.2;have b:=kL kvs p.1 p.2;show(uN (putK kvs p.1 p.2) r).length<=_;rw[D8];omega
theorem DZ{P:Ue}:∀{kvs:Tv (Key×V)}{ws:Tv (Tz×Tz)},VV (kvs.map λd=>(kV d.1,d.2)) ws->∃rs,Carries (dX P w) ws rs/\KV kvs rs
 |[],_=>λr=>by rw[List.map_nil]at r;cases r;exact⟨[],True.intro,.nil⟩
 |p::kvs,_=>λr=>by
  cases r with
  |@cons a b as bs h t=>
   let⟨rs,c,q⟩:=DZ t;let⟨f,e⟩:=b;exact⟨(p.1,e)::rs,⟨KN h.1,rfl,c⟩,.cons ⟨rfl,h.2⟩ q⟩
def aJY(a:Tv (TE×TE)):TE:=λσ H Q=>∀p,H p=Y->MR a σ (upd H p (.dK [])) λps b=>b p=Z (.dK [])/\∃kvs:Tv (Key×V),ps=kvs.map (λc=>(kV c.1,c.2))/\kvs.length<=15/\Q (.ref p) (upd b p (.dK (uN [] kvs)))
def aGy(h:PPs X pos a b d)(f:a.all (·.isSome)=true)(m:a.length=b.length)(n:a≠[])
 (i:a.length<=15):PE X (.Dict a b pos) (aJY d):=by
 intro cp s σ H Q I q;have hn:=I.hok.fresh<|B3 s.heap.objs.size;have o:=I.laid (t':=s.toks) (λ_ _ q=>A3 _ q) (B3 _)<|EZ s.heap I.big;refine wpAny_Dict_walk (knd:=dX X.prog X.w) f m n i (thn (h cp _ σ _ _ o<|q _ hn) λws s2 j=>?_);let⟨ps,A,l,k,e,kvs,ep,B,p⟩:=j;subst ep;let⟨rs,c,rk⟩:=DZ k;let⟨z,hd,r,t,u⟩:=aED l.hok e;cases t;refine⟨rs,c,u,λh' g hs=>⟨.ref s.heap.objs.size,_,?_,rfl,p⟩⟩
 have j:(uN [] kvs).length<=bv:=by
  have v:=wA kvs [];rw[Z5]at v;rw[J7];omega
 have x:∃q,h'.get? s.heap.objs.size=Z q:=let⟨q,_,_,y,_⟩:=g;⟨q,y⟩;exact uU l (by rw[e];exact True.intro) hs x<|TN j hd (rk.merge .nil) g
structure M1(X:Cx)(o:Ud)(m:Str)(apos:Pos)(e:Ud)(cpos:Pos):Prop where
 base:attributeBase o m X.env (eval o X.env)=eval o X.env
 few:((backTo cpos<|cb [e] X.env).all (λx=>!x.1)&&(backToKw cpos<|keywordEach [] X.env).all (λx=>x.1.isSome)
  && decide (([e]:T8).length+([]:Tv Keyword).length+(if ([]:Tv Keyword).isEmpty then 0 else 1)<30))=true
 line:(apos.endLine==cpos.line)=true
 trees:backTo cpos (cb [e] X.env)=[(false,eval e X.env)]
structure M2(X:Cx)(o:Ud)(m:Str)(apos:Pos)(e f:Ud)(cpos:Pos):Prop where
 base:attributeBase o m X.env (eval o X.env)=eval o X.env
 few:((backTo cpos<|cb [e,f] X.env).all (λx=>!x.1)&&(backToKw cpos<|keywordEach [] X.env).all (λx=>x.1.isSome)
  && decide (([e,f]:T8).length+([]:Tv Keyword).length+(if ([]:Tv Keyword).isEmpty then 0 else 1)<30))=true
 line:(apos.endLine==cpos.line)=true
 trees:backTo cpos (cb [e,f] X.env)=[(false,eval e X.env),(false,eval f X.env)]
end L2
namespace Att
open PySem PySem.W PySem.Calls PyProof.Rows
def CW{P:Params}:∀(ns:T6)(vs:T4),WellAll P h vs (ns.map WData.int)->IntsAre vs ns:=by
 intro ns
 induction ns with
 |nil=>
  intro vs w;cases w;exact .nil
 |cons n ns ih=>
  intro vs w;cases w with
  |cons a b=>
   cases a;exact .cons _ _ (ih _ b)
def aBW{l:OpenLaw}{n:Nat}(hn:l.most=Z n){P:Params}
 (c:l.row.toRowW.claim.pre args=true) (i:WellAll P h b args):
 ∃a vs ns,b=[Value.ref a]/\args=[WData.list (ns.map WData.int)]/\h.get? a=Z { cls:=.type "list",data:=.seq vs.toArray }/\IntsAre vs ns/\ns.length<=n:=by
 have j:=(pre_splitW c).1;have m:l.pre.holds [] { args:=args }=true:=(pre_splitW c).2;let⟨d,r,rfl,o,p⟩:=hasAllW_cons j;obtain rfl:=hasAllW_nil p;let⟨xs,rfl,s⟩:=hasW_list o;let⟨ns,rfl⟩:=items_int s
 have e:ns.length<=n:=by
  have g:(WTm.not (.lt (.lit (.int (n:Int))) (.len (.arg 0)))).holds [] { args:=[.list (ns.map .int)] }=true:=by
   have g:=(holds_andW m).1;rw[hn]at g;exact g
  have k:=condW_of g<|w_not<|w_lt w_lit<|w_len_list<|w_arg rfl;refine Nat.le_of_not_lt λq=>?_
  first
   |(rw[B8 w]at k;exact absurd k 66)
   |(simp at k;omega)
 cases i with
 |cons t u=>
  cases u;cases t with
  |list v f=>exact⟨_,_,ns,rfl,rfl,v,CW ns _ f,e⟩
def aBz(l:OpenLaw)(args:Tv WData):l.row.toRowW.claim.post args (.bool true) args=true:=
 postW_of
  rfl
  (w_eq_bool (w_res rfl) w_lit) rfl
def attach_call{l:OpenLaw}{n:Nat}{XP:(Str->Tf)->Heap->Prop}{YP:World->Heap->Prop}{d:DefRec}
 (hn:l.most=Z n) (k:d.params.defaults=[])
 (call:∀(w:World)(s₀ c:Ub)(mg mb:Str->Tf)(fa:Uc)(o:Obj)(pm j doc:Tz)(a:Uc)(vs:T4)(ns:T6),
  Ground q loose [] XP w s₀ mg mb c.heap->YP w c.heap->
  c.heap.get? fa=Z o->o.data=.func (docDef d.name d.params d.body d.scope pm j doc)->c.heap.CodeRec j d.name->mg d.name=Z (.ref fa)->
  c.heap.get? a=Z { cls:=.type "list",data:=.seq vs.toArray }->IntsAre vs ns->ns.length<=n->c.gens=#[]->
  cg (bx l.prog w) callerA (.call (.ref fa) ⟨[.ref a],[]⟩) (λr s'=>r=.ok (.ret (.bool true))/\OldK c.heap s'.heap/\s'.os=c.os/\AllBare s'.gens) c):
 WalkO q loose XP YP l.row.toRowW d [] (λf vs=>PySem.call f vs):=by
 intro w s₀ c mg mb G b fa o pm j doc F kV x hd m t p y args u as g v z s A;obtain rfl:=Dflts.none t k;obtain rfl:=Dflts.noKw t;let⟨a,vs,ns,rfl,rfl,h,e,i⟩:=aBW hn g s;refine enter_call (A1d (call w s₀ c mg mb fa o pm j doc a vs ns G b x (fd_plain hd) m p h e i y) λr s' B=>?_);let⟨rfl,C,D,E⟩:=B;exact⟨.inl ⟨.bool true,.bool true,[],rfl,65,.bool true,aBz l _,λ_=>⟨List.Pairwise.nil,λ_ hm=>(nomatch hm)⟩⟩,C,D,E⟩
section
variable{prog:Ue}{w:World}{A:Uf}{E:T0}{s:Ub}{K:Frag}
end
end Att
namespace L2
open PySem PySem.Spec PyProof.Rows
theorem IS:∀{vs:T4}{ns:T6},IntsAre vs ns->bE (ns.map V.int) vs
 |_,_,.nil=>.nil
 |_,_,.cons n t h=>.cons ⟨t,rfl⟩ (IS h)
def aNl(H:Hp):Prop:=∀b,H b=Y\/∃o xs,H b=Z (.frz o (.lst xs))
def aEi{P:Ue}{K:Fg}{a:Uc}{x:Str}{sp:Sp}{c:Ub}{vs:T4}
 (KX:K.In c.heap) (p:c.heap.Ns ce mg) (g:c.heap.Ns builtinsNs mb) (E:∀x:Str,x≠"__name__"->mb x=bootBuiltins x) (t:c.heap.NoLimit) (G:∃U,c.heap.Ns sysModules U) (I:∃bm ob,mg "__builtins__"=Z (.ref bm)/\bm≠builtinsNs/\c.heap.get? bm=Z ob/\ob.cls=.type "module"/\ob.dict=Z builtinsNs/\ob.data=.plain) (hg:c.gens=#[])
 (ha:c.heap.get? a=Z { cls:=.type "list",data:=.seq vs.toArray }) (hi:IntsAre vs ns) (W:ns.length<=bv) (hr:cM k callerA)
 (F:∀base:Heap,K.In base->base.Ns ce mg->mE P w K mg base CX k fa fd [x] sp) (l:∀(s:Ub)(u:Tz),BindsTo s fd ⟨[u],[]⟩ [(x,u)])
 (J:∀H:Hp,aNl H->SqL K H a (ns.map V.int)->sp [.ref a] H (λv _=>v=.bl true) λ_ _ _=>False)
 (L:∀H e s',CX [] H c (λ_ _ _=>False) e s'->False):
 cg (bx P w) callerA (.call (.ref fa) ⟨[.ref a],[]⟩) (λr s'=>r=.ok (.ret (.bool true))/\OldK c.heap s'.heap/\s'.os=c.os/\AllBare s'.gens) c:=by
 have X:=IS hi;have y:=hi.length
 have j:∀H:Hp,aNl H->SqL K H a (ns.map V.int)->HOk P w H c.heap->(∀b,H b≠Y->b=a)->(H a≠Y->K.lookup a=Y)->
  cg (bx P w) callerA (.call (.ref fa) ⟨[.ref a],[]⟩) (λr s'=>r=.ok (.ret (.bool true))/\OldK c.heap s'.heap/\s'.os=c.os/\AllBare s'.gens) c:=by
  intro H hO hS hok M hK;have f:∀{b:Uc}{o:Obj},c.heap.get? b=Z o->H b=Y->(QM c.heap H).get? b=Z o:=λe n=>aDQ e n
  have N:∀{b:Uc}{o:Obj}{es:Array DictEntry}{ep:Nat},c.heap.get? b=Z o->o.data=.dict es ep->H b=Y:=λ{b o es ep} e d=>by
   cases q:H b with
   |none=>rfl
   |some u=>
    have A:=M b 68;subst A;rw[ha]at e;cases e;have d':=d;cases d'
  have i:∀{b:Uc}{m:Str->Tf},c.heap.Ns b m->(QM c.heap H).Ns b m:=λ{b m} ⟨o,es,ep,e,d,r⟩=>⟨o,es,ep,f e<|N e d,d,r⟩
  have B:=λb o e=>f (KX b o e) (by
   cases q:H b with
   |none=>rfl
   |some u=>
    have A:=M b 68;subst A;rw[hK 68]at e;cases e)
  have hM:Mod K mg (QM c.heap H):=⟨B,i p,⟨mb,i g,E⟩,(let⟨mc,O,Q⟩:=t;⟨mc,i O,Q⟩),(let⟨U,R⟩:=G;let⟨o,es,ep,O,Q,_⟩:=i R;⟨o,es,ep,O,Q⟩),(let⟨bm,ob,b1,b2,S,b4,b5,b6⟩:=I;⟨bm,ob,b1,b2,f S (by
   cases q:H bm with
   |none=>rfl
   |some u=>
    have A:=M bm 68;rw[A,ha]at S;cases S;cases b6),b4,b5,b6⟩)⟩
  have e0:UO P w K mg (QM c.heap H) callerA [] c H:=⟨rfl,hM,λb o e=>aJd e,Nat.le_of_eq<|aAv _ _,trivial,λb g=>absurd (show b∈([]:Tb)from g) 67,hok,.of_eq hg⟩;refine A1d ((F _ B<|i p).run callerA [] c H ⟨[.ref a],[]⟩ [.ref a] [.ref a] _ _ hr e0 (l c (.ref a)) (.cons rfl .nil) (J H hO hS)) λr s' h=>?_;cases r with
  |error e=>exact(L H e s' h).elim
  |ok fl=>
   cases fl with
   |next=>exact False.elim h
   |brk=>exact False.elim h
   |cont=>exact False.elim h
   |ret u=>
    let⟨v,H',os,bare,un,C,r',q⟩:=h;have q':=q;subst q';obtain rfl:=r';refine⟨rfl,OldK.of_keep λb o e=>?_,os,bare⟩;cases q:H b with
    |none=>exact un.keep b o e q (by intro z;exact absurd (show b∈([]:Tb)from z) 67) 67
    |some u=>
     obtain z|⟨ob,xs,z⟩:=hO b
     .rw[q]at z;cases z
     .have z2:=un.frzs b ob _ z;let⟨e1,_⟩:=hok b _ z;let⟨e2,_⟩:=C b _ z2;rw[e]at e1;cases e1;exact e2
 cases T:K.lookup a with
 |some o=>
  have e:=KX a o T;rw[ha]at e;cases e;refine j (λ_=>Y) (λ_=>.inl rfl) (.inr ⟨_,vs.toArray,_,T,rfl,rfl,rfl,by rw[F4,y];exact W,by simpa using X⟩) (λb u z=>by have D:=z;cases D) (λb z=>absurd rfl z) λz=>absurd rfl z
 |none=>
  refine j (λb=>if b=a then Z (.frz { cls:=.type "list",data:=.seq vs.toArray } (.lst (ns.map V.int)))else Y) (λb=>?_) (.inl (.inr ⟨{ cls:=.type "list",data:=.seq vs.toArray },A8 rfl⟩)) (λb u z=>?_) (λb z=>?_) λ_=>T
  .by_cases g:b=a
   .exact .inr ⟨_,_,A8 g⟩
   .exact .inl (B7 g)
  .by_cases g:b=a
   .have D:=(A8 g).symm.trans z;cases D;subst g;exact⟨ha,by rw[A6];exact W,vs,_,X,ha⟩
   .have D:=(B7 g).symm.trans z;cases D
  .by_cases g:b=a
   .exact g
   .exact absurd (B7 g) z
noncomputable abbrev KOf{K:Fg}{h:Heap}(_:K.In h):Fg:=K
def walk_of{l:W.OpenLaw}{n:Nat}(C:PyProof.Rows.importsNone q=true){YP:World->Heap->Prop}{d:DefRec}{K:Params->Fg}{CX:World->CXT}{sp:World->Sp}{x:Str}
 (hn:l.most=Z n) (r:n<=bv) (t:d.params.defaults=[]) (D:cM k callerA)
 (E:∀(w:World)(h:Heap),YP w h->(K w.params).In h)
 (F:∀(w:World)(mg:Str->Tf)(fa:Uc)(h:Heap),(K w.params).In h->h.Ns ce mg->mg d.name=Z (.ref fa)->
  ∃fd:FuncData,(∀(s:Ub)(u:Tz),BindsTo s fd ⟨[u],[]⟩ [(x,u)]) /\
   ∀base:Heap,(K w.params).In base->base.Ns ce mg->mE l.prog w (K w.params) mg base (CX w) k fa fd [x] (sp w))
 (y:∀(w:World)(H:Hp)(a:Uc)(ns:T6),ns.length<=n->aNl H->SqL (K w.params) H a (ns.map V.int)->sp w [.ref a] H (λv _=>v=.bl true) λ_ _ _=>False)
 (z:∀(w:World)(H:Hp)(s:Ub)(e:Tz)(s':Ub),CX w [] H s (λ_ _ _=>False) e s'->False):
 W.WalkO q loose XP YP l.row.toRowW d [] (λf vs=>PySem.call f vs):=by
 refine Att.attach_call hn t λw s₀ m mg mb fa o pm P doc a vs ns G c Q hd I A p j i J=>?_;have KX:=E w _ c;let⟨fd,L,M⟩:=F w mg fa _ KX G.T.g A;exact aEi KX G.T.g G.T.b G.T.builtins G.T.nolimit (let⟨N,B,_⟩:=(G.T.seer C).mods;⟨N,B⟩) G.T.bmain J p j (C5 i r) D M L (λH O hS=>y w H a ns i O hS) λH e s'=>z w H m e s'
end L2
namespace L2
variable{F H H':Hp}{W:Wd}{K:Fg}{M M':Sto}{γ:Ga}
open PySem PySem.Spec PyProof.Rows
noncomputable def inClass(s:Stmt)(j:Nat):Stmt:=match s with
 |.ClassDef _ _ _ a _ _ _ _ _ _ _=>a.getD j (.Pass ⟨0,0,0,0⟩)
 |_=>.Pass ⟨0,0,0,0⟩
def eK(s:Stmt):Arguments:=match s with
 |.FunctionDef _ a _ _ _ _ _ _ _ _=>a
 |_=>{ posonlyargs:=[],args:=[],vararg:=Y,kwonlyargs:=[],kw_defaults:=[],kwarg:=Y,defaults:=[] }
noncomputable def bU(s:Stmt):Ta:=match s with
 |.FunctionDef _ _ b _ _ _ _ _ _ _=>b
 |_=>[]
noncomputable def aI(s:Stmt):Scope:=match s with
 |.FunctionDef _ _ _ _ _ _ sc _ _ _=>sc
 |_=>{ kind:=.function,names:=[],isGenerator:=false,isCoroutine:=false }
noncomputable abbrev CX0:CXT:=λ_ _ _ _ _ _=>False
noncomputable abbrev E0:XK:=λ_ _ _=>False
def aJJ:MZ CX0 X E0:=λ_ _ _ _ _ _ _ h=>h.elim
structure Fun(K:Fg)(x qual:Str)(st:Stmt)(f:Uc)(fd:FuncData):Prop where
 ex:∃(oc:Tz)(od:Th)(kV doc pm:Tz)(an:Th)(cdv ct:Tz)(osl:Array (Tf)),
  fd=PySem.W.fnOf x qual (eK st) (bU st) (aI st) .none kV doc pm an cdv ct/\K.lookup f=Z ⟨oc,od,.func fd,osl⟩/\PySem.W.codeIn K cdv qual=true
 kp:PySem.W.keepIn K (.ref f)=true
section
variable{P:Ue}{w:World}{K:Fg}{mg:Str->Tf}{base:Heap}
def Fun.ok{st:Stmt}{sp:Sp}{q:Bool}(F:Fun K x qual st f fd)(S:aT N ps (aI st))(len:∀vs H Q E,sp vs H Q E->vs.length=ps.length)
 (a:∀(cdv:Tz)(A:Uf)(outer:Tv Env)(s:Ub)(H:Hp)(vs:Td)(Q:VK)(E:XK),cM k (A.deeper<|envOfC qual (aI st) s.heap.objs.size f cdv) q->sp vs H Q E->
  ∃t,PSs (oQ CX0 P w K mg base N qual (aI st) f cdv A outer s H E q).nox (bU st) t/\t { nx:=λ_ H'=>Q .non H',rt:=Q } (start N vs) H):mE P w K mg base CX0 (k+1) f fd ps sp q:=by
 let⟨oc,od,kV,doc,pm,an,cdv,ct,osl,rfl,d,b⟩:=F.ex;refine aJl d b S len λA outer s H vs Q E e c=>?_;let⟨t,h,z⟩:=a cdv A outer s H vs Q E e c;exact⟨t,h.nox,z⟩
def Fun.binds{x qual:Str}{st:Stmt}{f:Uc}{fd:FuncData}{ps:Tc}(F:Fun K x qual st f fd)
 (h:∀(kV doc pm:Tz)(an:Th)(cdv ct:Tz)(us:T4),us.length=ps.length->bindArgs (PySem.W.fnOf x qual (eK st) (bU st) (aI st) .none kV doc pm an cdv ct) ⟨us,[]⟩=pure (ps.zip us)):Binds K fd ps []:=by
 let⟨oc,od,kV,doc,pm,an,cdv,ct,osl,rfl,b,a⟩:=F.ex;exact .all (h kV doc pm an cdv ct)
def aEZ{x qual:Str}{st:Stmt}{f:Uc}{oc:Tz}{od an:Th}{osl:Array (Tf)}{kV doc pm cdv ct:Tz}(l:K.lookup f=Z ⟨oc,od,.func (PySem.W.fnOf x qual (eK st) (bU st) (aI st) .none kV doc pm an cdv ct),osl⟩)
 (c:PySem.W.codeIn K cdv qual=true) (k:PySem.W.keepIn K (.ref f)=true):Fun K x qual st f (PySem.W.fnOf x qual (eK st) (bU st) (aI st) .none kV doc pm an cdv ct):=⟨⟨oc,od,kV,doc,pm,an,cdv,ct,osl,rfl,l,c⟩,k⟩
end
def jA(H H':Hp):Prop:=∀b o,H b=Z o->H' b=Z o
def jA.refl(H:Hp):jA H H:=λ_ _ h=>h
def jA.trans(a:jA H d)(b:jA d e):jA H e:=λc o h=>b c o<|a c o h
def jA.free(e:jA H H')(h:H' l=Option.none):H l=Option.none:=by
 cases q:H l with
 |none=>rfl
 |some o=>
  rw[e l o q]at h;cases h
def jA.seq(e:jA H H')(h:SqL K H a xs):SqL K H' a xs:=by
 obtain(h|⟨o,h⟩)|h:=h
 .exact .inl (.inl (e _ _ h))
 .exact .inl (.inr ⟨o,e _ _ h⟩)
 .exact .inr h
noncomputable def hZ(env:Env):Tv (Tl)->Tv (Str×Uc)->Tv (Str×Uc)
 |[],cs=>cs
 |y::r,cs=>hZ env r (if (y.2==NameKind.free)=true then(y.1,(env.cells.lookup y.1).getD 0)::cs else cs)
theorem wM{env:Env}:∀(l:Tv (Tl))(cs:Tv (Str×Uc)),(∀y∈l,y.2=.free->∃c,env.cells.lookup y.1=Z c)->
 (forIn l cs λ(x:Tl)(r:Tv (Str×Uc))=>if (x.2==NameKind.free)=true then(do
  let a <- cellOf env x.1
  pure (ForInStep.yield ((x.1,a)::r)))else pure (ForInStep.yield r))=(pure (hZ env l cs):Sem (Tv (Str×Uc)))
 |[]=>λcs _=>rfl
 |y::l=>λcs h=>by
  rw[List.forIn_cons];by_cases b:(y.2==NameKind.free)=true
  .let⟨c,e⟩:=h y B0 68;have f:cellOf env y.1=pure c:=by unfold cellOf;rw[e]
   rw[A8 b,f];show(forIn l ((y.1,c)::cs) _:Sem _)=_;rw[wM l _ λz d=>h z<|A7 _ d]
   conv=>rhs;unfold hZ
   rw[A8 b,e];rfl
  .rw[B7 b];show(forIn l cs _:Sem _)=_;rw[wM l _ λz d=>h z<|A7 _ d]
   conv=>rhs;unfold hZ
   rw[B7 b]
def GY{scope:Scope}{env:Env}(h:∀y∈scope.names,y.2=.free->∃c,env.cells.lookup y.1=Z c):closureFor scope env=pure (hZ env scope.names []):=by
 have e:=wM scope.names [] h
 show((forIn scope.names ([]:Tv (Str×Uc)) λx (r:Tv (Str×Uc))=>if (x.2==NameKind.free)=true then(do
  let a <- cellOf env x.1
  pure (ForInStep.yield ((x.1,a)::r)))else pure (ForInStep.yield r)) >>= λz=>pure z:Sem (Tv (Str×Uc)))=_
 rw[e];rfl
theorem JC{env:Env}:∀(l:Tv (Tl))(cs:Tv (Str×Uc)),(∀y∈l,y.2=.free->∃c,env.cells.lookup y.1=Z c)->(∀x c,cs.lookup x=Z c->env.cells.lookup x=Z c)->
 ∀x c,(hZ env l cs).lookup x=Z c->env.cells.lookup x=Z c
 |[]=>λcs _ h x c e=>h x c e
 |y::l=>λcs i h x c e=>by
  refine JC l _ (λz g=>i z<|A7 _ g) ?_ x c e;intro z d a;by_cases j:(y.2==NameKind.free)=true
  .rw[A8 j]at a;let⟨c',f⟩:=i y B0 68;rw[f]at a;rw[I0]at a;by_cases g:(z==y.1)=true
   .rw[g]at a;have b:z=y.1:=68
    rw[b,f];exact a
   .have b:(z==y.1)=false:=68
    rw[b]at a;exact h z d a
  .rw[B7 j]at a;exact h z d a
theorem zQ:∀(l:Tv (Tl))(cs:Tv (Str×Uc))(x:Str),((x,NameKind.free)∈l\/∃c,cs.lookup x=Z c)->∃c,(hZ env l cs).lookup x=Z c
 |[]=>λcs x h=>by
  obtain h|h:=h
  .exact absurd h 67
  .exact h
 |y::l=>λcs x h=>by
  refine zQ l _ x ?_;obtain h|⟨c,b⟩:=h
  .obtain e|e:=C1.mp h
   .subst e;refine .inr ?_;rw[A8 (by rfl)];exact⟨(env.cells.lookup x).getD 0,by rw[I0];simp⟩
   .exact .inl e
  .refine .inr ?_;by_cases d:(y.2==NameKind.free)=true
   .rw[A8 d,I0];by_cases f:(x==y.1)=true
    .rw[f];exact⟨_,rfl⟩
    .have a:(x==y.1)=false:=68
     rw[a];exact⟨c,b⟩
   .rw[B7 d];exact⟨c,b⟩
theorem wI{env:Env}:∀{names:Tv (Tl)}{x:Str}{k:NameKind},
 (names.map λ(y:Tl)=>if (y.2==NameKind.free&&env.scope.kind==.function&&env.kindOf y.1==Z .cell)=true then(y.1,NameKind.cell)else(y.1,y.2)).lookup x=Z k->
 (names.lookup x=Z k)\/(names.lookup x=Z .free/\k=.cell)
 |[],x,k=>λh=>by simp at h
 |y::r,x,k=>λh=>by
  rw[C6]at h;by_cases c:(x==y.1)=true
  .by_cases b:(y.2==NameKind.free&&env.scope.kind==.function&&env.kindOf y.1==Z .cell)=true
   .rw[A8 b,I0,c]at h;rw[I0,c];have:y.2=.free:=68
    refine .inr ⟨by rw[this],?_⟩;cases h;rfl
   .rw[B7 b,I0,c]at h;rw[I0,c];exact .inl h
  .have a:(x==y.1)=false:=68
   have h':(r.map λy=>if (y.2==NameKind.free&&env.scope.kind==.function&&env.kindOf y.1==Z .cell)=true then(y.1,NameKind.cell)else(y.1,y.2)).lookup x=Z k:=by
    by_cases b:(y.2==NameKind.free&&env.scope.kind==.function&&env.kindOf y.1==Z .cell)=true
    .rw[A8 b,I0,a]at h;exact h
    .rw[B7 b,I0,a]at h;exact h
   rw[I0,a];exact wI h'
theorem FA{env:Env}:∀{names:Tv (Tl)}{x:Str},names.lookup x=Z .free->
 (names.map λ(y:Tl)=>if (y.2==NameKind.free&&env.scope.kind==.function&&env.kindOf y.1==Z .cell)=true then(y.1,NameKind.cell)else(y.1,y.2)).lookup x=Z .cell \/
 (names.map λ(y:Tl)=>if (y.2==NameKind.free&&env.scope.kind==.function&&env.kindOf y.1==Z .cell)=true then(y.1,NameKind.cell)else(y.1,y.2)).lookup x=Z .free
 |[],x=>λh=>by simp at h
 |y::r,x=>λh=>by
  rw[C6];by_cases c:(x==y.1)=true
  .rw[I0,c]at h;have d:=E5 h;by_cases b:(y.2==NameKind.free&&env.scope.kind==.function&&env.kindOf y.1==Z .cell)=true
   .rw[A8 b,I0,c];exact .inl rfl
   .rw[B7 b,I0,c];exact .inr (by rw[d])
  .have a:(x==y.1)=false:=68
   rw[I0,a]at h;have ih:=FA (env:=env) h;by_cases b:(y.2==NameKind.free&&env.scope.kind==.function&&env.kindOf y.1==Z .cell)=true
   .rw[A8 b,I0,a];exact ih
   .rw[B7 b,I0,a];exact ih
def yZ(X:Cx)(ifs:T8)(t:TT):Prop:=
 ∀(cp:T1)(s:Ub)(a:St)(H:Hp)(Q:Bool->Hp->Prop),Inv X cp a H s->t a H Q->
  bz (bx X.prog X.w) X.A (forIn ifs true λc r=>if r=true then(do
   let ok <- isTrue c X.env (eval c X.env)
   pure (ForInStep.yield ok))else pure (ForInStep.yield r)) (TP X cp a Q) X.xe s
noncomputable def aOC:TT:=λ_ H Q=>Q true H
def aFh:yZ X [] aOC:=λ_ _ _ H _ I h=>wpAny_tests_nil ⟨H,I,h⟩
def aFK(h:PT X c t):yZ X [c] t:=λcp s a H Q I b=>wpAny_tests_one<|h cp s a H Q I b
section
variable{prog:Ue}{w:World}{A:Uf}{R:Result->Ub->Prop}{s:Ub}
def aGn{iter:Ud}{scope:Scope}{acc:Tz}(I:Nat->Ub->Prop)
 (b:∀n s,I n s->bz (bx prog w) A (pyNext it) (λr s1=>(r=Y/\R (.ok .next) s1)\/∃v,r=Z v /\
  bz (bx prog w) A (ci a it v) (λ_ s2=>bz (bx prog w) A (assign a env v) (λ_ s3=>
   bz (bx prog w) A (forIn ifs true λc r=>if r=true then(do
    let ok <- isTrue c env (eval c env)
    pure (ForInStep.yield ok))else pure (ForInStep.yield r)) (λok s4=>
     (ok=true/\bz (bx prog w) A (eval elt env) (λx g=>bz (bx prog w) A (call (.builtin "list.append") [acc,x]) (λ_ i=>∃m,m<n/\I m i) 75 g) 75 s4) \/
     (ok=false/\∃m,m<n/\I m s4)) 75 s3) 75 s2) 75 s1) 75 s)
 (n:Nat) (h:I n s):cg (bx prog w) A (.compLoop (.ListComp elt [⟨a,iter,ifs,0⟩] scope pos) 0 it acc env) R s:=by
 refine A2w rfl I (λn s j=>?_) n h
 show bz _ A ((compTurn (.ListComp elt [⟨a,iter,ifs,0⟩] scope pos) 0 it acc env).onRaise λx=>do
  noteFrame x env
  theTreesLotGoes x) _ _ s
 refine wpAny_noted ?_;refine A1<|L9<|A1 (C7 (b n s j) (λr s1 d=>?_) λ_ _ f=>f.elim);obtain⟨rfl,d⟩|⟨v,rfl,d⟩:=d
 .exact A4 d
 .refine A1 (C7 d (λ_ s2 k=>?_) λ_ _ f=>f.elim);refine A1 (C7 k (λ_ s3 l=>?_) λ_ _ f=>f.elim);refine A1 (C7 l (λok s4 e=>?_) λ_ _ f=>f.elim);obtain⟨rfl,e⟩|⟨rfl,e⟩:=e
  .refine A1<|A1 (C7 e (λx g o=>?_) λ_ _ f=>f.elim);exact A1 (C7 o (λ_ i p=>A4<|A4 ⟨rfl,p⟩) λ_ _ f=>f.elim)
  .exact A4 ⟨rfl,e⟩
end
def bV(X:Cx)(N':Tc)(scope:Scope)(C:Uc)(s2:Ub)(a:Hp)(fp:Tb)(pn:T1):Cx:=
 { X with N:=N',s₀:=s2,H₀:=a,env:=compEnvC scope (hZ X.env scope.names []) C X.env,outer:=X.stack,stack:=X.stack,ex:=fp,fn:=λ_=>false,pn:=X.pn++pn,xe:=λ_ _=>False }
noncomputable def xA(cap:T2)(a:St):St:=cap.map λo=>o.bind λj=>(a[j]?).join
structure qT(X:Cx)(N':Tc)(cap:T2)(scope:Scope):Prop where
 nocell:∀y∈scope.names,y.2≠.cell
 kind:scope.kind=.function
 names:∀y∈scope.names,y.2=.local->scope.names.lookup y.1=Z .local
 frees:∀y∈scope.names,y.2=.free->X.env.kindOf y.1=Z .cell\/X.env.kindOf y.1=Z .free
 len:cap.length=N'.length
 cap:∀(i j:Nat),cap[i]?=Z (Z j)->∃x,N'[i]?=Z x/\X.N[j]?=Z x/\scope.names.lookup x=Z .free
section
variable{X:Cx}{N':Tc}{cap:T2}{scope:Scope}{cp:T1}{σ:St}{H:Hp}{s:Ub}
def qT.cells(S:qT X N' cap scope)(ok:X.Ok):∀y∈scope.names,y.2=.free->∃c,X.env.cells.lookup y.1=Z c:=λy a b=>ok.has y.1<|S.frees y a b
def qT.sub(S:qT X N' cap scope)(ok:X.Ok):∀x c,(hZ X.env scope.names []).lookup x=Z c->X.env.cells.lookup x=Z c:=
 JC scope.names [] (S.cells ok) λx c e=>by simp at e
def qT.kinds(S:qT X N' cap scope)(h:(compEnvC scope cl C X.env).kindOf x=Z .cell\/(compEnvC scope cl C X.env).kindOf x=Z .free):scope.names.lookup x=Z .free:=by
 obtain h|h:=h
 .obtain q|⟨q,_⟩:=wI h
  .exact absurd rfl<|S.nocell _<|O6 q
  .exact q
 .obtain q|⟨q,_⟩:=wI h
  .exact q
  .exact q
def Inv.stkAll(I:Inv X cp σ H s){b:Uc}(a:b≠X.env.locals)(c:b∉X.fs):b∉frs X.stack:=λd=>(C1.mp<|I.stkSub b d).elim a c
def QX(S:qT X N' cap scope)(I:Inv X cp σ H s){fp:Tb}{E:Heap}{C:Uc}{T:Nat}(w:∀b∈fp,nE X cp H b)(G:∀b∈fp,b<s.heap.objs.size)
 (A:s.heap.objs.size<=C) (hn:E.Ns C λ_=>Y) (h:∀b o,s.heap.get? b=Z o->E.get? b=Z o):
 Inv (bV X N' scope C s H fp cp) [] (xA cap σ) H { s with heap:=E,toks:=T }:=by
 have B:∀x c,X.env.cells.lookup x=Z c->c<s.heap.objs.size:=λx c e=>by
  let⟨v,q⟩:=I.cell x c e;exact q.lt
 have fresh:=I.hok.fresh A
 have ok:(bV X N' scope C s H fp cp).Ok:=by
  refine⟨I.ok.mod,S.kind,I.ok.glob,I.ok.blt,A,λx y c J L=>?_,λx N=>?_,λx c N _=>?_,I.ok.hd,I.ok.frames,.inl rfl,λb g=>⟨?_,λx c e=>?_⟩,I.bs,C5 I.ok.bsz I.sz,λb o e g=>?_,λb g=>?_,I.stack,I.stkFree⟩
  .exact I.ok.inj x y c (S.sub I.ok x c J)<|S.sub I.ok y c L
  .exact zQ scope.names [] x (.inl (O6<|S.kinds N))
  .exact absurd N (by show ¬(false=true);decide)
  .exact C2<|C9 (G b g) A
  .exact(w b g).2.2.2.2.1 x c (S.sub I.ok x c e)
  .obtain z|z:=(w b g).2.2.2.1
   .exact I.ok.noex b o e z
   .exact absurd (C9 (B2 (I.ok.bs b o e).1) z)<|Y5 _
  .exact I.stkAll (w b g).2.1 (w b g).2.2.1
 refine⟨ok,rfl,I.bare,Un.kept h,⟨_,hn,λi x v J L h3=>?_⟩,λx c e=>?_,fresh,λx c e=>I.freeC x c<|S.sub I.ok x c e,λp U=>?_,I.hok.kept h,?_⟩
 .
  have a:(cap[i]?).map (λo=>o.bind λj=>(σ[j]?).join)=Z (Z v):=by
   have:(xA cap σ)[i]?=Z (Z v):=L;unfold xA at this;rw[D7]at this;exact this
  cases e:cap[i]? with
  |none=>rw[e]at a;simp at a
  |some o=>
   cases o with
   |none=>rw[e]at a;simp at a
   |some j=>
    rw[e]at a;let⟨D,V,a2,O⟩:=S.cap i j e
    have ex:D=x:=by
     have:N'[i]?=Z x:=J;rw[V]at this;exact E5 this
    subst ex
    have sv:σ[j]?=Z (Z v):=by
     have q:(σ[j]?).join=Z v:=E5 a;cases f:σ[j]? with
     |none=>rw[f]at q;simp at q
     |some o=>rw[f]at q;cases o with
      |none=>simp at q
      |some v'=>simp at q;rw[q]
    have R:=S.frees _ (O6 O) rfl;let⟨m,hm,hl⟩:=I.loc;let⟨u,r,l⟩:=hl j D v a2 sv (R.elim (λz=>.inr (.inl z)) λz=>.inr (.inr z));refine⟨u,r,.inr ⟨?_,?_⟩⟩
    .exact FA O
    .obtain⟨k,_⟩|⟨_,c,hc,o,P,hd⟩:=l
     .obtain z|z:=R<;>rw[z]at k<;>cases k
     .let⟨c',t⟩:=zQ scope.names [] D (.inl (O6 O));have:=S.sub I.ok D c' t;rw[hc]at this;cases this;exact⟨c,t,o,h c o P,hd⟩
 .let⟨v,o,P,hd⟩:=I.cell x c<|S.sub I.ok x c e;exact⟨v,o,h c o P,hd⟩
 .have Q:p∈X.pn++cp:=by
   obtain z|z:=D5.mp U
   .exact z
   .exact absurd z 67
  let⟨e,n,ne,nf,d⟩:=I.pin p Q;exact⟨h _ _ e,n,C2<|C9 (B2 e) A,I.stkAll ne nf,d⟩
 .show(xA cap σ).length=N'.length;unfold xA;rw[A6];exact S.len
end
def tLc(cap:T2)(j:TI)(g:TG)(k:TT)(l:TE):TE:=λe H Q=>j e H λJ n=>∃W:Nat->Nat->Td->St->Hp->Prop,(∃m,W 0 m [] (xA cap e) n)/\∀i m acc c H',W i m acc c H'->
 (J.stop i H'/\∀p,H' p=Y->Q (.ref p) (upd H' p (.lst acc))) \/
 (J.go i H'/\acc.length<bv/\∃N:Td->St->Hp->Prop,(∀acc' a d,N acc' a d->∃f,f<m/\W (i+1) f acc' a d)/\∀x d,J.yld i H' x d->g x c d λa o=>k a o λb h=>(b=true/\l a h λv q=>N (acc++[v]) a q)\/(b=false/\N acc a h))
noncomputable def yS:Key->Ua
 |.inl i=>.int i
 |.inr x=>.str x
mutual
noncomputable def Rep(K:Fg)(H:Hp):Ua->V->Prop
 |.none,v=>v=.non
 |.bool b,v=>v=.bl b
 |.int i,v=>v=.int i
 |.str x,v=>v=.str x
 |.list xs,v=>∃a vs,v=.ref a/\SqL K H a vs/\aL K H xs vs
 |.tuple xs,v=>∃a vs,v=.ref a/\SqT K H a vs/\aL K H xs vs
 |.dict kvs,v=>∃a ks,v=.ref a/\H a=Z (.dK ks)/\pR K H kvs ks
noncomputable def aL(K:Fg)(H:Hp):T3->Td->Prop
 |[],vs=>vs=[]
 |d::ds,vs=>∃v r,vs=v::r/\Rep K H d v/\aL K H ds r
noncomputable def pR(K:Fg)(H:Hp):Tv (Ua×Ua)->Tv (Key×V)->Prop
 |[],ks=>ks=[]
 |(k,d)::kvs,ks=>∃c v r,ks=(c,v)::r/\k=yS c/\Rep K H d v/\pR K H kvs r
end
def jA.seqT(e:jA H H')(h:SqT K H a xs):SqT K H' a xs:=by
 obtain h|h:=h
 .refine .inl ?_;obtain h|⟨o,h⟩:=h
  .exact .inl (e _ _ h)
  .exact .inr ⟨o,e _ _ h⟩
 .exact .inr h
mutual
theorem Rep.same{K:Fg}{H H':Hp}(e:jA H H'):∀(d:Ua)(v:V),Rep K H d v->Rep K H' d v
 |.none=>λv h=>h
 |.bool b=>λv h=>h
 |.int i=>λv h=>h
 |.str x=>λv h=>h
 |.list xs=>λv h=>by
  let⟨a,vs,c,f,g⟩:=h;exact⟨a,vs,c,e.seq f,aL.same e xs vs g⟩
 |.tuple xs=>λv h=>by
  let⟨a,vs,c,f,g⟩:=h;exact⟨a,vs,c,e.seqT f,aL.same e xs vs g⟩
 |.dict kvs=>λv h=>by
  let⟨a,ks,c,f,g⟩:=h;exact⟨a,ks,c,e _ _ f,pR.same e kvs ks g⟩
theorem aL.same{K:Fg}{H H':Hp}(e:jA H H'):∀(ds:T3)(vs:Td),aL K H ds vs->aL K H' ds vs
 |[]=>λvs h=>h
 |d::ds=>λvs h=>by
  let⟨v,r,c,f,g⟩:=h;exact⟨v,r,c,Rep.same e d v f,aL.same e ds r g⟩
theorem pR.same{K:Fg}{H H':Hp}(e:jA H H'):∀(kvs:Tv (Ua×Ua))(ks:Tv (Key×V)),pR K H kvs ks->pR K H' kvs ks
 |[]=>λks h=>h
 |(k,d)::kvs=>λks h=>by
  let⟨j,v,r,c,f,g,l⟩:=h;exact⟨j,v,r,c,f,Rep.same e d v g,pR.same e kvs r l⟩
end
theorem aL.length{K:Fg}{H:Hp}:∀{ds:T3}{vs:Td},aL K H ds vs->ds.length=vs.length
 |[],vs=>λh=>by rw[show vs=[]from h];rfl
 |d::ds,vs=>λh=>by
  let⟨v,r,a,_,b⟩:=h;rw[a,D8,D8,aL.length b]
theorem aL.get{K:Fg}{H:Hp}:∀{ds:T3}{vs:Td}{i:Nat}{v:V},aL K H ds vs->vs[i]?=Z v->∃d,ds[i]?=Z d/\Rep K H d v
 |[],vs,i,v=>λh e=>by rw[show vs=[]from h]at e;simp at e
 |d::ds,vs,0,v=>λh e=>by
  let⟨w,r,a,b,c⟩:=h;rw[a]at e;simp at e;subst e;exact⟨d,rfl,b⟩
 |d::ds,vs,i+1,v=>λh e=>by
  let⟨w,r,a,b,c⟩:=h;rw[a]at e;exact aL.get (i:=i) c (by simpa using e)
theorem aL.app{K:Fg}{H:Hp}:∀{ds es:T3}{vs ws:Td},aL K H ds vs->aL K H es ws->aL K H (ds++es) (vs++ws)
 |[],es,vs,ws=>λh k=>by rw[show vs=[]from h];exact k
 |d::ds,es,vs,ws=>λh k=>by
  let⟨v,r,a,b,c⟩:=h;exact⟨v,r++ws,by rw[a];rfl,b,aL.app c k⟩
section
variable{X:Cx}{cp:T1}{σ:St}{H:Hp}{s:Ub}
def Inv.sysN(I:Inv X cp σ H s):H sysModules=Y:=by
 let⟨o,es,ep,h,_⟩:=I.mod.sysm;exact(I.bs _ _ h).2
def Inv.sysL(I:Inv X cp σ H s)(h:SqL X.K H a xs):sysModules≠a:=by
 intro e;subst e;have hn:=I.sysN;obtain(h|⟨o,h⟩)|⟨o,its,n,c,_,_,hd,_⟩:=h
 .rw[hn]at h;cases h
 .rw[hn]at h;cases h
 .let⟨o',es,ep,h',b⟩:=I.mod.sysm;have:=I.mod.kin _ _ c;rw[h']at this;cases this;rw[hd]at b;cases b
mutual
theorem Rep.reads'(I:Inv X cp σ H s):∀(d:Ua)(v:V)(u:Tz),Rep X.K H d v->RelV v u->∃as,Reads s.heap u d as/\sysModules∉as
 |.none=>λv u r q=>by
  rw[show v=.non from r]at q;rw[show u=Value.none from q];exact⟨_,.none,67⟩
 |.bool b=>λv u r q=>by
  rw[show v=.bl b from r]at q;rw[show u=Value.bool b from q];exact⟨_,.bool b,67⟩
 |.int i=>λv u r q=>by
  rw[show v=.int i from r]at q;let⟨t,rfl⟩:=(show ∃t,u=Value.int i t from q);exact⟨_,.int i t,67⟩
 |.str x=>λv u r q=>by
  rw[show v=.str x from r]at q;let⟨t,rfl⟩:=(show ∃t,u=Value.str x t from q);exact⟨_,.str x t,67⟩
 |.list xs=>λv u r q=>by
  let⟨a,vs,rfl,c,f⟩:=r;rw[show u=Value.ref a from q];let⟨its,B,⟨o,n,g,h,_,hd⟩,_⟩:=I.list c;let⟨as,ha,hs⟩:=aL.reads' I xs vs its f B;exact⟨_,.list g h hd (by simpa using ha),λz=>(C1.mp z).elim (I.sysL c) hs⟩
 |.tuple xs=>λv u r q=>by
  let⟨a,vs,rfl,c,f⟩:=r;rw[show u=Value.ref a from q];let⟨its,B,⟨o,g,h,n,hd⟩,_⟩:=I.tuple c;let⟨as,ha,hs⟩:=aL.reads' I xs vs its f B;exact⟨_,.tuple g h hd (by simpa using ha),hs⟩
 |.dict kvs=>λv u r q=>by
  let⟨a,ks,rfl,c,f⟩:=r;rw[show u=Value.ref a from q];let⟨_,hS,vs,C,o,es,ep,g,D,hd,_,O,_⟩:=(show fA X.prog X.w H s.heap a (.dK ks)from I.hok a _ c);let⟨as,bs,P,Q,j,l⟩:=pR.reads' I kvs ks vs es.toList f C O;refine⟨_,.dict g D.1 hd P Q,λz=>?_⟩;obtain z|z:=D5.mp z
  .obtain z|z:=C1.mp z
   .rw[z]at hS;simp at hS
   .exact j z
  .exact l z
theorem aL.reads'(I:Inv X cp σ H s):∀(ds:T3)(vs:Td)(us:T4),aL X.K H ds vs->bE vs us->∃as,ReadsAll s.heap us ds as/\sysModules∉as
 |[]=>λvs us r q=>by
  rw[show vs=[]from r]at q;cases q;exact⟨_,.nil,67⟩
 |d::ds=>λvs us r q=>by
  let⟨v,t,rfl,c,f⟩:=r;cases q with
  |cons A E=>
   let⟨as,ha,j⟩:=Rep.reads' I d v _ c A;let⟨bs,G,l⟩:=aL.reads' I ds t _ f E;exact⟨_,.cons ha G,λz=>(D5.mp z).elim j l⟩
theorem pR.reads'(I:Inv X cp σ H s):∀(kvs:Tv (Ua×Ua))(ks:Tv (Key×V))(vs:Tv (Key×Tz))(es:Tv DictEntry),pR X.K H kvs ks->KV ks vs->Pairs (dX X.prog X.w) es vs->
 ∃as bs,ReadsAll s.heap (es.map (·.key)) (kvs.map (·.1)) as/\ReadsAll s.heap (es.map (·.val)) (kvs.map (·.2)) bs/\sysModules∉as/\sysModules∉bs
 |[]=>λks vs es r q p=>by
  rw[show ks=[]from r]at q;cases q;cases p;exact⟨_,_,.nil,.nil,67,67⟩
 |(k,d)::kvs=>λks vs es r q p=>by
  let⟨R,v,t,rfl,S,c,f⟩:=r;cases q with
  |@cons _ N _ T A E=>
   cases p with
   |@cons e _ U _ p1 p2 p3=>
    let⟨as,bs,ha,G,j,l⟩:=pR.reads' I kvs t _ _ f E p3;let⟨cs,h,n3⟩:=Rep.reads' I d v _ c A.2
    have m:Reads s.heap e.key k []:=by
     rw[S];have y:GE N.1 e.key=true:=p1;rw[<- show R=N.1 from A.1]at y;obtain⟨i,J,rfl,L⟩|⟨x,J,rfl,L⟩:=dG y
     .rw[L];exact .int i J
     .rw[L];exact .str x J
    refine⟨_,_,.cons m ha,.cons (show Reads s.heap e.val d cs by rw[p2];exact h) G,by simpa using j,λz=>(D5.mp z).elim n3 l⟩
end
def Rep.reads(I:Inv X cp σ H s)(d:Ua)(v:V)(u:Tz)(r:Rep X.K H d v)(q:RelV v u):∃as,Reads s.heap u d as:=let⟨as,h,_⟩:=Rep.reads' I d v u r q;⟨as,h⟩
def aL.reads(I:Inv X cp σ H s)(ds:T3)(vs:Td)(us:T4)(r:aL X.K H ds vs)(q:bE vs us):∃as,ReadsAll s.heap us ds as:=let⟨as,h,_⟩:=aL.reads' I ds vs us r q;⟨as,h⟩
end
section
variable{X:Cx}
def aBt(K:Fg)(neg:Bool):R2:=λx y H Q=>∃dx a,Rep K H dx x/\Rep K H a y/\cj dx=true/\cj a=true/\Q (.bl (if neg then !cn dx a else cn dx a)) H
def aEN(a:X.A.units+64<cLine):OpR X (cf .Eq) (aBt X.K false):=by
 intro cp s k H x y v u Q I b c h;let⟨dx,d,e,f,g,i,q⟩:=h;let⟨as,ha⟩:=Rep.reads I dx x v e b;let⟨bs,j⟩:=Rep.reads I d y u f c;exact eq_dataH ha j g i a ⟨.bl _,H,I,rfl,q⟩
def aNM(a:X.A.units+64<cLine):OpR X (cf .NotEq) (aBt X.K true):=by
 intro cp s k H x y v u Q I b c h;let⟨dx,d,e,f,g,i,q⟩:=h;let⟨as,ha⟩:=Rep.reads I dx x v e b;let⟨bs,j⟩:=Rep.reads I d y u f c;exact ne_dataH ha j g i a ⟨.bl _,H,I,rfl,q⟩
open Classical in
noncomputable def HU(h:Heap)(dv:Ua)(u:Tz):Bool:=if ∃d as,Reads h u d as/\cn d dv=true then true else false
def aGJ(r:Reads h u d as)(b:d.canLay0=true):HU h dv u=cn d dv:=by
 unfold HU;by_cases e:cn d dv=true
 .rw[A8 ⟨d,as,r,e⟩,e]
 .rw[B7,Bool.eq_false_iff.mpr e];rintro⟨c,a,f,g⟩;have:=SeqAt.Reads.unique d c u as a b r f;subst this;exact e g
theorem EL{A:Uf}{s:Ub}(b:Reads s.heap v dv h)(c:cj dv=true)(f:A.units+64<cLine):
 ∀(us:T4)(ds:T3)(as:Tb),ReadsAll s.heap us ds as->ds.all cj=true->(∀y∈us,SeqAt.EqAt A s y v<|HU s.heap dv y)/\us.any (HU s.heap dv)=ds.any λd=>cn d dv
 |[]=>λds as r _=>by
  cases r;exact⟨λy a=>absurd a 67,rfl⟩
 |y::us=>λds as r hs=>by
  cases r with
  |@cons _ _ d i j k g l=>
   rw[Z2,A9]at hs;let⟨m,n⟩:=EL b c f us _ _ l hs.2;have e:=aGJ (dv:=dv) g<|A1f hs.1;have a:SeqAt.EqAt A s y v (cn d dv):=SeqAt.eqAt_reads d dv A s y v _ _ g b (A1f hs.1) (A1f c)<|SeqAt.room_of_shaped hs.1 f;refine⟨λz o=>?_,by rw[Z1,Z1,e,n]⟩;obtain q|q:=C1.mp o
   .rw[q,e];exact a
   .exact m z q
def aNi(K:Fg)(neg:Bool):R2:=λx y H Q=>∃dx ds p vs,Rep K H dx x/\y=.ref p/\(SqL K H p vs\/SqT K H p vs)/\aL K H ds vs/\cj dx=true/\ds.all cj=true /\
 Q (.bl (if neg then !ds.any λd=>cn d dx else ds.any λd=>cn d dx)) H
def aLS(g:X.A.in1.units+64<cLine):OpR X (cf .In) (aNi X.K false):=by
 intro cp s n H x y v u Q I j k h;let⟨dx,ds,p,vs,l,rfl,hp,hds,i,a,q⟩:=h;cases k;let⟨as,ha⟩:=Rep.reads I dx x v l j;obtain hp|hp:=hp
 .let⟨its,r,b,m⟩:=I.list hp;let⟨bs,c⟩:=aL.reads I ds vs its hds r;let⟨d,e⟩:=EL (A:=X.A.in1) ha i g its ds bs c a;refine SeqAt.in_listAt (HU s.heap dx) b.isList (λw f=>d w (by simpa using f)) ⟨.bl _,H,I,rfl,?_⟩;rw[show its.toArray.any (HU s.heap dx)=its.any (HU s.heap dx)by simp,e];exact q
 .let⟨its,r,b,m⟩:=I.tuple hp;let⟨bs,c⟩:=aL.reads I ds vs its hds r;let⟨d,e⟩:=EL (A:=X.A.in1) ha i g its ds bs c a;refine SeqAt.in_tupleAt (HU s.heap dx) b (λw f=>d w (by simpa using f)) ⟨.bl _,H,I,rfl,?_⟩;rw[show its.toArray.any (HU s.heap dx)=its.any (HU s.heap dx)by simp,e];exact q
theorem bE.types:∀{Ts:Tv String}{its:T4},bE (Ts.map V.ty) its->its=Ts.map Value.type
 |[],_=>λh=>by cases h;rfl
 |t::Ts,its=>λh=>by
  cases h with
  |cons a b=>rw[show _=Value.type t from a,bE.types b];rfl
theorem bE.bools:∀{bs:Tv Bool}{its:T4},bE (bs.map V.bl) its->its=bs.map Value.bool
 |[],_=>λh=>by cases h;rfl
 |b::bs,its=>λh=>by
  cases h with
  |cons a c=>rw[show _=Value.bool b from a,bE.bools c];rfl
def all_range(bs:Tv Bool):(List.range bs.length).all (λi=>bs.getD i false)=bs.all id:=by
 rw[A0y];simp only[C3,E4];constructor
 .intro h b a;let⟨i,hi,rfl⟩:=List.mem_iff_getElem.mp a;have:=h i hi;rw[D9,C0 hi]at this;exact this
 .intro h i hi;rw[D9,C0 hi];exact h _<|U9 hi
def OZ{bs:Tv Bool}:TruthOf prog w A (λi v=>(bs.map Value.bool).toArray[i]?=Z v) (λi=>bs.getD i false):=by
 intro i v s Q E a d;rw[A0m,D7]at a;cases e:bs[i]? with
 |none=>rw[e]at a;cases a
 |some b=>
  rw[e]at a;cases a;have f:bs.getD i false=b:=by rw[D9,e];rfl
  have c:Q (bs.getD i false) s:=d;rw[f]at c;exact A0h c
noncomputable def BV:Nat:=2 ^ 8000
def aEB(i:Int):Prop:=i.natAbs<BV
def OO(h:aEB j):j.natAbs.log2<9000:=by
 by_cases a:j.natAbs=0
 .rw[a];decide +kernel
 .exact A0p ((Nat.log2_lt a).mpr h) 66
def aPa(i j:Int):Prop:=aEB i/\aEB j
def JK(h:aEB j):Builtin.Int.intBits j<=2 ^ 20:=by
 unfold Builtin.Int.intBits;by_cases a:(j==0)=true
 .rw[A8 a];exact E6 _
 .rw[B7 a];have:=OO h;omega
end
structure Callee(P:Ue)(w:World)(K:Fg)(mg:Str->Tf)(base:Heap)(k:Nat)(x:Str)(ps:Tc)(sp:Sp)(q:Bool:=true):Prop where
 ex:∃f fd,mE P w K mg base CX0 k f fd ps sp q/\mg x=Z (.ref f)/\PySem.W.keepIn K (.ref f)=true/\Binds K fd ps []
structure Def(K:Fg)(mg:Str->Tf)(x:Str)(st:Stmt):Prop where
 ex:∃f fd,Fun K x x st f fd/\mg x=Z (.ref f)
section
variable{P:Ue}{w:World}{K:Fg}{mg:Str->Tf}{base:Heap}{X:Cx}
def Def.ok{st:Stmt}{ps:Tc}{sp:Sp}{q:Bool}(D:Def K mg x st)(S:aT N ps (aI st))
 (b:∀(kV doc pm:Tz)(an:Th)(cdv ct:Tz)(us:T4),us.length=ps.length->bindArgs (PySem.W.fnOf x x (eK st) (bU st) (aI st) .none kV doc pm an cdv ct) ⟨us,[]⟩=pure (ps.zip us))
 (len:∀vs H Q E,sp vs H Q E->vs.length=ps.length)
 (a:∀(f:Uc)(cdv:Tz)(A:Uf)(outer:Tv Env)(s:Ub)(H:Hp)(vs:Td)(Q:VK)(E:XK),cM k (A.deeper<|envOfC x (aI st) s.heap.objs.size f cdv) q->sp vs H Q E->
  ∃t,PSs (oQ CX0 P w K mg base N x (aI st) f cdv A outer s H E q).nox (bU st) t/\t { nx:=λ_ H'=>Q .non H',rt:=Q } (start N vs) H):Callee P w K mg base (k+1) x ps sp q:=by
 let⟨f,fd,F,m⟩:=D.ex;exact⟨f,fd,F.ok S len λcdv A outer s H vs Q E c h=>a f cdv A outer s H vs Q E c h,m,F.kp,F.binds b⟩
def Callee.mono{k:Nat}(C:Callee P w K mg base j x ps sp)(h:j<=k):Callee P w K mg base k x ps sp:=by
 let⟨f,fd,F,r⟩:=C.ex;exact⟨f,fd,F.mono h,r⟩
def def_mk{st:Stmt}{oc:Tz}{od:Th}{osl:Array (Tf)}{kV doc:Tz}(X:K.In h)(G:h.Ns ce mg)(a:PySem.W.nsIn K ce x=Z (Z (.ref f)))
 (l:K.lookup f=Z ⟨oc,od,.func (PySem.W.fnOf x x (eK st) (bU st) (aI st) .none kV doc pm an cdv ct),osl⟩) (c:PySem.W.codeIn K cdv x=true) (k:PySem.W.keepIn K (.ref f)=true):Def K mg x st:=
 ⟨f,_,aEZ l c k,A1b X G a⟩
def aNQ{e:Ud}{es:T8}(C:Callee X.prog X.w X.K X.mg X.base k x ps sp q)(d:cM k X.A q)(ha:PA X (e::es) t)(g:Gl X x:=by rfl)
 (a:(x==("__debug__":Str))=false:=by decide) (h:cb (e::es) X.env=(false,eval e X.env)::cb es X.env:=by rfl) (c:(backTo pos<|cb es X.env).any (·.1)=false:=by rfl):
 PE X (.Call (.Name x p) (e::es) [] pos) (aCX sp [] E0 t):=by
 let⟨f,fd,F,m,kp,b⟩:=C.ex;exact XZ F d g m kp b .nil aJJ ha a h c
def cM.units1(r:cM k A):A.in1.units+64<cLine:=by have:=r.un;show A.units+1+64<_;omega
def aAM(mg:Str->Tf)(xs:Tc):Prop:=∀x∈xs,mg x=Y
def aAM.of(h:aAM mg xs)(x:Str)(a:x∈xs:=by decide +kernel):mg x=Y:=h x a
def aFx:aAM mg []:=λ_ h=>absurd h 67
def cH{x:Str}(h:mg x=Y)(a:aAM mg xs):aAM mg (x::xs):=λy b=>(C1.mp b).elim (λe=>e▸h) (a y)
def RK(i j:Int):Prop:=aMK i j\/aPa i j
def RK.ok(h:RK i j):IntMulOk i j:=by
 obtain h|h:=h
 .exact h.ok
 .exact IntMulOk.of_bits (JK h.1)<|JK h.2
def aHG:OpR X (binaryOp .Mult) (rI RK λi j=>.int (i*j)):=opI λ_ _ _ _ _ _ _ a q=>mul_int q a.ok
def aJQ(_ j:Int):Prop:=0<j/\aEB j
def aFd:OpR X (binaryOp .FloorDiv) (rI aJQ λi j=>.int (i / j)):=opI λi j _ _ _ _ _ a q=>by
 refine floordiv_int (Int.ne_of_gt a.1) ?_ (.inl (PyProof.noPylong_of_log2<|OO a.2));rw[Int.fdiv_eq_ediv_of_nonneg _ (Int.le_of_lt a.1)];exact q
end
def aJk(sc0:Scope)(N N':Tc)(cap:T2)(scope:Scope):Bool:=
 scope.names.all (λy=>y.2 != .cell)&&(scope.kind==.function)&&scope.names.all (λy=>y.2 != .local || scope.names.lookup y.1==Z .local) &&
 scope.names.all (λy=>y.2 != .free || (sc0.names.lookup y.1==Z .cell || sc0.names.lookup y.1==Z .free))&&(cap.length==N'.length) &&
 (List.range cap.length).all λi=>match cap[i]? with
  |some (some j)=>(match N'[i]?,N[j]? with
   |some x,some y=>x==y&&scope.names.lookup x==Z .free
   |_,_=>false)
  |_=>true
def aGt{X:Cx}{k:Scope}{N:Tc}(o:X.env.scope=k)(p:X.N=N)(h:aJk k N N' cap scope=true):qT X N' cap scope:=by
 unfold aJk at h;simp only[A9,C3,A0f,bne_iff_ne,A2h,E4]at h;let⟨⟨⟨⟨⟨a,b⟩,c⟩,d⟩,e⟩,f⟩:=h;refine⟨a,b,λy m n=>?_,λy m n=>?_,e,λi j l=>?_⟩
 .obtain z|z:=c y m
  .exact absurd n z
  .exact z
 .show X.env.scope.names.lookup y.1=_\/X.env.scope.names.lookup y.1=_;rw[o];obtain z|z:=d y m
  .exact absurd n z
  .exact z
 .have hi:=(B9.mp l).1;have g:=f i hi;rw[l]at g;dsimp only at g;rw[p];split at g
  .rename_i x y ex q;rw[A9,A0f,A0f]at g;exact⟨x,ex,by rw[q,g.1],g.2⟩
  .cases g
noncomputable def tyName:Ua->String
 |.none=>"NoneType"
 |.bool _=>"bool"
 |.int _=>"int"
 |.str _=>"str"
 |.list _=>"list"
 |.tuple _=>"tuple"
 |.dict _=>"dict"
noncomputable def asked:Tv String:=["int","bool","str","list","tuple","dict"]
noncomputable def isT(T S:String):Bool:=T==S || (T=="int"&&S=="bool")
def AM(T:String)(d:Ua):Bool:=isT T<|tyName d
def aOs(S T:String):Tx Bool:=if (Value.type S==Value.type T)=true then Z true else if PySem.W.kitMeta T=true then(PySem.fastBuiltinMro S).map (·.contains (Value.type T))else Y
def aDW:(["NoneType","bool","int","str","list","tuple","dict"].all λS=>asked.all λT=>aOs S T==Z (isT T S))=true:=by decide +kernel
def aFT{T:String}(h:T∈asked):PySem.W.kitOne K (.type (tyName d)) (.type T)=Z (AM T d):=by
 have e:PySem.W.kitOne K (.type (tyName d)) (.type T)=aOs (tyName d) T:=rfl;have a:=aDW;rw[C3]at a;have b:=a (tyName d) (by cases d<;>simp[tyName]);rw[C3]at b;exact eq_of_beq<|b T h
theorem YV{K:Fg}:∀{Ts:Tv String},(∀T∈Ts,T∈asked)->PySem.W.kitAny K (.type (tyName d)) (Ts.map Value.type)=Z (Ts.any λT=>AM T d)
 |[]=>65
 |T::Ts=>λh=>by
  rw[C6];unfold PySem.W.kitAny;rw[aFT (h T B0),Z1];cases AM T d with
  |true=>rfl
  |false=>rw[Bool.false_or];exact YV λU a=>h U<|A7 _ a
section
variable{X:Cx}
def YB{H:Hp}(I:Inv X cp g H s):∀{d:Ua}{v:V}{u:Tz},Rep X.K H d v->RelV v u->∃Hc:Heap->Prop,PySem.W.KitX X.K u (.type (tyName d)) Hc/\Hc s.heap/\u≠.builtin "__main__.__loader__#opaque"
 |.none,v,u=>λh r=>by
  rw[show v=.non from h]at r;cases r;exact⟨_,PySem.W.kitx_none,True.intro,λz=>nomatch z⟩
 |.bool b,v,u=>λh r=>by
  rw[show v=.bl b from h]at r;cases r;exact⟨_,PySem.W.kitx_bool,True.intro,λz=>nomatch z⟩
 |.int i,v,u=>λh r=>by
  rw[show v=.int i from h]at r;let⟨t,q⟩:=r;cases q;exact⟨_,PySem.W.kitx_int,True.intro,λz=>nomatch z⟩
 |.str x,v,u=>λh r=>by
  rw[show v=.str x from h]at r;let⟨t,q⟩:=r;cases q;exact⟨_,PySem.W.kitx_str,True.intro,λz=>nomatch z⟩
 |.list xs,v,u=>λh r=>by
  let⟨a,vs,rfl,c,_⟩:=h;cases r;let⟨its,j,⟨o,n,e,f,_,hd⟩,_⟩:=I.list c;exact⟨_,PySem.W.kitx_list,⟨o,e,f⟩,λz=>nomatch z⟩
 |.tuple xs,v,u=>λh r=>by
  let⟨a,vs,rfl,c,_⟩:=h;cases r;let⟨its,j,⟨o,e,f,n,hd⟩,_⟩:=I.tuple c;exact⟨_,PySem.W.kitx_tuple,⟨o,e,f⟩,λz=>nomatch z⟩
 |.dict kvs,v,u=>λh r=>by
  let⟨a,ks,rfl,c,_⟩:=h;cases r;let⟨_,_,vs,_,o,es,ep,k,l,_⟩:=(I.hok a _ c);exact⟨_,PySem.W.kitx_dict,⟨o,k,l.1⟩,λz=>nomatch z⟩
def aLJ(K:Fg):Td->Hp->VK->Prop:=λxs H Q=>∃x T d,xs=[x,.ty T]/\T∈asked/\Rep K H d x/\Q (.bl (AM T d)) H
def aAB:dH X (.builtin "isinstance") (aLJ X.K):=by
 intro cp s i H xs us Q I r h;let⟨x,T,d,rfl,hT,hd,q⟩:=h;let⟨u,j,rfl,e,b⟩:=vals2 r;cases b;let⟨Hc,a,f,c⟩:=YB I hd e;exact PySem.W.kia_one a I.kIn f (aFT hT) c λg=>⟨.bl _,H,I.tok g,rfl,q⟩
def aDY(K:Fg):Td->Hp->VK->Prop:=λxs H Q=>∃(x:V)(p:Uc)(Ts:Tv String)(d:Ua),xs=[x,.ref p]/\H p=Z (.tup (Ts.map V.ty))/\(∀T∈Ts,T∈asked)/\Rep K H d x/\Q (.bl (Ts.any λT=>AM T d)) H
def WG:dH X (.builtin "isinstance") (aDY X.K):=by
 intro cp s w H xs us Q I r h;let⟨x,p,Ts,d,rfl,i,hT,hd,q⟩:=h;let⟨u,y,rfl,j,c⟩:=vals2 r;cases c;let⟨_,its,k,o,l,e,n,f⟩:=(I.hok p _ i);have b:=bE.types k;subst b;let⟨oc,od,m,osl⟩:=o;subst e f;let⟨Hc,a,t,g⟩:=YB I hd j;exact PySem.W.kia_tup a I.kIn t l (YV hT) g λv=>⟨.bl _,H,I.tok v,rfl,q⟩
end
def jA.upd(h:H p=Y):jA H (upd H p o):=λb u e=>by rw[aO (aX e h)];exact e
def aR:Ua->Tx (T3)
 |.list xs=>Z xs
 |.tuple xs=>Z xs
 |_=>Y
def lN{K:Fg}{H:Hp}:∀{d:Ua}{v:V}{ds:T3},Rep K H d v->aR d=Z ds->∃a vs,v=.ref a/\(SqL K H a vs\/SqT K H a vs)/\aL K H ds vs
 |.list xs,v,ds=>λh e=>by
  let⟨a,vs,b,c,f⟩:=h;cases e;exact⟨a,vs,b,.inl c,f⟩
 |.tuple xs,v,ds=>λh e=>by
  let⟨a,vs,b,c,f⟩:=h;cases e;exact⟨a,vs,b,.inr c,f⟩
 |.none,_,_=>λ_ e=>by cases e
 |.bool _,_,_=>λ_ e=>by cases e
 |.int _,_,_=>λ_ e=>by cases e
 |.str _,_,_=>λ_ e=>by cases e
 |.dict _,_,_=>λ_ e=>by cases e
section
variable{X:Cx}{tg:Ud}
def aKp(K:Fg)(c:TE):TI:=λd H R=>c d H λx b=>∃a,x=.ref a/\((∃xs,SqL K b a xs/\R (Itl K a) b)\/(∃xs,SqT K b a xs/\R (Itt K a) b))
def aMZ{l:Ud}{i:TE}(j:PE X l i):PI X tg l (aKp X.K i):=by
 intro cp s k H R I h;refine thn (j cp s k H _ I h) λv s1 d=>?_;let⟨x,f,c,m,a,e,n⟩:=d;subst e;cases m
 have fp:∀b∈[s1.heap.objs.size],nE X cp f b:=λb r=>by
  have e:=B4.mp r;subst e;exact c.fpOk (B3 _)<|c.hok.fresh<|B3 _
 obtain⟨xs,g,q⟩|⟨xs,g,q⟩:=n
 .let⟨its,t,p,d⟩:=c.list g;refine wpAny_pyIter_list p.isList ?_;exact⟨s1.heap.objs.size,[s1.heap.objs.size],_,_,f,rfl,c.kept λb o e=>A3 _ e,aBv a _,⟨_,B5 _ rfl,rfl,rfl⟩,fp,q⟩
 .let⟨its,t,p,d⟩:=c.tuple g;refine A1g p ?_;exact⟨s1.heap.objs.size,[s1.heap.objs.size],_,_,f,rfl,c.kept λb o e=>A3 _ e,WD a _,⟨_,B5 _ rfl,rfl,rfl⟩,fp,q⟩
end
inductive CD where
 |d (x:Ua)
 |c (n:Nat)
 |t (xs:Tv (Ua ⊕ Nat))
 |f (kvs:Tv (Tv Key×Ua))
 |g (nm:Str)
abbrev Tu:=Tv (Str×CD)
abbrev Te:=Tx CD
abbrev T5:=Tv CD
inductive Cell where
 |lst (xs:T5)
 |dk (kvs:Tv (Key×CD))
 |dt (kvs:Tv (Tv Key×CD))
 |obj (nm:Str) (fs:Tu)
 |exc (fr:Bool) (nm:Str) (fs:Tu)
 |dead
structure Wd where
 F:Hp
 α:Nat->Uc
 n:Nat
structure Wd.Ext(W W':Wd):Prop where
 ff:jA W.F W'.F
 ln:W.n<=W'.n
 al:∀i,i<W.n->W'.α i=W.α i
def Wd.Ext.refl(W:Wd):W.Ext W:=⟨jA.refl _,B3 _,λ_ _=>rfl⟩
def Wd.Ext.trans(a:W.Ext c)(b:c.Ext d):W.Ext d:=⟨a.ff.trans b.ff,C5 a.ln b.ln,λi h=>(b.al i<|C9 h a.ln).trans (a.al i h)⟩
def TQ(K:Fg)(W:Wd):Ua ⊕ Nat->V->Prop
 |.inl x,v=>Rep K W.F x v
 |.inr i,v=>i<W.n/\v=.ref (W.α i)
noncomputable def cdA:Ua ⊕ Nat->CD
 |.inl x=>.d x
 |.inr i=>.c i
def bI(K:Fg)(nm:Str):Uc:=match PySem.W.nsIn K ce nm with
 |some (some (.ref C))=>C
 |_=>0
def bW(K:Fg)(W:Wd):CD->V->Prop
 |.d x,v=>Rep K W.F x v
 |.c i,v=>i<W.n/\v=.ref (W.α i)
 |.t xs,v=>∃a vs,v=.ref a/\W.F a=Z (.tup vs)/\Paired (TQ K W) xs vs
 |.f kvs,v=>∃a o us,v=.ref a/\W.F a=Z (.frz o (.dT us))/\Paired (λp q=>p.1=q.1/\Rep K W.F p.2 q.2) kvs us
 |.g nm,v=>v=.ref (bI K nm)
abbrev bQ(K:Fg)(W:Wd):T5->Td->Prop:=Paired<|bW K W
def UT(K:Fg)(W:Wd):Te->Tx V->Prop
 |none,none=>True
 |some x,some v=>bW K W x v
 |_,_=>False
abbrev bX(K:Fg)(W:Wd):Tv (Te)->St->Prop:=Paired<|UT K W
def OX(a:Uc)(c:Tz)(dx:Th)(fr:Bool)(h:Heap):Prop:=∃o vs,h.get? a=Z o/\o.cls=c/\o.dict=dx/\o.data=.fields vs/\(fr=true->1<vs.size/\vs[1]?=Z .none)
def OH(K:Fg)(W:Wd)(dx:Th)(fs:Tu):Prop:=match dx with
 |none=>fs=[]
 |some d=>fs≠[]/\∃us,W.F d=Z (.xd us)/\Paired (λp q=>p.1=q.1/\bW K W p.2 q.2) fs us
def NJ(K:Fg)(W:Wd)(a:Uc):Cell->HO->Prop
 |.lst xs,.lst vs=>bQ K W xs vs
 |.dk kvs,.dK us=>Paired (λp q=>p.1=q.1/\bW K W p.2 q.2) kvs us
 |.dt kvs,.dT us=>Paired (λp q=>p.1=q.1/\bW K W p.2 q.2) kvs us
 |.obj nm fs,.ins C _ us=>C=bI K nm/\Paired (λp q=>p.1=q.1/\bW K W p.2 q.2) fs us
 |.exc fr nm fs,.ext b=>∃dx,b=OX a (.ref (bI K nm)) dx fr/\OH K W dx fs
 |_,_=>False
noncomputable def aDp:Tc:=["straight_within"]
def tabOf(K:Fg):Tz->Th
 |.ref c=>match K.lookup c with
  |some o=>(match o.data with
   |.fields vs=>(match (vs[11]?:Tf)with
    |some (Value.ref P)=>Z P
    |_=>Y)
   |_=>Y)
  |none=>Y
 |_=>Y
def aFg(K:Fg):Tv (Uc×Str):=K.filterMap λp=>match p.2.data with
 |.func fd=>if aDp.contains fd.name=true then(tabOf K fd.code).map λP=>(P,fd.qualname++".<locals>.<lambda>")else Y
 |_=>Y
def TabAt(H:Hp)(x:Uc×Str):Prop:=∃ps,H x.1=Z (.tbl ps)/\TriplesOk ps.toList/\∀pos a,codeAmong pos ps.toList=Z a->∃c' oc u vs t,a=.ref c'/\H c'=Z (.frz oc u)/\oc.data=.fields vs/\vs[1]?=Z (.str x.2 t)
def TabAt.upd(h:TabAt H x)(b:∀ps,H p≠Z (.tbl ps))(d:∀ob u,H p≠Z (.frz ob u)):TabAt (upd H p o) x:=by
 let⟨ps,e,t,k⟩:=h;refine⟨ps,by rw[aO (show x.1≠p from λz=>b ps (z▸e))];exact e,t,λpos f c=>?_⟩;let⟨c',oc,u,vs,g,i,a,j⟩:=k pos f c;exact⟨c',oc,u,vs,g,i,by rw[aO (show c'≠p from λz=>d oc u (z▸a))];exact a,j⟩
def TabsOk(K:Fg)(F H:Hp):Prop:=∀x∈aFg K,F x.1=Y/\TabAt H x
def TabsOk.upd(h:TabsOk K F H)(b:∀ps,H p≠Z (.tbl ps))(c:∀ob u,H p≠Z (.frz ob u)):TabsOk K F (upd H p o):=λx a=>⟨(h x a).1,(h x a).2.upd b c⟩
def TabsOk.fresh(h:TabsOk K F H)(a:H p=Y):TabsOk K F (L2.upd H p o):=h.upd (λps e=>by rw[a]at e;cases e) λob u e=>by rw[a]at e;cases e
def TabsOk.updF{p:Uc}{o:HO}(h:TabsOk K F H)(b:∀ps,H p≠Z (.tbl ps)):TabsOk K (L2.upd F p o) H:=λx a=>⟨by
 let⟨ps,e,_⟩:=(h x a).2;rw[aO (show x.1≠p from λz=>b ps (z▸e))];exact(h x a).1,(h x a).2⟩
def NJ.nt(r:NJ K W a c o):(∀ps,o≠.tbl ps)/\∀ob u,o≠.frz ob u:=by
 cases c<;>cases o<;>first|exact False.elim r|exact⟨λ_ e=>(by cases e),λ_ _ e=>(by cases e)⟩
def TabsOk.cell{o:HO}(h:TabsOk K F H)(e:H a=Z o)(r:NJ K W a c o):TabsOk K F (L2.upd H a o'):=
 h.upd (λps z=>r.nt.1 ps<|E5<|e.symm.trans z) λob u z=>r.nt.2 ob u<|E5<|e.symm.trans z
structure Good(K:Fg)(W:Wd)(M:Tv Cell)(H:Hp):Prop where
 fh:jA W.F H
 n:W.n=M.length
 cs:∀i c,M[i]?=Z c->c≠.dead->W.F (W.α i)=Y/\∃o,H (W.α i)=Z o/\NJ K W (W.α i) c o
 inj:∀i j c c',M[i]?=Z c->M[j]?=Z c'->c≠.dead->c'≠.dead->W.α i=W.α j->i=j
 tb:TabsOk K W.F H
section
variable{K:Fg}{W W':Wd}{M M':Tv Cell}{H H':Hp}
def TQ.up(h:TQ K W x v)(e:W.Ext W'):TQ K W' x v:=by
 cases x with
 |inl x=>exact Rep.same e.ff _ _ h
 |inr i=>exact⟨C9 h.1 e.ln,by rw[e.al i h.1];exact h.2⟩
def bW.up(h:bW K W x v)(e:W.Ext W'):bW K W' x v:=by
 cases x with
 |d x=>exact Rep.same e.ff _ _ h
 |c i=>exact⟨C9 h.1 e.ln,by rw[e.al i h.1];exact h.2⟩
 |t xs=>
  let⟨a,vs,b,j,k⟩:=h;exact⟨a,vs,b,e.ff _ _ j,Paired.mapP k λ_ _ r=>TQ.up r e⟩
 |f kvs=>
  let⟨a,o,us,b,j,k⟩:=h;exact⟨a,o,us,b,e.ff _ _ j,Paired.mapP k λ_ _ r=>⟨r.1,Rep.same e.ff _ _ r.2⟩⟩
 |g nm=>exact h
def bQ.up(h:bQ K W xs vs)(e:W.Ext W'):bQ K W' xs vs:=Paired.mapP h λ_ _ r=>bW.up r e
def bX.up{γ:Tv (Te)}(h:bX K W γ c)(e:W.Ext W'):bX K W' γ c:=Paired.mapP h λa b r=>by
 cases a<;>cases b
 .exact True.intro
 .exact False.elim r
 .exact False.elim r
 .exact bW.up r e
def OH.up(h:OH K W dx fs)(e:W.Ext W'):OH K W' dx fs:=by
 cases dx with
 |none=>exact h
 |some d=>
  let⟨a,us,b,c⟩:=h;exact⟨a,us,e.ff _ _ b,Paired.mapP c λ_ _ r=>⟨r.1,bW.up r.2 e⟩⟩
def NJ.up(h:NJ K W a c o)(e:W.Ext W'):NJ K W' a c o:=by
 cases c<;>cases o<;>first|exact(let⟨dx,b,d⟩:=h;⟨dx,b,d.up e⟩)|exact False.elim h|exact bQ.up h e|exact Paired.mapP h λ_ _ r=>⟨r.1,bW.up r.2 e⟩|exact⟨h.1,Paired.mapP h.2 λ_ _ r=>⟨r.1,bW.up r.2 e⟩⟩
def Good.lay(g:Good K W M H){o:HO}(d:H p=Y):W.Ext { W with F:=upd W.F p o }/\Good K { W with F:=upd W.F p o } M (upd H p o):=by
 have fp:=g.fh.free d;have e:W.Ext { W with F:=upd W.F p o }:=⟨jA.upd fp,B3 _,λ_ _=>rfl⟩;refine⟨e,?_,g.n,λi c hi h=>?_,g.inj,(g.tb.updF λps e=>by rw[d]at e;cases e).fresh d⟩
 .intro b u a;have a:upd W.F p o b=Z u:=a;by_cases q:b=p
  .subst q;rw[aS]at a;rw[aS];exact a
  .rw[aO q]at a;rw[aO q];exact g.fh b u a
 .let⟨j,o',f,k⟩:=g.cs i c hi h;have ne:=aX f d;exact⟨by show upd W.F p o (W.α i)=Y;rw[aO ne];exact j,o',by rw[aO ne];exact f,k.up e⟩
noncomputable def Wd.more(W:Wd)(p:Uc):Wd:={ W with α:=λi=>if i=W.n then p else W.α i,n:=W.n+1 }
def Wd.ext_more(W:Wd)(p:Uc):W.Ext (W.more p):=⟨jA.refl _,A1i _,λi h=>B7<|C2 h⟩
def Good.new(g:Good K W M H)(f:H p=Y)(r:NJ K W p c o):Good K (W.more p) (M++[c]) (upd H p o):=by
 have e:=W.ext_more p
 have at_:∀i c',(M++[c])[i]?=Z c'->(i<M.length/\M[i]?=Z c')\/(i=M.length/\c'=c):=λi c' h=>by
  by_cases q:i<M.length
  .rw[Y0 q]at h;exact .inl ⟨q,h⟩
  .rw[Z3 (Nat.le_of_not_lt q)]at h
   have h':i-M.length=0:=by
    cases k:i-M.length with
    |zero=>rfl
    |succ m=>rw[k]at h;simp at h
   rw[h']at h;refine .inr ⟨61,?_⟩;simpa using h.symm
 have al:=λi h=>e.al i (by rw[g.n];exact h);have an:(W.more p).α M.length=p:=by show(if M.length=W.n then p else _)=p;rw[A8 g.n.symm]
 have a:∀i c',M[i]?=Z c'->c'≠.dead->W.α i≠p:=λi c' h l=>by
  let⟨_,o',t,_⟩:=g.cs i c' h l;exact aX t f
 refine⟨?_,?_,λi c' hi l=>?_,λi j v s hi x y z d=>?_,g.tb.fresh f⟩
 .intro b u A;have:=g.fh b u A;rw[aO (aX this f)];exact this
 .show W.n+1=_;rw[g.n,B6];rfl
 .obtain⟨q,h⟩|⟨rfl,rfl⟩:=at_ i c' hi
  .let⟨B,o',t,C⟩:=g.cs i c' h l;rw[al i q];exact⟨B,o',by rw[aO (a i c' h l)];exact t,C.up e⟩
  .rw[an];exact⟨g.fh.free f,o,aS,r.up e⟩
 .obtain⟨q,h⟩|⟨rfl,rfl⟩:=at_ i v hi
  .obtain⟨w,h'⟩|⟨rfl,rfl⟩:=at_ j s x
   .rw[al i q,al j w]at d;exact g.inj i j v s h h' y z d
   .rw[al i q,an]at d;exact absurd d<|a i v h y
  .obtain⟨w,h'⟩|⟨rfl,rfl⟩:=at_ j s x
   .rw[an,al j w]at d;exact absurd d.symm<|a j s h' z
   .rfl
def Good.set(g:Good K W M H){i:Nat}{c:Cell}(hi:M[i]?=Z c)(a:c≠.dead)(r:NJ K W (W.α i) c' o'):Good K W (M.set i c') (upd H (W.α i) o'):=by
 let⟨p,o,w,x⟩:=g.cs i c hi a;have lt:=(B9.mp hi).1
 have at_:∀j d,(M.set i c')[j]?=Z d->(j=i/\d=c')\/(j≠i/\M[j]?=Z d):=λj d h=>by
  by_cases q:i=j
  .subst q;rw[F0 lt]at h;exact .inl ⟨rfl,(E5 h).symm⟩
  .rw[F6 q]at h;exact .inr ⟨λz=>q z.symm,h⟩
 refine⟨?_,by rw[g.n,Z6],λj d e hd=>?_,λj k f l e y s t m=>?_,g.tb.cell w x⟩
 .intro b u v;rw[aO (aX v p)];exact g.fh b u v
 .obtain⟨rfl,rfl⟩|⟨q,h⟩:=at_ j d e
  .exact⟨p,o',aS,r⟩
  .let⟨A,u,B,C⟩:=g.cs j d h hd;have ne:=λz=>q<|g.inj j i d c h hi hd a z;exact⟨A,u,by rw[aO ne];exact B,C⟩
 .obtain⟨rfl,rfl⟩|⟨q,h⟩:=at_ j f e<;>obtain⟨rfl,rfl⟩|⟨D,h'⟩:=at_ k l y
  .rfl
  .exact g.inj _ k c l hi h' a t m
  .exact g.inj j _ f c h hi s a m
  .exact g.inj j k f l h h' s t m
end
abbrev Ga:=Tv<|Te
abbrev Sto:=Tv Cell
abbrev EF:=Ga->Sto->Option (CD×Sto)
abbrev TF:=Ga->Sto->Tx (Bool×Sto)
abbrev AF:=Ga->Sto->Option (List CD×Sto)
inductive Out where
 |nx (γ:Ga)|bk (γ:Ga)|ct (γ:Ga)|rt (x:CD)
abbrev SF:=Ga->Sto->Tx (Out×Sto)
abbrev GF:=CD->Ga->Sto->Tx (Ga×Sto)
abbrev GsF:=T5->Ga->Sto->Tx (Ga×Sto)
abbrev F1:=CD->Sto->Tx (CD×Sto)
abbrev F2:=CD->CD->Sto->Tx (CD×Sto)
abbrev FN:=T5->Sto->Tx (CD×Sto)
section
variable(K:Fg)
def SE(t:TE)(f:EF):Prop:=∀γ M x M',f γ M=Z (x,M')->∀(W:Wd)(H:Hp)(a:St)(Q:VK),Good K W M H->bX K W γ a->(∀v W' H',W.Ext W'->Good K W' M' H'->bW K W' x v->Q v H')->t a H Q
def STt(t:TT)(f:TF):Prop:=∀γ M b M',f γ M=Z (b,M')->∀(W:Wd)(H:Hp)(a:St)(Q:Bool->Hp->Prop),Good K W M H->bX K W γ a->(∀W' H',W.Ext W'->Good K W' M' H'->Q b H')->t a H Q
def SA(t:TA)(f:AF):Prop:=∀γ M xs M',f γ M=Z (xs,M')->∀(W:Wd)(H:Hp)(a:St)(Q:Td->Hp->Prop),Good K W M H->bX K W γ a->(∀vs W' H',W.Ext W'->Good K W' M' H'->bQ K W' xs vs->Q vs H')->t a H Q
def aFj(D:Ends)(W:Wd)(H:Hp):Out->Prop
 |.nx γ=>∀a,bX K W γ a->D.nx a H
 |.bk γ=>∀a,bX K W γ a->D.bk a H
 |.ct γ=>∀a,bX K W γ a->D.ct a H
 |.rt x=>∀v,bW K W x v->D.rt v H
def SS(t:TS)(f:SF):Prop:=∀γ M o M',f γ M=Z (o,M')->∀(W:Wd)(H:Hp)(a:St)(D:Ends),Good K W M H->bX K W γ a->(∀W' H',W.Ext W'->Good K W' M' H'->aFj K D W' H' o)->t D a H
def SG(t:TG)(f:GF):Prop:=∀x γ M a M',f x γ M=Z (a,M')->∀(W:Wd)(H:Hp)(c:St)(v:V)(Q:St->Hp->Prop),Good K W M H->bX K W γ c->bW K W x v->(∀b W' H',W.Ext W'->Good K W' M' H'->bX K W' a b->Q b H')->t v c H Q
def SGs(t:TGs)(f:GsF):Prop:=∀xs γ M a M',f xs γ M=Z (a,M')->∀(W:Wd)(H:Hp)(c:St)(vs:Td)(Q:St->Hp->Prop),Good K W M H->bX K W γ c->bQ K W xs vs->(∀b W' H',W.Ext W'->Good K W' M' H'->bX K W' a b->Q b H')->t vs c H Q
def P2(r:R2)(f:F2):Prop:=∀x y M z M',f x y M=Z (z,M')->∀(W:Wd)(H:Hp)(v u:V)(Q:VK),Good K W M H->bW K W x v->bW K W y u->(∀w W' H',W.Ext W'->Good K W' M' H'->bW K W' z w->Q w H')->r v u H Q
def P1(r:V->Hp->VK->Prop)(f:F1):Prop:=∀x M z M',f x M=Z (z,M')->∀(W:Wd)(H:Hp)(v:V)(Q:VK),Good K W M H->bW K W x v->(∀w W' H',W.Ext W'->Good K W' M' H'->bW K W' z w->Q w H')->r v H Q
def PN(r:Td->Hp->VK->Prop)(f:FN):Prop:=∀xs M z M',f xs M=Z (z,M')->∀(W:Wd)(H:Hp)(vs:Td)(Q:VK),Good K W M H->bQ K W xs vs->(∀w W' H',W.Ext W'->Good K W' M' H'->bW K W' z w->Q w H')->r vs H Q
def spM(f:FN):Sp:=λvs H Q _=>∃xs M W y M',Good K W M H/\bQ K W xs vs/\f xs M=Z (y,M')/\∀v W' H',W.Ext W'->Good K W' M' H'->bW K W' y v->Q v H'
end
def aE(i:Nat):EF:=λγ M=>match γ[i]? with
 |some (some x)=>Z (x,M)
 |_=>Y
def fC(x:Ua):EF:=λ_ M=>Z (.d x,M)
noncomputable def fOp(h:F2)(f g:EF):EF:=λγ M=>(f γ M).bind λr=>(g γ r.2).bind λq=>h r.1 q.1 q.2
noncomputable def fUn(h:F1)(f:EF):EF:=λγ M=>(f γ M).bind λr=>h r.1 r.2
def asB:CD->Tx Bool
 |.d (.bool b)=>Z b
 |_=>Y
def kQ(f g:EF):EF:=λγ M=>(f γ M).bind λr=>(asB r.1).bind λb=>if b=true then g γ r.2 else Z (.d (.bool false),r.2)
def fOr(f g:EF):EF:=λγ M=>(f γ M).bind λr=>(asB r.1).bind λb=>if b=true then Z (.d (.bool true),r.2)else g γ r.2
def RG(f:EF):EF:=λγ M=>(f γ M).bind λr=>(asB r.1).bind λb=>Z (.d (.bool (!b)),r.2)
noncomputable def fIf(t:TF)(f g:EF):EF:=λγ M=>(t γ M).bind λr=>if r.1=true then f γ r.2 else g γ r.2
def LO(f g:TF):TF:=λγ M=>(f γ M).bind λr=>if r.1=true then g γ r.2 else Z (false,r.2)
def gOr(f g:TF):TF:=λγ M=>(f γ M).bind λr=>if r.1=true then Z (true,r.2)else g γ r.2
def gF(f:TF):TF:=λγ M=>(f γ M).bind λr=>Z (!r.1,r.2)
def gB(f:EF):TF:=λγ M=>(f γ M).bind λr=>(asB r.1).bind λb=>Z (b,r.2)
def HC(h h':F2)(f g e:EF):EF:=λγ M=>(f γ M).bind λr=>(g γ r.2).bind λq=>(h r.1 q.1 q.2).bind λz=>(asB z.1).bind λb=>if b=true then(e γ z.2).bind λw=>h' q.1 w.1 w.2 else Z (.d (.bool false),z.2)
def aN:AF:=λ_ M=>Z ([],M)
def aC(f:EF)(g:AF):AF:=λγ M=>(f γ M).bind λr=>(g γ r.2).bind λq=>Z (r.1::q.1,q.2)
def kI:T5->Tx (T3)
 |[]=>Z []
 |.d x::r=>(kI r).map (x::·)
 |.c _::_=>Y
 |.t _::_=>Y
 |.f _::_=>Y
 |.g _::_=>Y
def bG(f:AF):EF:=λγ M=>(f γ M).bind λr=>(kI r.1).bind λds=>if ds.length<=bv then Z (.d (.tuple ds),r.2)else Y
def fI(f:AF):EF:=λγ M=>(f γ M).bind λr=>(kI r.1).bind λds=>if ds.length<=bv then Z (.d (.list ds),r.2)else Y
def rS(f:AF):EF:=λγ M=>(f γ M).bind λr=>if r.1.length<=bv then Z (.c r.2.length,r.2++[.lst r.1])else Y
noncomputable def aM(h:FN)(f:AF):EF:=λγ M=>(f γ M).bind λr=>h r.1 r.2
def cJ:SF:=λγ M=>Z (.nx γ,M)
def bC(f g:SF):SF:=λγ M=>(f γ M).bind λr=>match r.1 with
 |.nx a=>g a r.2
 |o=>Z (o,r.2)
def mG(f:EF):SF:=λγ M=>(f γ M).bind λr=>Z (.nx γ,r.2)
def cF(f:EF):SF:=λγ M=>(f γ M).bind λr=>Z (.rt r.1,r.2)
def aPH:SF:=λ_ M=>Z (.rt (.d .none),M)
noncomputable def sIf(c:TF)(f g:SF):SF:=λγ M=>(c γ M).bind λr=>if r.1=true then f γ r.2 else g γ r.2
def bA(f:EF)(g:GF):SF:=λγ M=>(f γ M).bind λr=>(g r.1 γ r.2).bind λq=>Z (.nx q.1,q.2)
def cq(i:Nat):GF:=λx γ M=>Z (γ.set i<|Z x,M)
def IM:GsF:=λxs γ M=>match xs with
 |[]=>Z (γ,M)
 |_=>Y
def gW(f:GF)(g:GsF):GsF:=λxs γ M=>match xs with
 |x::r=>(f x γ M).bind λq=>g r q.1 q.2
 |[]=>Y
def fR(n:Nat)(g:GsF):GF:=λx γ M=>match x with
 |.d (.tuple ds)=>if ds.length=n then g (ds.map .d) γ M else Y
 |.t xs=>if xs.length=n then g (xs.map cdA) γ M else Y
 |_=>Y
abbrev F3:=CD->CD->CD->Sto->Tx Sto
def hSub(a b:EF)(s:F3):GF:=λx γ M=>(a γ M).bind λr=>(b γ r.2).bind λq=>(s r.1 q.1 x q.2).bind λM'=>Z (γ,M')
def SC(i j:Nat)(f:AF):SF:=λγ M=>(f γ M).bind λr=>match r.1 with
 |[x,y]=>Z (.nx ((γ.set i<|Z x).set j (Z y)),r.2)
 |_=>Y
def mH(g:GF)(b:SF):T5->Ga->Sto->Tx (Out×Sto)
 |[],γ,M=>Z (.nx γ,M)
 |x::xs,γ,M=>(g x γ M).bind λr=>(b r.1 r.2).bind λq=>match q.1 with
  |.nx a=>mH g b xs a q.2
  |.ct a=>mH g b xs a q.2
  |.bk a=>Z (.nx a,q.2)
  |.rt x=>Z (.rt x,q.2)
def uA(f:AF)(g:GF)(b:SF):SF:=λγ M=>(f γ M).bind λr=>mH g b r.1 γ r.2
def gS(c:TF)(b:SF):Nat->Ga->Sto->Tx (Out×Sto)
 |0,_,_=>Y
 |n+1,γ,M=>(c γ M).bind λr=>if r.1=true then(b γ r.2).bind λq=>match q.1 with
  |.nx a=>gS c b n a q.2
  |.ct a=>gS c b n a q.2
  |.bk a=>Z (.nx a,q.2)
  |.rt x=>Z (.rt x,q.2)else Z (.nx γ,r.2)
open Classical in
noncomputable def xK(c:TF)(b:SF):SF:=λγ M=>if h:∃n,(gS c b n γ M).isSome=true then gS c b h.choose γ M else Y
def lcF(g:GF)(c:TF)(e:EF):T5->Ga->Sto->Tx (T5×Sto)
 |[],γ,M=>Z ([],M)
 |x::xs,γ,M=>(g x γ M).bind λa=>(c a.1 a.2).bind λb=>if b.1=true then(e a.1 b.2).bind λr=>(lcF g c e xs a.1 r.2).bind λq=>Z (r.1::q.1,q.2)else lcF g c e xs a.1 b.2
noncomputable def qI(cap:T2)(γ:Ga):Ga:=cap.map λo=>o.bind λj=>(γ[j]?).join
def cK:TF:=λ_ M=>Z (true,M)
def BL(cap:T2)(f:AF)(g:GF)(c:TF)(e:EF):AF:=λγ M=>(f γ M).bind λr=>if r.1.length<=bv then lcF g c e r.1 (qI cap γ) r.2 else Y
def fLc(cap:T2)(f:AF)(g:GF)(c:TF)(e:EF):EF:=fI<|BL cap f g c e
def HX(cap:T2)(f:AF)(g:GF)(c:TF)(e:EF):EF:=rS<|BL cap f g c e
def fnF(ps N:Nat)(b:SF):FN:=λxs M=>if xs.length=ps then(b (xs.map Z++List.replicate (N-xs.length) Y) M).bind λr=>match r.1 with
 |.rt x=>Z (x,r.2)
 |.nx _=>Z (.d .none,r.2)
 |_=>Y else Y
def aH{b c:Type}{o:Tx b}{k:b->Tx c}{r:c}(h:o.bind k=Z r):∃a,o=Z a/\k a=Z r:=by
 cases o with
 |none=>cases h
 |some a=>exact⟨a,rfl,h⟩
theorem Paired.get{a b:Type}{R:a->b->Prop}:∀{xs:Tv a}{ys:Tv b}{i:Nat}{x:a},Paired R xs ys->xs[i]?=Z x->∃y,ys[i]?=Z y/\R x y
 |_,_,_,_,.nil=>λe=>by simp at e
 |_,_,0,_,.cons r _=>λe=>by simp at e;subst e;exact⟨_,rfl,r⟩
 |_,_,i+1,x,.cons _ t=>λe=>by
  let⟨u,c,d⟩:=Paired.get t (by simpa using e);exact⟨u,by simpa using c,d⟩
theorem Paired.set{a b:Type}{R:a->b->Prop}{x:a}{y:b}(r:R x y):∀{xs:Tv a}{ys:Tv b}(i:Nat),Paired R xs ys->Paired R (xs.set i x) (ys.set i y)
 |_,_,_,.nil=>.nil
 |_,_,0,.cons _ t=>.cons r t
 |_,_,i+1,.cons q t=>.cons q (Paired.set r i t)
theorem Paired.app{c d:Type}{R:c->d->Prop}:∀{xs a:Tv c}{ys b:Tv d},Paired R xs ys->Paired R a b->Paired R (xs++a) (ys++b)
 |_,_,_,_,.nil=>λs=>s
 |_,_,_,_,.cons r t=>λs=>.cons r (Paired.app t s)
def Paired.len{a b:Type}{R:a->b->Prop}{xs:Tv a}{ys:Tv b}(p:Paired R xs ys):xs.length=ys.length:=A2o p
section
variable{K:Fg}
theorem eT{W:Wd}:∀{xs:T5}{ds:T3}{vs:Td},kI xs=Z ds->bQ K W xs vs->aL K W.F ds vs
 |[],ds,vs=>λe h=>by
  cases e;cases h;rfl
 |.c _::_,ds,vs=>λe h=>by cases e
 |.t _::_,ds,vs=>λe h=>by cases e
 |.f _::_,ds,vs=>λe h=>by cases e
 |.g _::_,ds,vs=>λe h=>by cases e
 |.d x::r,ds,vs=>λe h=>by
  cases h with
  |@cons _ v _ a b i=>
   unfold kI at e;cases q:kI r with
   |none=>rw[q]at e;cases e
   |some es=>
    rw[q]at e;cases e;exact⟨v,a,rfl,b,eT q i⟩
def ZP(h:Paired (TQ K W) xs vs):bQ K W (xs.map cdA) vs:=by
 induction h with
 |nil=>exact .nil
 |@cons x v _ _ r _ ih=>exact .cons (by cases x<;>exact r) ih
theorem kK{W:Wd}:∀{ds:T3}{vs:Td},aL K W.F ds vs->bQ K W (ds.map .d) vs
 |[],vs=>λh=>by rw[show vs=[]from h];exact .nil
 |d::ds,vs=>λh=>by
  let⟨v,r,rfl,a,b⟩:=h;exact .cons a (kK b)
theorem GG:∀{xs:T5}{ds:T3},kI xs=Z ds->ds.length=xs.length
 |[],ds=>λe=>by cases e;rfl
 |.c _::_,ds=>λe=>by cases e
 |.t _::_,ds=>λe=>by cases e
 |.f _::_,ds=>λe=>by cases e
 |.g _::_,ds=>λe=>by cases e
 |.d x::r,ds=>λe=>by
  unfold kI at e;cases q:kI r with
  |none=>rw[q]at e;cases e
  |some es=>
   rw[q]at e;cases e;rw[D8,D8,GG q]
def aLn:SE K (aQf i) (aE i):=by
 intro γ M x M' h W H c Q g r k;unfold aE at h;cases e:γ[i]? with
 |none=>rw[e]at h;cases h
 |some o=>
  cases o with
  |none=>rw[e]at h;cases h
  |some y=>
   rw[e]at h;cases h;let⟨v,b,a⟩:=Paired.get r e;cases v with
   |none=>exact False.elim a
   |some v=>exact⟨v,b,k v W H (.refl _) g a⟩
def aCH:SE K (tC (.int i)) (fC (.int i)):=by
 intro γ M x M' h W H a Q g r k;cases h;exact k _ W H (.refl _) g rfl
def aQu:SE K (tC (.bl b)) (fC (.bool b)):=by
 intro γ M x M' h W H a Q g r k;cases h;exact k _ W H (.refl _) g rfl
def aKD:SE K (tC .non) (fC .none):=by
 intro γ M x M' h W H a Q g r k;cases h;exact k _ W H (.refl _) g rfl
def aLo:SE K (tC (.str x)) (fC (.str x)):=by
 intro γ M x M' h W H a Q g r k;cases h;exact k _ W H (.refl _) g rfl
variable{ta tb tc:TE}{f g e:EF}{tt uu:TT}{ft gt:TF}{tA:TA}{fa:AF}
def XE{r:R2}{h:F2}(p:P2 K r h)(a:SE K ta f)(b:SE K tb g):SE K (tOp r ta tb) (fOp h f g):=by
 intro γ M x M' c W H d Q G R k;let⟨⟨y,M1⟩,l,c⟩:=aH c;let⟨⟨z,M2⟩,m,c⟩:=aH c;refine a _ _ _ _ l W H d _ G R λv n o i q s=>?_;refine b _ _ _ _ m n o d _ q (R.up i) λu t A j G2 B=>?_;exact p _ _ _ _ _ c t A v u Q G2 (s.up j) B λw C D E G3 I=>k w C D ((i.trans j).trans E) G3 I
def aPp{r:V->Hp->VK->Prop}{h:F1}(p:P1 K r h)(a:SE K ta f):SE K (tUn r ta) (fUn h f):=by
 intro γ M x M' b W H c Q G R k;let⟨⟨y,M1⟩,d,b⟩:=aH b;refine a _ _ _ _ d W H c _ G R λv i j l m n=>?_;exact p _ _ _ _ b i j v Q m n λw o q s G3 t=>k w o q (l.trans s) G3 t
def MV{b:Bool}(h:asB x=Z b):x=.d (.bool b):=by
 cases x with
 |c n=>cases h
 |t n=>cases h
 |f n=>cases h
 |g _=>cases h
 |d x=>cases x<;>first|cases h;rfl|cases h
def aKA(a:SE K ta f)(b:SE K tb g):SE K (aJu ta tb) (kQ f g):=by
 intro γ M x M' d W H i Q G R k;let⟨⟨y,M1⟩,n,d⟩:=aH d;let⟨c,o,d⟩:=aH d;refine a _ _ _ _ n W H i _ G R λv j l h m p=>?_;have q:=MV o;subst q;refine⟨c,p,?_⟩;cases c with
 |true=>rw[A8 rfl];rw[A8 rfl]at d;exact b _ _ _ _ d j l i Q m (R.up h) λw r s t G3 u=>k w r s (h.trans t) G3 u
 |false=>
  cases d;exact k _ j l h m rfl
def aMk(a:SE K ta f):SE K (aJH ta) (RG f):=by
 intro γ M x M' b W H d Q G R k;let⟨⟨y,M1⟩,h,b⟩:=aH b;let⟨c,i,b⟩:=aH b;refine a _ _ _ _ h W H d _ G R λv j l m n o=>?_;have p:=MV i;subst p;cases b;exact⟨c,o,k _ j l m n rfl⟩
def aEM{r l:R2}{h h':F2}(p:P2 K r h)(p':P2 K l h')(a:SE K ta f)(b:SE K tb g)(c:SE K tc e):SE K (aCP r l ta tb tc) (HC h h' f g e):=by
 intro γ M x M' d W H j Q G R k;let⟨⟨y,M1⟩,I,d⟩:=aH d;let⟨⟨z,M2⟩,J,d⟩:=aH d;let⟨⟨w,M3⟩,L,d⟩:=aH d;let⟨q,N,d⟩:=aH d;refine a _ _ _ _ I W H j _ G R λv O P n S T=>?_;refine b _ _ _ _ J O P j _ S (R.up n) λu U V s G2 A=>?_;refine p _ _ _ _ _ L U V v u _ G2 (T.up s) A λt B C D G3 X=>?_;have hy:=MV N;subst hy;refine⟨q,X,?_⟩;have i:=(n.trans s).trans D;cases q with
 |true=>
  let⟨⟨m,M4⟩,h5,d⟩:=aH d;refine c _ _ _ _ h5 B C j _ G3 (R.up i) λo W4 H4 E G4 r4=>?_;exact p' _ _ _ _ _ d W4 H4 u o Q G4 (A.up<|D.trans E) r4 λw W5 H5 e5 G5 r5=>k w W5 H5 ((i.trans E).trans e5) G5 r5
 |false=>
  cases d;exact k _ B C i G3 rfl
def aNI(a:STt K tt ft)(b:STt K uu gt):STt K (aNZ tt uu) (LO ft gt):=by
 intro γ M x M' d W H i Q G R k;let⟨⟨c,M1⟩,n,d⟩:=aH d;refine a _ _ _ _ n W H i _ G R λj l h m=>?_;cases c with
 |true=>rw[A8 rfl];rw[A8 rfl]at d;exact b _ _ _ _ d j l i Q m (R.up h) λo p q G3=>k o p (h.trans q) G3
 |false=>rw[B7 C4];rw[B7 C4]at d;cases d;exact k j l h m
def aOG(a:STt K tt ft)(b:STt K uu gt):STt K (tOr tt uu) (gOr ft gt):=by
 intro γ M x M' d W H i Q G R k;let⟨⟨c,M1⟩,n,d⟩:=aH d;refine a _ _ _ _ n W H i _ G R λj l h m=>?_;cases c with
 |true=>rw[A8 rfl];rw[A8 rfl]at d;cases d;exact k j l h m
 |false=>rw[B7 C4];rw[B7 C4]at d;exact b _ _ _ _ d j l i Q m (R.up h) λo p q G3=>k o p (h.trans q) G3
def aML(a:STt K tt ft):STt K (aNx tt) (gF ft):=by
 intro γ M x M' b W H d Q G R k;let⟨⟨c,M1⟩,h,b⟩:=aH b;cases b;exact a _ _ _ _ h W H d _ G R λi j l m=>k i j l m
def aKv(a:SE K ta f):STt K (tB ta) (gB f):=by
 intro γ M x M' b W H d Q G R k;let⟨⟨y,M1⟩,h,b⟩:=aH b;let⟨c,i,b⟩:=aH b;refine a _ _ _ _ h W H d _ G R λv j l m n o=>?_;have p:=MV i;subst p;cases b;exact⟨_,o,k j l m n⟩
def aGM(a:SE K ta f):STt K (aJF ta) (gB f):=aKv a
def aKn:SA K aBf aN:=by
 intro γ M x M' a W H b Q G R k;cases a;exact k [] W H (.refl _) G .nil
def aHq(a:SE K ta f)(b:SA K tA fa):SA K (sW ta tA) (aC f fa):=by
 intro γ M x M' c W H d Q G R k;let⟨⟨y,M1⟩,j,c⟩:=aH c;let⟨⟨t,M2⟩,l,c⟩:=aH c;cases c;refine a _ _ _ _ j W H d _ G R λv m n h o p=>?_;exact b _ _ _ _ l m n d _ o (R.up h) λvs q r i G2 s=>k _ q r (h.trans i) G2 (.cons (p.up i) s)
def aMb(b:SA K tA fa):SE K (aHu tA) (bG fa):=by
 intro γ M x M' a W H i Q G R k;let⟨⟨r,M1⟩,j,a⟩:=aH a;let⟨ds,l,a⟩:=aH a;by_cases c:ds.length<=bv
 .rw[A8 c]at a;cases a;refine b _ _ _ _ j W H i _ G R λvs s t m n o=>?_;have d:=eT l o;refine⟨by rw[<- d.length];exact c,λp q=>?_⟩;let⟨h,G2⟩:=n.lay q;exact k _ _ _ (m.trans h) G2 ⟨p,vs,rfl,SqT.of aS,aL.same h.ff _ _ d⟩
 .rw[B7 c]at a;cases a
def aKj(b:SA K tA fa):SE K (aKz tA) (fI fa):=by
 intro γ M x M' a W H i Q G R k;let⟨⟨r,M1⟩,j,a⟩:=aH a;let⟨ds,l,a⟩:=aH a;by_cases c:ds.length<=bv
 .rw[A8 c]at a;cases a;refine b _ _ _ _ j W H i _ G R λvs s t m n o=>?_;have d:=eT l o;refine⟨by rw[<- d.length];exact c,λp q=>?_⟩;let⟨h,G2⟩:=n.lay q;exact k _ _ _ (m.trans h) G2 ⟨p,vs,rfl,SqL.of aS,aL.same h.ff _ _ d⟩
 .rw[B7 c]at a;cases a
def Good.newV(g:Good K W M H):bW K (W.more p) (.c M.length) (.ref p):=by
 refine⟨?_,?_⟩
 .show M.length<W.n+1;rw[g.n];exact Y8 _
 .show V.ref p=.ref (if M.length=W.n then p else W.α M.length);rw[A8 g.n.symm]
def aNA(b:SA K tA fa):SE K (aKz tA) (rS fa):=by
 intro γ M x M' a W H i Q G R k;let⟨⟨j,M1⟩,l,a⟩:=aH a;by_cases c:j.length<=bv
 .have a:=a;rw[A8 c]at a;cases a;refine b _ _ _ _ l W H i _ G R λvs m q n d h=>?_;refine⟨by rw[<- Paired.len h];exact c,λp o=>?_⟩;exact k _ _ _ (n.trans<|m.ext_more p) (d.new o h) d.newV
 .have a:=a;rw[B7 c]at a;cases a
def aIa{h:FN}(b:SA K tA fa):SE K (aCX (spM K h) [] E0 tA) (aM h fa):=by
 intro γ M x M' a W H c Q G R k;let⟨⟨d,M1⟩,i,a⟩:=aH a;refine b _ _ _ _ i W H c _ G R λvs j s l m n=>?_;rw[J8];exact⟨d,M1,j,x,M',m,n,a,λv o p q G2 r=>k v o p (l.trans q) G2 r⟩
def aJL{r:Td->Hp->VK->Prop}{h:FN}(p:PN K r h)(b:SA K tA fa):SE K (tCB r tA) (aM h fa):=by
 intro γ M x M' a W H c Q G R k;let⟨⟨u,M1⟩,d,a⟩:=aH a;refine b _ _ _ _ d W H c _ G R λvs i j l m n=>?_;exact p _ _ _ _ a i j vs Q m n λv o q s G2 t=>k v o q (l.trans s) G2 t
end
section
variable{K:Fg}{ta tb tc:TE}{f g e:EF}{tt uu:TT}{ft gt:TF}{tA:TA}{fa:AF}{t u:TS}{p q:SF}{tg:TG}{hg:GF}{tgs:TGs}{hgs:GsF}
def aGe:SS K aJB cJ:=by
 intro γ M o M' a W H b D G R k;cases a;exact k W H (.refl _) G b R
def aNj(a:SS K t p)(b:SS K u q):SS K (aLb t u) (bC p q):=by
 intro γ M o M' c W H n D G R k;let⟨⟨r,M1⟩,s,c⟩:=aH c;refine a _ _ _ _ s W H n _ G R λh i j l=>?_;cases r with
 |nx d=>
  intro m v;exact b _ _ _ _ c h i m D l v λw y z G2=>k w y (j.trans z) G2
 |bk d=>cases c;exact k h i j l
 |ct d=>cases c;exact k h i j l
 |rt x=>cases c;exact k h i j l
def aGp(a:SE K ta f):SS K (aEn ta) (mG f):=by
 intro γ M o M' b W H c D G R k;let⟨⟨y,M1⟩,h,b⟩:=aH b;cases b;exact a _ _ _ _ h W H c _ G R λv i j d l m=>k i j d l c<|R.up d
def aKl(a:SE K ta f):SS K (aPm ta) (cF f):=by
 intro γ M o M' b W H c D G R k;let⟨⟨y,M1⟩,d,b⟩:=aH b;cases b;exact a _ _ _ _ d W H c _ G R λv h i j l m=>k h i j l v m
def aOw(c:STt K tt ft)(a:SS K t p)(b:SS K u q):SS K (aIP tt t u) (sIf ft p q):=by
 intro γ M o M' d W H i D G R k;let⟨⟨v,M1⟩,w,d⟩:=aH d;refine c _ _ _ _ w W H i _ G R λn r h s=>?_;cases v with
 |true=>rw[A8 rfl];rw[A8 rfl]at d;exact a _ _ _ _ d n r i D s (R.up h) λj l m G3=>k j l (h.trans m) G3
 |false=>rw[B7 C4];rw[B7 C4]at d;exact b _ _ _ _ d n r i D s (R.up h) λj l m G3=>k j l (h.trans m) G3
def ND(a:SE K ta f)(b:SG K tg hg):SS K (aAU ta tg) (bA f hg):=by
 intro γ M o M' c W H h D G R k;let⟨⟨y,M1⟩,j,c⟩:=aH c;let⟨⟨l,M2⟩,m,c⟩:=aH c;cases c;refine a _ _ _ _ j W H h _ G R λv n r i s w=>?_;exact b _ _ _ _ _ m n r h v _ s (R.up i) w λd x z A G2 R2=>k x z (i.trans A) G2 d R2
def bX.set{a:St}{x:CD}{v:V}(R:bX K W γ a)(i:Nat)(r:bW K W x v):bX K W (γ.set i<|Z x) (a.set i<|Z v):=Paired.set (show UT K W (Z x) (Z v)from r) i R
def yJ:SG K (DU i) (cq i):=by
 intro x γ M a M' b W H c v Q G R r k;cases b;exact k _ W H (.refl _) G<|bX.set R i r
def aHQ:SGs K aOM IM:=by
 intro xs γ M b M' a W H c vs Q G R r k;cases r with
 |nil=>cases a;exact⟨rfl,k c W H (.refl _) G R⟩
 |cons _ _=>cases a
def aDh(a:SG K tg hg)(b:SGs K tgs hgs):SGs K (aJG tg tgs) (gW hg hgs):=by
 intro xs γ M j M' c W H l vs Q G R r k;cases r with
 |nil=>cases c
 |@cons x v xs vs m n=>
  let⟨⟨o,M1⟩,s,c⟩:=aH c;refine⟨v,vs,rfl,a _ _ _ _ _ s W H l v _ G R m λd w y i z A=>?_⟩;exact b _ _ _ _ _ c w y d vs _ z A (bQ.up n i) λh B C D G2 R2=>k h B C (i.trans D) G2 R2
def aLk{n:Nat}(b:SGs K tgs hgs):SG K (aMX K n tgs) (fR n hgs):=by
 intro x γ M j M' h W H o v Q G R r k;cases x with
 |c _=>cases h
 |f _=>cases h
 |g _=>cases h
 |t xs=>
  have h:(if xs.length=n then hgs (xs.map cdA) γ M else Y)=Z (j,M'):=h;by_cases i:xs.length=n
  .rw[A8 i]at h;let⟨a,vs,rfl,m,l⟩:=r;have s:=ZP l;exact⟨a,vs,rfl,SqT.of<|G.fh _ _ m,by rw[<- i];simpa using(Paired.len l).symm,b _ _ _ _ _ h W H o vs Q G R s k⟩
  .rw[B7 i]at h;cases h
 |d x=>
  cases x with
  |tuple ds=>
   have h:(if ds.length=n then hgs (ds.map .d) γ M else Y)=Z (j,M'):=h;by_cases i:ds.length=n
   .rw[A8 i]at h;let⟨a,vs,rfl,m,l⟩:=r;exact⟨a,vs,rfl,G.fh.seqT m,by rw[<- l.length];exact i,b _ _ _ _ _ h W H o vs Q G R (kK l) k⟩
   .rw[B7 i]at h;cases h
  |_=>cases h
def P3(K:Fg)(r:V->V->V->Hp->(Hp->Prop)->Prop)(f:F3):Prop:=∀x y z M M',f x y z M=Z M'->∀(W:Wd)(H:Hp)(v u w:V)(Q:Hp->Prop),Good K W M H->bW K W x v->bW K W y u->bW K W z w->(∀W' H',W.Ext W'->Good K W' M' H'->Q H')->r v u w H Q
def aMv{r:aHW}{s:F3}(p:P3 K r s)(a:SE K ta f)(b:SE K tb g):SG K (aQb ta tb r) (hSub f g s):=by
 intro x γ M m M' c W H j v Q G R n k;let⟨⟨o,M1⟩,w,c⟩:=aH c;let⟨⟨i,M2⟩,y,c⟩:=aH c;let⟨S,z,c⟩:=aH c;cases c;refine a _ _ _ _ w W H j _ G R λA B C d D E=>?_;refine b _ _ _ _ y B C j _ D (R.up d) λI J L h G2 N=>?_;exact p _ _ _ _ _ z J L A I v _ G2 (E.up h) N (n.up<|d.trans h) λO P l G3=>k j O P ((d.trans h).trans l) G3<|R.up<|(d.trans h).trans l
def aLd(b:SA K tA fa):SS K (aOy i j tA) (SC i j fa):=by
 intro γ M o M' a W H d D G R k;let⟨⟨w,M1⟩,h,a⟩:=aH a;refine b _ _ _ _ h W H d _ G R λvs l m c n r=>?_;obtain _|⟨s,_|⟨v,_|_⟩⟩:=r
 .cases a
 .cases a
 .cases a;exact⟨_,_,rfl,k l m c n _<|bX.set (bX.set (R.up c) i s) j v⟩
 .cases a
def UA(K:Fg)(J:It)(xs:T5)(W:Wd):Prop:=∀W' M' H',W.Ext W'->Good K W' M' H'->
 (∀i x,xs[i]?=Z x->J.go i H'/\∀y b,J.yld i H' y b->∃a,W'.Ext a/\Good K a M' b/\bW K a x y)/\J.stop xs.length H'
def SI(K:Fg)(b:TI)(f:AF):Prop:=∀γ M xs M',f γ M=Z (xs,M')->∀(W:Wd)(H:Hp)(a:St)(R:It->Hp->Prop),Good K W M H->bX K W γ a->(∀J W' H',W.Ext W'->Good K W' M' H'->UA K J xs W'->R J H')->b a H R
def cQ(f:EF):AF:=λγ M=>(f γ M).bind λr=>match r.1 with
 |.d x=>(aR x).bind λds=>Z (ds.map .d,r.2)
 |_=>Y
def aLm(a:SE K ta f):SI K (aKp K ta) (cQ f):=by
 intro γ M xs M' h W H E R G Rs k;let⟨⟨y,M1⟩,I,h⟩:=aH h;cases y with
 |c _=>cases h
 |t _=>cases h
 |f _=>cases h
 |g _=>cases h
 |d y=>
  let⟨ds,J,h⟩:=aH h;cases h;refine a _ _ _ _ I W H E _ G Rs λv z B C w L=>?_;let⟨p,vs,rfl,hs,D⟩:=lN L J;refine⟨p,rfl,?_⟩
  have item:∀(i:Nat)(x:CD)(j:Wd),z.Ext j->(ds.map CD.d)[i]?=Z x->∃u,vs[i]?=Z u/\bW K j x u:=λi x j m o=>by
   let⟨u,n,r⟩:=Paired.get (kK D) o;exact⟨u,n,r.up m⟩
  have l:(ds.map CD.d).length=vs.length:=by rw[A6];exact D.length
  obtain hs|hs:=hs
  .refine .inl ⟨vs,w.fh.seq hs,k _ z B C w λj M2 N m G2=>?_⟩;have b:=G2.fh.seq<|m.ff.seq hs;refine⟨λi x o=>?_,?_⟩
   .let⟨u,n,r⟩:=item i x j m o;refine⟨⟨vs,u,b,n⟩,λO A s=>⟨j,.refl _,by rw[s.1];exact G2,?_⟩⟩;have:=s.2 vs b;rw[n]at this;cases this;exact r
   .rw[l];exact⟨vs,b,B3 _⟩
  .refine .inr ⟨vs,w.fh.seqT hs,k _ z B C w λj M2 N m G2=>?_⟩;have b:=G2.fh.seqT<|m.ff.seqT hs;refine⟨λi x o=>?_,?_⟩
   .let⟨u,n,r⟩:=item i x j m o;refine⟨⟨vs,u,b,n⟩,λO A s=>⟨j,.refl _,by rw[s.1];exact G2,?_⟩⟩;have:=s.2 vs b;rw[n]at this;cases this;exact r
   .rw[l];exact⟨vs,b,B3 _⟩
noncomputable def iB(lo:Int)(n:Nat):T5:=(List.range n).map λi=>.d (.int (lo+(i:Nat)))
def PY{lo:Int}{i:Nat}{x:CD}(h:(iB lo n)[i]?=Z x):i<n/\x=.d (.int (lo+i)):=by
 unfold iB at h;rw[D7]at h;by_cases hi:i<n
 .rw[A2i hi]at h;exact⟨hi,(E5 h).symm⟩
 .rw[List.getElem?_eq_none_iff.mpr 68]at h;cases h
noncomputable def cW(i:Int):Bool:=decide (-(2 ^ 62)<=i)&&decide (i<2 ^ 62)
def gL(f:AF):AF:=λγ M=>(f γ M).bind λr=>match r.1 with
 |[.d (.int j)]=>if cW j=true then Z (iB 0 j.toNat,r.2)else Y
 |_=>Y
def BN(f:AF):AF:=λγ M=>(f γ M).bind λr=>match r.1 with
 |[.d (.int i),.d (.int j)]=>if cW i=true/\cW j=true then Z (iB i (j-i).toNat,r.2)else Y
 |_=>Y
def JA{lo:Int}:UA K (Itr lo n) (iB lo n) W:=λW' M' H' e G=>
 ⟨λi x a=>⟨(PY a).1,λy c b=>⟨W',.refl _,by rw[b.1];exact G,by rw[(PY a).2];exact b.2⟩⟩,by show n<=_;simp[iB]⟩
def dZ(h:cW i=true):-(2 ^ 62)<=i/\i<2 ^ 62:=by
 unfold cW at h;rw[A9]at h;exact⟨C8 h.1,C8 h.2⟩
def aGs(b:SA K tA fa):SI K (aJp tA) (gL fa):=by
 intro γ M xs M' a W H c R G Rs k;let⟨⟨s,M1⟩,d,a⟩:=aH a;refine b _ _ _ _ d W H c _ G Rs λvs h i l m n=>?_;revert a;dsimp only;split
 .rename_i j;intro a;by_cases hs:cW j=true
  .rw[A8 hs]at a;cases a;cases n with
   |cons r o=>
    cases o;exact⟨j,by rw[show _=V.int j from r],(dZ hs).1,(dZ hs).2,k _ h i l m JA⟩
  .rw[B7 hs]at a;cases a
 .intro a;cases a
def aID(b:SA K tA fa):SI K (aJE tA) (BN fa):=by
 intro γ M xs M' a W H d R G Rs k;let⟨⟨x,M1⟩,h,a⟩:=aH a;refine b _ _ _ _ h W H d _ G Rs λvs l m n o s=>?_;revert a;dsimp only;split
 .rename_i i j;intro a;by_cases hs:cW i=true/\cW j=true
  .rw[A8 hs]at a;cases a;cases s with
   |cons r v=>
    cases v with
    |cons w c=>
     cases c;exact⟨i,j,by rw[show _=V.int i from r,show _=V.int j from w],⟨(dZ hs.1).1,(dZ hs.1).2,(dZ hs.2).1,(dZ hs.2).2⟩,k _ l m n o JA⟩
  .rw[B7 hs]at a;cases a
 .intro a;cases a
def aNJ{T:TI}(i:SI K T fa)(a:SG K tg hg)(b:SS K t p):SS K (aPR T tg t) (uA fa hg p):=by
 intro γ M o M' L W H σ D G R k;let⟨⟨xs,M1⟩,h1,L⟩:=aH L;refine i _ _ _ _ h1 W H σ _ G R λJ U H1 B G1 gv=>?_;refine⟨λj m d H'=>∃r M2 s,j<=xs.length/\m=xs.length-j/\U.Ext s/\Good K s M2 H'/\bX K s r d/\mH hg p (xs.drop j) r M2=Z (o,M'),⟨_,γ,M1,U,E6 _,rfl,.refl _,G1,R.up B,L⟩,?_⟩;rintro j m d H' ⟨r,M2,s,hj,rfl,w,G2,R2,c⟩;let⟨N,O⟩:=gv s M2 H' w G2;by_cases v:j<xs.length
 .let⟨go,yl⟩:=N j xs[j]<|C0 v;rw[S5 v]at c;refine .inr ⟨go,λz C=>∃h E A,s.Ext A/\Good K A E C/\bX K A h z/\mH hg p (xs.drop (j+1)) h E=Z (o,M'),?_,λy C hy=>?_⟩
  .rintro z C ⟨h,E,A,e3,G3,R3,h3⟩;exact⟨_,61,h,E,A,v,rfl,w.trans e3,G3,R3,h3⟩
  .let⟨W8,V,G8,ry⟩:=yl y C hy;let⟨⟨a0,M4⟩,h4,c⟩:=aH c;let⟨⟨o5,X⟩,h5,c⟩:=aH c;refine a _ _ _ _ _ h4 W8 _ d y _ G8 (R2.up V) ry λP W4 H4 e4 G4 R4=>?_;refine b _ _ _ _ h5 W4 H4 P _ G4 R4 λI H5 e5 G5=>?_;have l:=(V.trans e4).trans e5;cases o5 with
   |nx n=>exact λQ S=>⟨n,X,I,l,G5,S,c⟩
   |ct n=>exact λQ S=>⟨n,X,I,l,G5,S,c⟩
   |bk n=>cases c;exact k I H5 ((B.trans w).trans l) G5
   |rt x=>cases c;exact k I H5 ((B.trans w).trans l) G5
 .have e:j=xs.length:=61
  subst e;rw[A0s]at c;cases c;exact .inl ⟨O,k s H' (B.trans w) G2 d R2⟩
def aEj(c:STt K tt ft)(b:SS K t p):SS K (aDe tt t) (xK ft p):=by
 intro γ M o M' v W H σ D G R k;unfold xK at v;by_cases l:∃n,(gS ft p n γ M).isSome=true
 .rw[dif_pos l]at v;generalize l.choose=n at v;refine⟨λm a H'=>∃r M2 w,W.Ext w/\Good K w M2 H'/\bX K w r a/\gS ft p m r M2=Z (o,M'),⟨n,γ,M,W,.refl _,G,R,v⟩,?_⟩;rintro m a H' ⟨r,M2,w,A,G2,R2,d⟩;cases m with
  |zero=>cases d
  |succ m=>
   let⟨⟨Q,M3⟩,S,d⟩:=aH d;refine c _ _ _ _ S w H' a _ G2 R2 λL N B G3=>?_;cases Q with
   |true=>
    let⟨⟨T,s⟩,E,d⟩:=aH d;refine⟨λy O=>∃h s z,w.Ext z/\Good K z s O/\bX K z h y/\gS ft p m h s=Z (o,M'),?_,?_⟩
    .rintro y O ⟨h,s,z,U,G4,V,E⟩;exact⟨m,Y8 _,h,s,z,A.trans U,G4,V,E⟩
    .refine b _ _ _ _ E L N a _ G3 (R2.up B) λC P X G5=>?_;have i:=B.trans X;cases T with
     |nx j=>exact λI J=>⟨j,s,C,i,G5,J,d⟩
     |ct j=>exact λI J=>⟨j,s,C,i,G5,J,d⟩
     |bk j=>cases d;exact k C P (A.trans i) G5
     |rt x=>cases d;exact k C P (A.trans i) G5
   |false=>
    cases d;exact k L N (A.trans B) G3 a<|R2.up B
 .rw[dif_neg l]at v;cases v
theorem oF:∀{n m:Nat}{γ:Ga}{M:Sto}{r:Out×Sto},gS c b n γ M=Z r->n<=m->gS c b m γ M=Z r
 |0,_,_,_,_=>λh _=>by cases h
 |n+1,0,_,_,_=>λ_ h=>61
 |n+1,m+1,γ,M,r=>λh k=>by
  let⟨⟨d,M1⟩,i,h⟩:=aH h;show(c γ M).bind _=_;rw[i];show(if d=true then _ else _)=_;cases d with
  |false=>exact h
  |true=>
   let⟨⟨o,M2⟩,j,h⟩:=aH h;rw[j];cases o with
   |nx a=>exact oF h 61
   |ct a=>exact oF h 61
   |bk a=>exact h
   |rt x=>exact h
def PP{r:Out×Sto}(h:gS c b n γ M=Z r):xK c b γ M=Z r:=by
 unfold xK;have a:∃n,(gS c b n γ M).isSome=true:=⟨n,by rw[h];rfl⟩;rw[dif_pos a];have hs:=a.choose_spec;cases q:gS c b a.choose γ M with
 |none=>rw[q]at hs;cases hs
 |some d=>
  obtain z|z:=Nat.le_total n a.choose
  .rw[oF h z]at q;exact q.symm▸rfl
  .rw[oF q z]at h;exact h
theorem AD{W:Wd}{γ:Ga}{a:St}(R:bX K W γ a):∀cap:T2,bX K W (qI cap γ) (xA cap a)
 |[]=>.nil
 |none::r=>.cons True.intro (AD R r)
 |some j::r=>by
  refine .cons ?_ (AD R r);show UT K W ((γ[j]?).join) ((a[j]?).join);cases e:γ[j]? with
  |none=>
   have:a[j]?=Y:=by
    have d:=Paired.len R;exact List.getElem?_eq_none_iff.mpr 68
   rw[this];exact True.intro
  |some x=>
   let⟨y,b,c⟩:=Paired.get R e;rw[b];exact c
theorem NL{g:GF}{c:TF}{e:EF}:∀{xs:T5}{γ:Ga}{M:Sto}{ys:T5}{M':Sto},lcF g c e xs γ M=Z (ys,M')->ys.length<=xs.length
 |[],_,_,_,_=>λh=>by cases h;exact E6 _
 |x::xs,γ,M,ys,M'=>λh=>by
  let⟨⟨a,M1⟩,i,h⟩:=aH h;let⟨⟨b,M2⟩,j,h⟩:=aH h;cases b with
  |true=>
   let⟨⟨y,k⟩,l,h⟩:=aH h;let⟨⟨m,n⟩,d,h⟩:=aH h;cases h;have:=NL d;simp only[D8];omega
  |false=>
   have:=NL h;simp only[D8];omega
def aFL{wi:TI}{cap:T2}{te:TE}{O:EF}(i:SI K wi fa)(a:SG K tg hg)(c:STt K tt ft)(b:SE K te O){xs:T5}(D:BL cap fa hg ft O γ M=Z (xs,M'))
 {W:Wd} {H:Hp} {X:St} {Q:VK} (G:Good K W M H) (R:bX K W γ X) (k:∀vs W' H',W.Ext W'->Good K W' M' H'->bQ K W' xs vs->∀p,H' p=Y->Q (.ref p) (upd H' p (.lst vs))):tLc cap wi tg tt te X H Q:=by
 let⟨⟨w,M1⟩,h1,D⟩:=aH D;by_cases hl:w.length<=bv
 .rw[A8 hl]at D;refine i _ _ _ _ h1 W H X _ G R λJ W1 H1 e1 G1 gv=>?_
  refine⟨λj m acc A H'=>∃B M2 x pre o,j<=w.length/\m=w.length-j/\acc.length<=j/\W1.Ext x/\Good K x M2 H'/\bX K x B A/\bQ K x pre acc/\pre++o=xs/\lcF hg ft O (w.drop j) B M2=Z (o,M'),
   ⟨_,qI cap γ,M1,W1,[],xs,E6 _,rfl,E6 _,.refl _,G1,AD (R.up e1) cap,.nil,rfl,D⟩,?_⟩
  rintro j m acc A H' ⟨B,M2,x,pre,o,hj,rfl,a5,e2,G2,R2,rp,P,l⟩;let⟨a0,a1⟩:=gv x M2 H' e2 G2;by_cases C:j<w.length
  .let⟨go,yl⟩:=a0 j w[j]<|C0 C;rw[S5 C]at l;refine .inr ⟨go,61,λn I S=>∃r T E d h,n.length<=j+1/\x.Ext E/\Good K E T S/\bX K E r I/\bQ K E d n/\d++h=xs/\lcF hg ft O (w.drop (j+1)) r T=Z (h,M'),?_,λy S hy=>?_⟩
   .rintro n I S ⟨r,T,E,d,h,a2,e3,G3,R3,a3,a4,h3⟩;exact⟨_,61,r,T,E,d,h,C,rfl,a2,e2.trans e3,G3,R3,a3,a4,h3⟩
   .let⟨W8,e8,G8,ry⟩:=yl y S hy;let⟨⟨L,M4⟩,h4,l⟩:=aH l;let⟨⟨b5,M5⟩,h5,l⟩:=aH l;refine a _ _ _ _ _ h4 W8 _ A y _ G8 (R2.up e8) ry λN W4 H4 e4 G4 U=>?_;refine c _ _ _ _ h5 W4 H4 N _ G4 U λW5 H5 V G5=>?_;have s:=(e8.trans e4).trans V;cases b5 with
    |true=>
     let⟨⟨z,M6⟩,h6,l⟩:=aH l;let⟨⟨zs,M7⟩,h7,l⟩:=aH l;cases l;refine .inl ⟨rfl,b _ _ _ _ h6 W5 H5 N _ G5 (U.up V) λv W6 H6 e6 G6 r6=>?_⟩;refine⟨L,M6,W6,pre++[z],zs,by rw[B6];simp only[E9];omega,s.trans e6,G6,U.up<|V.trans e6,Paired.app (bQ.up rp<|s.trans e6) (.cons r6 .nil),by rw[<- P,L7];rfl,h7⟩
    |false=>
     exact .inr ⟨rfl,L,M5,W5,pre,o,61,s,G5,U.up V,bQ.up rp s,P,l⟩
  .have e:j=w.length:=61
   subst e;rw[A0s]at l;cases l;rw[J8]at P;subst P;exact .inl ⟨a1,k acc x H' (e1.trans e2) G2 rp⟩
 .rw[B7 hl]at D;cases D
def aBk{cap:T2}{fa:AF}{hg:GF}{ft:TF}{c:EF}{xs:T5}(a:BL cap fa hg ft c γ M=Z (xs,M')):xs.length<=bv:=by
 let⟨⟨d,M1⟩,h,a⟩:=aH a;by_cases b:d.length<=bv
 .rw[A8 b]at a;exact C5 (NL a) b
 .rw[B7 b]at a;cases a
def aOa{h:TI}{cap:T2}{j:TE}{l:EF}(i:SI K h fa)(a:SG K tg hg)(c:STt K tt ft)(b:SE K j l):SE K (tLc cap h tg tt j) (fLc cap fa hg ft l):=by
 intro γ M x M' d W H z Q G R k;let⟨⟨A,M1⟩,o,d⟩:=aH d;let⟨ds,r,d⟩:=aH d;by_cases m:ds.length<=bv
 .rw[A8 m]at d;cases d;refine aFL i a c b o G R λvs B C s v w p y=>?_;let⟨n,G2⟩:=v.lay y;exact k _ _ _ (s.trans n) G2 ⟨p,vs,rfl,SqL.of aS,aL.same n.ff _ _<|eT r w⟩
 .rw[B7 m]at d;cases d
def aMU{h:TI}{cap:T2}{j:TE}{l:EF}(i:SI K h fa)(a:SG K tg hg)(c:STt K tt ft)(b:SE K j l):SE K (tLc cap h tg tt j) (HX cap fa hg ft l):=by
 intro γ M x M' d W H w Q G R k;let⟨⟨y,M1⟩,m,d⟩:=aH d;rw[A8 (aBk m)]at d;cases d;refine aFL i a c b m G R λvs o z r n s p v=>?_;exact k _ _ _ (r.trans<|o.ext_more p) (n.new v s) n.newV
def aMF:STt K aOC cK:=by
 intro γ M x M' a W H b Q G R k;cases a;exact k W H (.refl _) G
theorem bQ.some{W:Wd}:∀{xs:T5}{vs:Td},bQ K W xs vs->bX K W (xs.map Z) (vs.map Z)
 |_,_,.nil=>.nil
 |_,_,.cons r t=>.cons r (bQ.some t)
theorem uI{W:Wd}:∀n:Nat,bX K W (List.replicate n Y) (List.replicate n Y)
 |0=>.nil
 |n+1=>.cons True.intro (uI n)
def Def.okM{P:Ue}{w:World}{mg:Str->Tf}{base:Heap}{x:Str}{st:Stmt}{N ps:Tc}{k:Nat}{b:SF}{q:Bool}(D:Def K mg x st)(S:aT N ps (aI st))
 (n:∀(kV doc pm:Tz)(an:Th)(cdv ct:Tz)(us:T4),us.length=ps.length->bindArgs (PySem.W.fnOf x x (eK st) (bU st) (aI st) .none kV doc pm an cdv ct) ⟨us,[]⟩=pure (ps.zip us))
 (c:∀(f:Uc)(cdv:Tz)(A:Uf)(outer:Tv Env)(s:Ub)(H:Hp)(E:XK),cM k (A.deeper<|envOfC x (aI st) s.heap.objs.size f cdv) q->
  ∃t,PSs (oQ CX0 P w K mg base N x (aI st) f cdv A outer s H E q).nox (bU st) t/\SS K t b):Callee P w K mg base (k+1) x ps (spM K (fnF ps.length N.length b)) q:=by
 have len:∀vs H Q E,spM K (fnF ps.length N.length b) vs H Q E->vs.length=ps.length:=λvs H Q E h=>by
  let⟨xs,M,W,y,M',G,R,a,_⟩:=h;by_cases d:xs.length=ps.length
  .rw[<- Paired.len R];exact d
  .unfold fnF at a;rw[B7 d]at a;cases a
 refine D.ok S n len λf cdv A outer s H vs Q E z h=>?_;let⟨t,B,hS⟩:=c f cdv A outer s H E z;refine⟨t,B,?_⟩;let⟨xs,M,W,y,M',G,R,a,k⟩:=h;by_cases d:xs.length=ps.length
 .unfold fnF at a;rw[A8 d]at a;let⟨⟨o,M1⟩,C,a⟩:=aH a
  have I:bX K W (xs.map Z++List.replicate (N.length-xs.length) Y) (start N vs):=by
   unfold start;rw[<- Paired.len R];exact Paired.app (bQ.some R)<|uI _
  refine hS _ _ _ _ C W H _ _ G I λi j l m=>?_;cases o with
  |rt x=>cases a;exact λv r=>k v i j l m r
  |nx γ=>cases a;exact λJ r=>k .non i j l m rfl
  |bk γ=>cases a
  |ct γ=>cases a
 .unfold fnF at a;rw[B7 d]at a;cases a
end
def QC(h h':F2):F2:=λx y M=>match h x y M with
 |some r=>Z r
 |none=>h' x y M
def pI(g:Int->Int->Tx Ua):F2:=λx y M=>match x,y with
 |.d (.int i),.d (.int j)=>(g i j).bind λz=>Z (.d z,M)
 |_,_=>Y
def aDx{g:Int->Int->Tx Ua}{x y:CD}{z:CD}(h:pI g x y M=Z (z,M')):∃i j w,x=.d (.int i)/\y=.d (.int j)/\g i j=Z w/\z=.d w/\M'=M:=by
 unfold pI at h;split at h
 .rename_i i j;let⟨w,a,h⟩:=aH h;cases h;exact⟨i,j,w,rfl,rfl,a,rfl,rfl⟩
 .cases h
section
variable{X:Cx}{K:Fg}
def aJW{g:Int->Int->Int}:P2 K (rI0 λi j=>.int (g i j)) (pI λi j=>Z (.int (g i j))):=by
 intro x y M z M' h W H v u Q G a b k;let⟨i,j,w,rfl,rfl,c,rfl,rfl⟩:=aDx h;cases c;exact⟨i,j,a,b,k _ W H (.refl _) G rfl⟩
def aAf{g:Int->Int->Bool}:P2 K (rI0 λi j=>.bl (g i j)) (pI λi j=>Z (.bool (g i j))):=by
 intro x y M z M' h W H v u Q G a b k;let⟨i,j,w,rfl,rfl,c,rfl,rfl⟩:=aDx h;cases c;exact⟨i,j,a,b,k _ W H (.refl _) G rfl⟩
def ifS(c:Bool)(x:Ua):Tx Ua:=if c=true then Z x else Y
def aNN{y:Ua}(h:ifS c x=Z y):c=true/\y=x:=by
 unfold ifS at h;cases c with
 |true=>rw[A8 rfl]at h;cases h;exact⟨rfl,rfl⟩
 |false=>rw[B7 C4]at h;cases h
def aHx{C:Int->Int->Prop}{c:Int->Int->Bool}{g:Int->Int->Int}(a:∀i j,c i j=true->C i j):P2 K (rI C λi j=>.int (g i j)) (pI λi j=>ifS (c i j) (.int (g i j))):=by
 intro x y M z M' h W H v u Q G b d k;let⟨i,j,w,rfl,rfl,e,rfl,rfl⟩:=aDx h;let⟨f,rfl⟩:=aNN e;exact⟨i,j,b,d,a i j f,k _ W H (.refl _) G rfl⟩
def aNt:F2:=pI λi j=>Z (.int (i+j))
def VH:F2:=pI λi j=>Z (.int (i-j))
def lZ(i j:Int):Bool:=decide (i.natAbs<2 ^ 64) || decide (j.natAbs<2 ^ 64) || (decide (i.natAbs<BV)&&decide (j.natAbs<BV))
def HV:F2:=pI λi j=>ifS (lZ i j) (.int (i*j))
def vQ(_ j:Int):Bool:=decide (0<j)&&decide (j.natAbs<BV)
def kY:F2:=pI λi j=>ifS (vQ i j) (.int (i / j))
noncomputable def nD(_ j:Int):Bool:=decide (0<j)
def dJ:F2:=pI λi j=>ifS (nD i j) (.int (i % j))
noncomputable def aJV(i j:Int):Bool:=decide (0<=j)&&decide (j<=1000000)&&decide (i.natAbs<2 ^ 64)
def aAT:F2:=pI λi j=>ifS (aJV i j) (.int (i ^ j.toNat))
def mulOk_of(h:lZ i j=true):RK i j:=by
 unfold lZ at h;simp only[A2h,A9,S0]at h;obtain(h|h)|h:=h
 .exact .inl (.inl ⟨61,61⟩)
 .exact .inl (.inr ⟨61,61⟩)
 .exact .inr h
def ltI:F2:=pI λi j=>Z (.bool (decide (i<j)))
def leI:F2:=pI λi j=>Z (.bool (decide (i<=j)))
def gtI:F2:=pI λi j=>Z (.bool (decide (j<i)))
def geI:F2:=pI λi j=>Z (.bool (decide (j<=i)))
def eqD(neg:Bool):F2:=λx y M=>match x,y with
 |.d a,.d b=>if (cj a&&cj b)=true then Z (.d (.bool (if neg then !cn a b else cn a b)),M)else Y
 |_,_=>Y
def aJA:P2 K (aBt K neg) (eqD neg):=by
 intro x y M z M' h W H v u Q G c d k;unfold eqD at h;split at h
 .rename_i a b;by_cases hs:(cj a&&cj b)=true
  .rw[A8 hs]at h;cases h;rw[A9]at hs;exact⟨a,b,Rep.same G.fh _ _ c,Rep.same G.fh _ _ d,hs.1,hs.2,k _ W H (.refl _) G rfl⟩
  .rw[B7 hs]at h;cases h
 .cases h
def inD(neg:Bool):F2:=λx y M=>match x,y with
 |.d a,.d b=>(aR b).bind λds=>if (cj a&&ds.all cj)=true then Z (.d (.bool (if neg then !ds.any λd=>cn d a else ds.any λd=>cn d a)),M)else Y
 |_,_=>Y
def aOf{neg:Bool}:P2 K (aNi K neg) (inD neg):=by
 intro x y M z M' h W H v u Q G c d k;unfold inD at h;split at h
 .rename_i a b;let⟨ds,e,h⟩:=aH h;by_cases hs:(cj a&&ds.all cj)=true
  .rw[A8 hs]at h;cases h;rw[A9]at hs;let⟨p,vs,rfl,f,g⟩:=lN (Rep.same G.fh _ _ d) e;exact⟨a,ds,p,vs,Rep.same G.fh _ _ c,rfl,f,g,hs.1,hs.2,k _ W H (.refl _) G rfl⟩
  .rw[B7 hs]at h;cases h
 .cases h
def aL.nth{i:Nat}{d:Ua}(h:aL K H ds vs)(e:ds[i]?=Z d):∃v,vs[i]?=Z v/\Rep K H d v:=by
 have b:i<vs.length:=by rw[<- h.length];exact(B9.mp e).1
 have c:=C0 b;let⟨f,a,r⟩:=h.get c;rw[e]at a;cases a;exact⟨_,c,r⟩
def VA{a:Type}{xs:Tv a}{i:Int}{x:a}(h:atI xs i=Z x):∃j,ixN xs.length i=Z j/\xs[j]?=Z x:=by
 exact aH h
def WB{a:Type}{xs:Tv a}{j:Nat}{x:a}(h:ixN xs.length i=Z j)(e:xs[j]?=Z x):atI xs i=Z x:=by
 unfold atI;rw[h];exact e
def ixF:F2:=λx y M=>match x,y with
 |.d a,.d (.int n)=>(aR a).bind λds=>(atI ds n).bind λe=>Z (.d e,M)
 |.c i,.d (.int n)=>match M[i]? with
  |some (.lst xs)=>(atI xs n).bind λe=>Z (e,M)
  |_=>Y
 |.t xs,.d (.int n)=>(atI xs n).bind λe=>Z (cdA e,M)
 |_,_=>Y
def Good.lstAt{i:Nat}(G:Good K W M H)(h:M[i]?=Z (.lst xs)):∃vs,H (W.α i)=Z (.lst vs)/\bQ K W xs vs:=by
 let⟨_,o,b,a⟩:=G.cs i _ h 67;cases o with
 |lst vs=>exact⟨vs,b,a⟩
 |_=>exact False.elim a
def aQm:P2 K (rIx K) ixF:=by
 intro x y M z M' h W H v u Q G t A k;unfold ixF at h;split at h
 .rename_i a n;let⟨ds,D,h⟩:=aH h;let⟨e,r,h⟩:=aH h;cases h;let⟨p,vs,rfl,O,c⟩:=lN (Rep.same G.fh _ _ t) D;let⟨j,s,d⟩:=VA r;let⟨w,B,I⟩:=c.nth d;let⟨P,f,J,hq',g⟩:=lN t D;cases J
  have same:∀o,f[j]?=Z o->Rep K W.F e o:=λo l=>by
   let⟨R,E,L⟩:=g.nth d;rw[l]at E;cases E;exact L
  let⟨o,l,q⟩:=g.nth d;have b:=WB (by rw[<- g.length];exact s) l;obtain hq'|hq':=hq'
  .exact .inl ⟨p,f,n,o,rfl,A,G.fh.seq hq',b,k _ W H (.refl _) G q⟩
  .exact .inr (.inl ⟨p,f,n,o,rfl,A,G.fh.seqT hq',b,k _ W H (.refl _) G q⟩)
 .rename_i i n;split at h
  .rename_i xs N;let⟨e,r,h⟩:=aH h;cases h;let⟨vs,C,c⟩:=G.lstAt N;let⟨j,s,d⟩:=VA r;let⟨w,B,q⟩:=Paired.get c d;have m:=WB (by rw[<- Paired.len c];exact s) B;rw[show v=.ref (W.α i)from t.2];exact .inl ⟨_,vs,n,w,rfl,A,SqL.of C,m,k _ W H (.refl _) G q⟩
  .cases h
 .rename_i xs n;let⟨e,r,h⟩:=aH h;cases h;let⟨a,vs,rfl,C,c⟩:=t;let⟨j,s,d⟩:=VA r;let⟨w,B,q⟩:=Paired.get c d;have m:=WB (by rw[<- Paired.len c];exact s) B;exact .inr (.inl ⟨_,vs,n,w,rfl,A,SqT.of<|G.fh _ _ C,m,k _ W H (.refl _) G (by cases e<;>exact q)⟩)
 .cases h
def pO:FN:=λxs M=>match xs with
 |[.d a]=>(aR a).bind λds=>Z (.d (.int ds.length),M)
 |[.c i]=>match M[i]? with
  |some (.lst b)=>Z (.d (.int b.length),M)
  |_=>Y
 |[.t xs]=>Z (.d (.int xs.length),M)
 |_=>Y
def aMi:PN K (λxs H Q=>∃p ys,xs=[.ref p]/\(SqL K H p ys\/SqT K H p ys)/\Q (.int ys.length) H) pO:=by
 intro xs M z M' h W H vs Q G r k;unfold pO at h;split at h
 .rename_i a;let⟨ds,e,h⟩:=aH h;cases h;obtain _|⟨b,_|_⟩:=r;let⟨p,us,rfl,f,c⟩:=lN (Rep.same G.fh _ _ b) e;refine⟨p,us,rfl,f,?_⟩;rw[<- c.length];exact k _ W H (.refl _) G rfl
 .rename_i i;split at h
  .rename_i ys g;cases h;obtain _|⟨b,_|_⟩:=r;let⟨us,d,c⟩:=G.lstAt g;rw[b.2];refine⟨_,us,rfl,.inl (SqL.of d),?_⟩;rw[<- Paired.len c];exact k _ W H (.refl _) G rfl
  .cases h
 .rename_i xs;cases h;obtain _|⟨b,_|_⟩:=r;let⟨a,us,rfl,d,c⟩:=b;refine⟨_,us,rfl,.inr (SqT.of<|G.fh _ _ d),?_⟩;rw[<- Paired.len c];exact k _ W H (.refl _) G rfl
 .cases h
def uQ:FN:=λxs M=>match xs with
 |[.d a]=>(aR a).bind λds=>Z (.d (.list ds),M)
 |[.c i]=>match M[i]? with
  |some (.lst b)=>(kI b).bind λds=>Z (.d (.list ds),M)
  |_=>Y
 |_=>Y
def aHm:PN K (λxs H Q=>∃p ys,xs=[.ref p]/\(SqL K H p ys\/SqT K H p ys)/\∀l,H l=Y->Q (.ref l) (upd H l (.lst ys))) uQ:=by
 intro xs M z M' h W H vs Q G r k;unfold uQ at h;split at h
 .rename_i a;let⟨ds,c,h⟩:=aH h;cases h;obtain _|⟨d,_|_⟩:=r;let⟨p,us,rfl,g,e⟩:=lN (show Rep K W.F a _ from d) c;refine⟨p,us,rfl,g.imp (λz=>G.fh.seq z) λz=>G.fh.seqT z,λl f=>?_⟩;let⟨b,G2⟩:=G.lay (o:=.lst us) f;exact k _ _ _ b G2 ⟨l,us,rfl,SqL.of aS,aL.same b.ff _ _ e⟩
 .rename_i i;split at h
  .rename_i ys j;let⟨ds,c,h⟩:=aH h;cases h;obtain _|⟨d,_|_⟩:=r;let⟨us,m,e⟩:=G.lstAt j;rw[d.2];refine⟨_,us,rfl,.inl (SqL.of m),λl f=>?_⟩;let⟨b,G2⟩:=G.lay (o:=.lst us) f;exact k _ _ _ b G2 ⟨l,us,rfl,SqL.of aS,aL.same b.ff _ _<|eT c e⟩
  .cases h
 .cases h
def iH:FN:=λxs M=>match xs with
 |[.d (.list ds)]=>Z (.d (.tuple ds),M)
 |[.d (.tuple ds)]=>Z (.d (.tuple ds),M)
 |[.c i]=>match M[i]? with
  |some (.lst a)=>(kI a).bind λds=>Z (.d (.tuple ds),M)
  |_=>Y
 |_=>Y
def aFV:PN K (λxs H Q=>∃p ys,xs=[.ref p]/\((SqL K H p ys/\∀l,H l=Y->Q (.ref l) (upd H l (.tup ys)))\/(SqT K H p ys/\Q (.ref p) H))) iH:=by
 intro xs M z M' h W H vs Q G r k;unfold iH at h;split at h
 .rename_i ds;cases h;obtain _|⟨a,_|_⟩:=r;let⟨p,us,rfl,d,b⟩:=a;refine⟨p,us,rfl,.inl ⟨G.fh.seq d,λl e=>?_⟩⟩;let⟨c,G2⟩:=G.lay e;exact k _ _ _ c G2 ⟨l,us,rfl,SqT.of aS,aL.same c.ff _ _ b⟩
 .rename_i ds;cases h;obtain _|⟨a,_|_⟩:=r;let⟨p,us,rfl,d,b⟩:=a;exact⟨p,us,rfl,.inr ⟨G.fh.seqT d,k _ W H (.refl _) G ⟨p,us,rfl,d,b⟩⟩⟩
 .rename_i i;split at h
  .rename_i ys f;let⟨ds,g,h⟩:=aH h;cases h;obtain _|⟨a,_|_⟩:=r;let⟨us,j,b⟩:=G.lstAt f;rw[a.2];refine⟨_,us,rfl,.inl ⟨SqL.of j,λl e=>?_⟩⟩;let⟨c,G2⟩:=G.lay e;exact k _ _ _ c G2 ⟨l,us,rfl,SqT.of aS,aL.same c.ff _ _<|eT g b⟩
  .cases h
 .cases h
def AU(T:String)(f:EF):EF:=λγ M=>(f γ M).bind λr=>match r.1 with
 |.d a=>Z (.d (.bool (AM T a)),r.2)
 |_=>Y
def aMq{T:String}{e:TE}{f:EF}(hT:T∈asked)(a:SE K e f):SE K (tCB (aLJ K)<|sW e<|sW (tC (.ty T)) aBf) (AU T f):=by
 intro γ M x M' b W H i Q G R k;let⟨⟨y,M1⟩,j,b⟩:=aH b;cases y with
 |c _=>cases b
 |t _=>cases b
 |f _=>cases b
 |g _=>cases b
 |d y=>
  cases b;refine a _ _ _ _ j W H i _ G R λv l m n h o=>?_;exact⟨v,T,y,rfl,hT,Rep.same h.fh _ _ o,k _ l m n h rfl⟩
def OI(T U:String)(f:EF):EF:=λγ M=>(f γ M).bind λr=>match r.1 with
 |.d a=>Z (.d (.bool (AM T a || AM U a)),r.2)
 |_=>Y
def aHj{T U:String}{h:TE}{f:EF}(hT:T∈asked)(j:U∈asked)(a:SE K h f):SE K (tCB (aDY K)<|sW h<|sW (aHu<|sW (tC (.ty T))<|sW (tC (.ty U)) aBf) aBf) (OI T U f):=by
 intro γ M x M' b W H l Q G R k;let⟨⟨y,M1⟩,m,b⟩:=aH b;cases y with
 |c _=>cases b
 |t _=>cases b
 |f _=>cases b
 |g _=>cases b
 |d y=>
  cases b;refine a _ _ _ _ m W H l _ G R λv s u n o q=>?_;refine⟨by show 2<=bv;decide,λp r=>?_⟩;let⟨i,G2⟩:=o.lay r;refine⟨v,p,[T,U],y,rfl,aS,λS hS=>?_,Rep.same (i.ff.trans G2.fh) _ _ q,?_⟩
  .obtain rfl|hS:=C1.mp hS
   .exact hT
   .rw[B4.mp hS];exact j
  .have e:([T,U].any λT=>AM T y)=(AM T y || AM U y):=67
   rw[e];exact k _ _ _ (n.trans i) G2 rfl
def aGj(M:Sto):CD->Tx Bool
 |.d .none=>Z false
 |.d (.bool b)=>Z b
 |.d (.int i)=>Z (i != 0)
 |.d (.list ds)=>Z (!ds.isEmpty)
 |.d (.tuple ds)=>Z (!ds.isEmpty)
 |.c i=>match M[i]? with
  |some (.lst xs)=>Z (!xs.isEmpty)
  |some (.dk kvs)=>Z (!kvs.isEmpty)
  |_=>Y
 |_=>Y
def LB(f:EF):TF:=λγ M=>(f γ M).bind λr=>(aGj r.2 r.1).bind λb=>Z (b,r.2)
def nZ{a b:Type}{xs:Tv a}{ys:Tv b}(h:xs.length=ys.length):xs.isEmpty=ys.isEmpty:=by
 cases xs<;>cases ys<;>simp at h ⊢
def aMj{s:TE}{f:EF}(a:SE K s f):STt K (λn H Q=>s n H λx H'=>∃k,aIs K x H' k/\Q k H') (LB f):=by
 intro γ M b M' j W H n Q G R k;let⟨⟨y,M1⟩,w,j⟩:=aH j;let⟨E,e,j⟩:=aH j;cases j;refine a _ _ _ _ w W H n _ G R λv z A B l h=>⟨_,?_,k z A B l⟩;cases y with
 |d y=>
  cases y with
  |none=>cases e;rw[show v=.non from h];rfl
  |bool c=>cases e;rw[show v=.bl _ from h];rfl
  |int i=>cases e;rw[show v=.int _ from h];rfl
  |str x=>cases e
  |list ds=>
   cases e;let⟨p,us,rfl,q,m⟩:=h;exact .inl ⟨us,l.fh.seq q,by rw[nZ m.length]⟩
  |tuple ds=>
   cases e;let⟨p,us,rfl,q,m⟩:=h;exact .inr (.inl ⟨us,l.fh.seqT q,by rw[nZ m.length]⟩)
  |dict kvs=>cases e
 |t _=>cases e
 |f _=>cases e
 |g _=>cases e
 |c i=>
  rw[h.2];unfold aGj at e;dsimp only at e;split at e
  .rename_i xs r;cases e;let⟨us,C,m⟩:=l.lstAt r;exact .inl ⟨us,SqL.of C,by rw[nZ (Paired.len m)]⟩
  .rename_i kvs r;cases e;let⟨_,o,D,u⟩:=l.cs i _ r 67;cases o with
   |dK us=>exact .inr (.inr ⟨us,D,by rw[nZ (Paired.len u)]⟩)
   |_=>exact False.elim u
  .cases e
def boolsOf:T3->Tx (Tv Bool)
 |[]=>Z []
 |.bool b::r=>(boolsOf r).bind λbs=>Z (b::bs)
 |_::_=>Y
def wR:FN:=λxs M=>match xs with
 |[.d (.list ds)]=>(boolsOf ds).bind λbs=>Z (.d (.bool (bs.all id)),M)
 |_=>Y
theorem JJ{H:Hp}:∀{ds:T3}{bs:Tv Bool}{vs:Td},boolsOf ds=Z bs->aL K H ds vs->vs=bs.map V.bl
 |[],bs,vs=>λe h=>by cases e;exact h
 |.bool b::r,bs,vs=>λe h=>by
  let⟨cs,a,e⟩:=aH e;cases e;let⟨v,us,rfl,c,d⟩:=h;rw[show v=V.bl b from c,JJ a d];rfl
 |.none::_,_,_=>λe _=>by cases e
 |.int _::_,_,_=>λe _=>by cases e
 |.str _::_,_,_=>λe _=>by cases e
 |.list _::_,_,_=>λe _=>by cases e
 |.tuple _::_,_,_=>λe _=>by cases e
 |.dict _::_,_,_=>λe _=>by cases e
def aBu(f:X.calm=true):dH X (.builtin "all") (λxs H Q=>∃(p:Uc)(bs:Tv Bool),xs=[.ref p]/\SqL X.K H p (bs.map V.bl)/\Q (.bl (bs.all id)) H):=by
 intro cp s n H xs us Q I r h;let⟨p,bs,rfl,g,q⟩:=h;let⟨u,rfl,j⟩:=vals1 r;cases j;let⟨its,k,c,t⟩:=I.list g;have a:=bE.bools k;subst a;refine call_all_walk<|wpAny_pyIter_list c.isList ?_;have d:=c.lt;refine⟨_,_,_,_,_,_,(λi=>bs.getD i false),rfl,Walks.list (A:=X.A.in1) (I.ok.hd f) s.heap.objs.size p (C2 d) (bs.map Value.bool).toArray,⟨⟨_,B5 _ rfl,rfl,rfl⟩,c.isList.at λo e=>A3 _ e⟩,OZ,λh' v l=>?_⟩;have m:((bs.map Value.bool).toArray).size=bs.length:=67
 rw[m,all_range];refine⟨.bl _,H,I.kept λb o e=>?_,rfl,q⟩;exact l b o (λz=>by rw[B4]at z;exact absurd (B2 e) 68)<|A3 _ e
def aKG:PN K (λxs H Q=>∃(p:Uc)(bs:Tv Bool),xs=[.ref p]/\SqL K H p (bs.map V.bl)/\Q (.bl (bs.all id)) H) wR:=by
 intro xs M z M' h W H vs Q G r k;unfold wR at h;split at h
 .rename_i ds;let⟨bs,a,h⟩:=aH h;cases h;obtain _|⟨b,_|_⟩:=r;let⟨p,us,rfl,c,d⟩:=b;have e:=JJ a d;subst e;exact⟨p,bs,rfl,G.fh.seq c,k _ W H (.refl _) G rfl⟩
 .cases h
def EV:F3:=λx y z M=>match x,y with
 |.c i,.d (.int k)=>match M[i]? with
  |some (.lst xs)=>(ixN xs.length k).bind λj=>Z<|M.set i (.lst (xs.set j z))
  |_=>Y
 |_,_=>Y
def aMR:P3 K aJr EV:=by
 intro x y z M M' h W H v u w Q G c d e k;unfold EV at h;split at h
 .rename_i i n;split at h
  .rename_i xs a;let⟨j,f,h⟩:=aH h;cases h;let⟨us,g,b⟩:=G.lstAt a;refine⟨W.α i,us,n,j,c.2,d,g,by rw[<- Paired.len b];exact f,?_⟩;exact k W _ (.refl _)<|G.set a 67<|Paired.set e j b
  .cases h
 .cases h
end
section
variable{X:Cx}{K:Fg}
def ZZ(K:Fg):R2:=λx y H Q=>∃l b xs a,x=.ref l/\y=.ref b/\SqL K H l xs/\SqL K H b a/\xs.length+a.length<=bv/\∀p,H p=Y->Q (.ref p) (upd H p (.lst (xs++a)))
def op_catS:OpR X (binaryOp .Add) (ZZ X.K):=by
 intro cp s D H x y v u Q I o p h;let⟨l,b,xs,E,rfl,rfl,t,hB,G,q⟩:=h;cases o;cases p;let⟨its,r,⟨⟨cls,w,data,sl⟩,n,i,z,A,hd⟩,_⟩:=I.list t;let⟨a,j,⟨⟨k,d,data2,e⟩,B,c,f,m,g⟩,_⟩:=I.list hB;subst z hd f g;have J:=r.length;have L:=j.length;refine concat_meets ⟨_,i,rfl⟩ ⟨_,c,rfl⟩ noFill_list_add seq_list_add PySem.F.slot_list_add PySem.F.entry_list_add (PySem.F.args_list_add_2 _ _) (list_addW l b its.toArray a.toArray n B w d sl e 68) ⟨i,c,?_⟩;have C:its.toArray++a.toArray=(its++a).toArray:=67
 rw[C];exact⟨.ref _,_,I.lnew (r.append j) 68,rfl,q _ I.fresh⟩
def KB(M:Sto):CD->Tx (T5)
 |.d (.list ds)=>Z<|ds.map .d
 |.c i=>match M[i]? with
  |some (.lst xs)=>Z xs
  |_=>Y
 |_=>Y
def vC{xs:T5}(G:Good K W M H)(h:KB M x=Z xs)(r:bW K W x v):∃p vs,v=.ref p/\SqL K H p vs/\bQ K W xs vs:=by
 unfold KB at h;split at h
 .rename_i ds;cases h;let⟨p,us,rfl,b,a⟩:=r;exact⟨p,us,rfl,G.fh.seq b,kK a⟩
 .rename_i i;split at h
  .rename_i e c;cases h;let⟨us,d,a⟩:=G.lstAt c;exact⟨_,us,r.2,SqL.of d,a⟩
  .cases h
 .cases h
def aNO:F2:=λx y M=>(KB M x).bind λxs=>(KB M y).bind λa=>(kI (xs++a)).bind λds=>if ds.length<=bv then Z (.d (.list ds),M)else Y
def aIS:P2 K (ZZ K) aNO:=by
 intro x y M z M' h W H v u Q G e f k;let⟨xs,g,h⟩:=aH h;let⟨n,i,h⟩:=aH h;let⟨ds,b,h⟩:=aH h;by_cases a:ds.length<=bv
 .rw[A8 a]at h;cases h;let⟨p,vs,rfl,j,c⟩:=vC G g e;let⟨q,us,rfl,m,hs⟩:=vC G i f;have el:=GG b;rw[B6]at el;refine⟨p,q,vs,us,rfl,rfl,j,m,by rw[<- Paired.len c,<- Paired.len hs];omega,λl a=>?_⟩;let⟨d,G2⟩:=G.lay a;exact k _ _ _ d G2 ⟨l,_,rfl,SqL.of aS,aL.same d.ff _ _<|eT b<|Paired.app c hs⟩
 .rw[B7 a]at h;cases h
def aNv:F2:=λx y M=>match x,y with
 |.d (.tuple xs),.d (.tuple a)=>if xs≠[]/\xs.length+a.length<=bv then Z (.d (.tuple (xs++a)),M)else Y
 |_,_=>Y
def aL.nil_iff(r:aL K H ds vs):vs=[]↔ds=[]:=by
 have:=r.length;constructor<;>intro h<;>subst h<;>simp at this
 .exact this
 .exact A2a this.symm
def aIM:P2 K (aDj K) aNv:=by
 intro x y M z M' h W H v u Q G f g k;unfold aNv at h;split at h
 .rename_i xs c;by_cases a:xs≠[]/\xs.length+c.length<=bv
  .rw[A8 a]at h;cases h;let⟨p,vs,rfl,d,b⟩:=f;let⟨q,us,rfl,i,hs⟩:=g;refine⟨p,q,vs,us,rfl,rfl,G.fh.seqT d,G.fh.seqT i,λz=>a.1<|b.nil_iff.mp z,by rw[<- b.length,<- hs.length];exact a.2,λz=>?_,λz l j=>?_⟩
   .have:c=[]:=hs.nil_iff.mp z;subst this;rw[J8]at k;exact k _ W H (.refl _) G ⟨p,vs,rfl,d,b⟩
   .let⟨e,G2⟩:=G.lay j;exact k _ _ _ e G2 ⟨l,_,rfl,SqT.of aS,aL.same e.ff _ _<|aL.app b hs⟩
  .rw[B7 a]at h;cases h
 .cases h
def P2.or(a:P2 K r h)(b:P2 K d h'):P2 K (λx y H Q=>r x y H Q\/d x y H Q) (QC h h'):=by
 intro x y M z M' c W H v u Q G f g k;unfold QC at c;cases e:h x y M with
 |some q=>
  rw[e]at c;cases c;exact .inl (a _ _ _ _ _ e W H v u Q G f g k)
 |none=>
  rw[e]at c;exact .inr (b _ _ _ _ _ c W H v u Q G f g k)
noncomputable def VC(K:Fg):R2:=λx y H Q=>∃a b c,x=.ref a/\y=.ref b/\SqT K H a []/\SqT K H b c/\Q (.ref b) H
def op_catT0:OpR X (binaryOp .Add) (VC X.K):=by
 intro cp s z H x y v u Q I l m h;let⟨a,b,A,rfl,rfl,ha,o,q⟩:=h;cases l;cases m;let⟨its,p,⟨⟨cls,r,data,sl⟩,j,t,n,hd⟩,_⟩:=I.tuple ha;let⟨c,B,⟨⟨k,e,data2,f⟩,d,g,w,i⟩,_⟩:=I.tuple o;subst t hd g i;cases p;exact concat_meets ⟨_,j,rfl⟩ ⟨_,d,rfl⟩ noFill_tuple_add seq_tuple_add PySem.F.slot_tuple_add PySem.F.entry_tuple_add (PySem.F.args_tuple_add_2 _ _) (tuple_addW0 a b #[] c.toArray n w r e sl f rfl) ⟨j,d,⟨.ref b,H,I,rfl,q⟩⟩
def aCg:F2:=λx y M=>match x,y with
 |.d (.tuple []),.d (.tuple a)=>Z (.d (.tuple a),M)
 |_,_=>Y
def aEC:P2 K (VC K) aCg:=by
 intro x y M z M' h W H v u Q G c d k;unfold aCg at h;split at h
 .rename_i f;cases h;let⟨p,vs,rfl,a,e⟩:=c;let⟨q,us,rfl,b,hs⟩:=d;rw[show vs=[]from e]at a;exact⟨p,q,us,rfl,rfl,G.fh.seqT a,G.fh.seqT b,k _ W H (.refl _) G ⟨q,us,rfl,b,hs⟩⟩
 .cases h
def dP:F2:=QC aNt<|QC aNO<|QC aCg aNv
def aFw(K:Fg):R2:=λx y H Q=>(rI0 λi j=>.int (i+j)) x y H Q\/ZZ K x y H Q\/VC K x y H Q\/aDj K x y H Q
def aIk:OpR X (binaryOp .Add) (aFw X.K):=op_add.or<|op_catS.or<|op_catT0.or aGY
def aGc:P2 K (aFw K) dP:=P2.or aJW<|P2.or aIS<|P2.or aEC aIM
def eqS(neg:Bool):F2:=λx y M=>match x,y with
 |.d (.str a),.d (.str b)=>Z (.d (.bool (if neg then !(a==b)else a==b)),M)
 |_,_=>Y
def eqX(neg:Bool):F2:=QC (eqS neg)<|eqD neg
def aKd(K:Fg):R2:=λx y H Q=>rEq x y H Q\/aBt K false x y H Q
def aMN(K:Fg):R2:=λx y H Q=>rNe x y H Q\/aBt K true x y H Q
def aEt:decide (V.str a=V.str b)=(a==b):=68
def aNy:P2 K rEq (eqS false):=by
 intro x y M z M' h W H v u Q G c d k;unfold eqS at h;split at h
 .rename_i a b;cases h;rw[show v=.str a from c,show u=.str b from d];refine⟨rfl,?_⟩;rw[aEt];exact k _ W H (.refl _) G rfl
 .cases h
def aKm:P2 K rNe (eqS true):=by
 intro x y M z M' h W H v u Q G c d k;unfold eqS at h;split at h
 .rename_i a b;cases h;rw[show v=.str a from c,show u=.str b from d];refine⟨rfl,?_⟩;rw[aEt];exact k _ W H (.refl _) G rfl
 .cases h
def aCC:P2 K (aKd K) (eqX false):=P2.or aNy aJA
def aKx:P2 K (aMN K) (eqX true):=P2.or aKm aJA
def aLI(a:X.A.units+64<cLine):OpR X (cf .Eq) (aKd X.K):=op_eq.or<|aEN a
def aKV(a:X.A.units+64<cLine):OpR X (cf .NotEq) (aMN X.K):=op_ne.or<|aNM a
def aKC:P2 K (rI0 λi j=>.int (i-j)) VH:=aJW
def aLB:P2 K (rI RK λi j=>.int (i*j)) HV:=aHx λ_ _ h=>mulOk_of h
def aHv:P2 K (rI aJQ λi j=>.int (i / j)) kY:=aHx λi j h=>by
 unfold vQ at h;rw[A9]at h;exact⟨C8 h.1,C8 (p:=j.natAbs<BV) h.2⟩
def aNT:P2 K (rI (λ_ j=>0<j) λi j=>.int (i % j)) dJ:=aHx λi j h=>C8 h
def aNR:P2 K (rI aOO λi j=>.int (i ^ j.toNat)) aAT:=aHx λi j h=>by
 unfold aJV at h;rw[A9,A9]at h;exact⟨C8 h.1.1,C8 h.1.2,C8 h.2⟩
def aPt:P2 K (rI0 λi j=>.bl (decide (i<j))) ltI:=aAf
def aQB:P2 K (rI0 λi j=>.bl (decide (i<=j))) leI:=aAf
def aQr:P2 K (rI0 λi j=>.bl (decide (j<i))) gtI:=aAf
def aOE:P2 K (rI0 λi j=>.bl (decide (j<=i))) geI:=aAf
def aBO:F1:=λx M=>match x with
 |.d (.int i)=>Z (.d (.int (-i)),M)
 |_=>Y
def aNB:P1 K (rU λi=>.int (-i)) aBO:=by
 intro x M z M' h W H v Q G r k;unfold aBO at h;split at h
 .rename_i i;cases h;exact⟨i,r,k _ W H (.refl _) G rfl⟩
 .cases h
end
section
variable{X:Cx}{K:Fg}
def aQD(h:X.K=K):dH X (.builtin "isinstance") (aLJ K):=by subst h;exact aAB
def aPK(h:X.K=K):dH X (.builtin "isinstance") (aDY K):=by subst h;exact WG
def aOk(K:Fg):R2:=rIx K
def kIx(h:X.K=K):IxR X (aOk K):=by subst h;exact aNq
def aNg:P2 K (aOk K) ixF:=aQm
def aJi(K:Fg):Td->Hp->VK->Prop:=λxs H Q=>∃p a,xs=[.ref p]/\(SqL K H p a\/SqT K H p a)/\Q (.int a.length) H
def aQJ(h:X.K=K):dH X (.builtin "len") (aJi K):=by subst h;exact LY
def aFW:PN K (aJi K) pO:=aMi
def WJ(K:Fg):Td->Hp->VK->Prop:=λxs H Q=>∃p a,xs=[.ref p]/\(SqL K H p a\/SqT K H p a)/\∀l,H l=Y->Q (.ref l) (upd H l (.lst a))
def aJn(h:X.K=K):dH X (.type "list") (WJ K):=by subst h;exact OA
def aDI:PN K (WJ K) uQ:=aHm
def aAe(K:Fg):Td->Hp->VK->Prop:=λxs H Q=>∃p a,xs=[.ref p]/\((SqL K H p a/\∀l,H l=Y->Q (.ref l) (upd H l (.tup a)))\/(SqT K H p a/\Q (.ref p) H))
def aKS(h:X.K=K):dH X (.type "tuple") (aAe K):=by subst h;exact IL
def aBq:PN K (aAe K) iH:=aFV
def aJU(K:Fg):Td->Hp->VK->Prop:=λxs H Q=>∃(p:Uc)(bs:Tv Bool),xs=[.ref p]/\SqL K H p (bs.map V.bl)/\Q (.bl (bs.all id)) H
def aQL(h:X.K=K)(a:X.calm=true):dH X (.builtin "all") (aJU K):=by subst h;exact aBu a
def aIt:PN K (aJU K) wR:=aKG
def kEq(h:X.K=K)(a:X.A.units+64<cLine):OpR X (cf .Eq) (aKd K):=by subst h;exact aLI a
def kNe(h:X.K=K)(a:X.A.units+64<cLine):OpR X (cf .NotEq) (aMN K):=by subst h;exact aKV a
def kIn(h:X.K=K)(a:X.A.in1.units+64<cLine):OpR X (cf .In) (aNi K false):=by subst h;exact aLS a
def aQP(h:X.K=K):OpR X (binaryOp .Add) (aFw K):=by subst h;exact aIk
def aIm(h:X.K=K)(b:PE X l a):PI X tg l (aKp K a):=by subst h;exact aMZ b
def aGf{n:Nat}(b:X.K=K)(c:X.calm=true)(h:PGs X es t)
 (hn:(assignEach es X.env).length=n:=by rfl) (a:(assignEach es X.env).findIdx? (·.1)=Y:=by rfl):PG X (.Tuple es k pos) (aMX K n t):=by subst b;exact aNb c h hn a
noncomputable def aPr(K:Fg)(a:TE):TT:=λb H Q=>a b H λx H'=>∃k,aIs K x H' k/\Q k H'
def aIh(d:X.K=K)(ha:PE X a c)(e:∀b,isTrue a X.env b=(do let v <- b;standAt a.pos;holding [v]<|truthy v)):PT X a (aPr K c):=by subst d;exact aDA ha e
def aHI(a:SE K b f):STt K (aPr K b) (LB f):=aMj a
end
section
variable{es:T8}{env:Env}
def bR{a b}:cb (.Name a b::es) env=(false,eval (.Name a b) env)::cb es env:=rfl
def EO{a b c}:cb (.Tuple a b c::es) env=(false,eval (.Tuple a b c) env)::cb es env:=rfl
def pQ{a b c d}:cb (.Call a b c d::es) env=(false,eval (.Call a b c d) env)::cb es env:=rfl
def zU:(backTo pos<|cb [] env).any (·.1)=false:=rfl
def qH{e:Ud}(hs:cb (e::es) env=(false,eval e env)::cb es env)(h:(backTo pos<|cb es env).any (·.1)=false):(backTo pos<|cb (e::es) env).any (·.1)=false:=by
 rw[hs];have a:backTo pos ((false,eval e env)::cb es env)=(false,(do let v <- eval e env;standAt pos;pure v:Sem Tz))::backTo pos (cb es env)\/(backTo pos ((false,eval e env)::cb es env)).any (·.1)=(backTo pos<|cb es env).any (·.1):=.inr rfl;obtain q|q:=a
 .rw[q,Z1,h];rfl
 .rw[q];exact h
end
section
variable{P:Ue}{w:World}{K:Fg}{mg:Str->Tf}
def Fun.okM{base:Heap}{x:Str}{st:Stmt}{N ps:Tc}{k:Nat}{b:SF}{f:Uc}{fd:FuncData}(F:Fun K x x st f fd)(S:aT N ps (aI st))
 (c:∀(f:Uc)(cdv:Tz)(A:Uf)(outer:Tv Env)(s:Ub)(H:Hp)(E:XK),cM k (A.deeper<|envOfC x (aI st) s.heap.objs.size f cdv)->
  ∃t,PSs (oQ CX0 P w K mg base N x (aI st) f cdv A outer s H E).nox (bU st) t/\SS K t b):mE P w K mg base CX0 (k+1) f fd ps (spM K (fnF ps.length N.length b)):=by
 have len:∀vs H Q E,spM K (fnF ps.length N.length b) vs H Q E->vs.length=ps.length:=λvs H Q E h=>by
  let⟨xs,M,W,y,M',G,R,a,_⟩:=h;by_cases d:xs.length=ps.length
  .rw[<- Paired.len R];exact d
  .unfold fnF at a;rw[B7 d]at a;cases a
 refine F.ok S len λcdv A outer s H vs Q E l h=>?_;let⟨t,m,hS⟩:=c f cdv A outer s H E l;refine⟨t,m,?_⟩;let⟨xs,M,W,y,M',G,R,a,k⟩:=h;by_cases d:xs.length=ps.length
 .unfold fnF at a;rw[A8 d]at a;let⟨⟨o,M1⟩,n,a⟩:=aH a
  have p:bX K W (xs.map Z++List.replicate (N.length-xs.length) Y) (start N vs):=by
   unfold start;rw[<- Paired.len R];exact Paired.app (bQ.some R)<|uI _
  refine hS _ _ _ _ n W H _ _ G p λe g i j=>?_;cases o with
  |rt x=>cases a;exact λv r=>k v e g i j r
  |nx γ=>cases a;exact λq r=>k .non e g i j rfl
  |bk γ=>cases a
  |ct γ=>cases a
 .unfold fnF at a;rw[B7 d]at a;cases a
def Def.okL{p:Str}{st:Stmt}{F:FN}(D:Def K mg x st)(S:aT N [p] (aI st))(c:F=fnF 1 N.length b)
 (d:∀(kV doc pm:Tz)(an:Th)(cdv ct:Tz)(us:T4),us.length=[p].length->bindArgs (PySem.W.fnOf x x (eK st) (bU st) (aI st) .none kV doc pm an cdv ct) ⟨us,[]⟩=pure ([p].zip us))
 (a:∀(base:Heap)(f:Uc)(cdv:Tz)(A:Uf)(outer:Tv Env)(s:Ub)(H:Hp)(E:XK),cM k (A.deeper<|envOfC x (aI st) s.heap.objs.size f cdv)->
  ∃t,PSs (oQ CX0 P w K mg base N x (aI st) f cdv A outer s H E).nox (bU st) t/\SS K t b):
 ∃f fd,mg x=Z (.ref f)/\(∀(s:Ub)(u:Tz),BindsTo s fd ⟨[u],[]⟩ [(p,u)])/\∀base,mE P w K mg base CX0 (k+1) f fd [p] (spM K F):=by
 subst c;let⟨f,fd,Fu,m⟩:=D.ex;refine⟨f,fd,m,λs u=>?_,λbase=>Fu.okM S<|a base⟩;let⟨oc,od,kV,doc,pm,an,cdv,ct,osl,rfl,g,e⟩:=Fu.ex;exact .of_eq (d kV doc pm an cdv ct [u] rfl)
theorem xS{H:Hp}:∀ns:T6,aL K H (ns.map .int) (ns.map V.int)
 |[]=>rfl
 |n::ns=>⟨.int n,ns.map V.int,rfl,rfl,xS ns⟩
def aLT{F:FN}(b:∀ns:T6,ns.length<=63->∃M',F [.d (.list (ns.map .int))] []=Z (.d (.bool true),M')){ns:T6}(e:ns.length<=63)(hS:SqL K H a (ns.map V.int))(ht:TabsOk K H H)(E:XK):
 spM K F [.ref a] H (λv _=>v=.bl true) E:=by
 let⟨M',h⟩:=b ns e;refine⟨[.d (.list (ns.map .int))],[],⟨H,λ_=>0,0⟩,_,M',⟨jA.refl H,rfl,λi c h=>by simp at h,λi j c c' h=>by simp at h,ht⟩,.cons (⟨a,ns.map V.int,rfl,hS,xS ns⟩) .nil,h,λv W' H' _ _ r=>r⟩
def law_walk{l:PySem.W.OpenLaw}{YP:World->Heap->Prop}{d:DefRec}{K:Params->Fg}{F:FN}{p:Str}(i:PyProof.Rows.importsNone q=true)(hn:l.most=Z 63)(b:d.params.defaults=[])(j:cM k callerA)
 (n:∀(w:World)(h:Heap),YP w h->(K w.params).In h)
 (hT:∀(w:World)(mg:Str->Tf)(h:Heap),(K w.params).In h->h.Ns ce mg->∃f fd,mg d.name=Z (.ref f)/\(∀(s:Ub)(u:Tz),BindsTo s fd ⟨[u],[]⟩ [(p,u)])/\∀base,mE l.prog w (K w.params) mg base CX0 k f fd [p]<|spM (K w.params) F)
 (o:∀ns:T6,ns.length<=63->∃M',F [.d (.list (ns.map .int))] []=Z (.d (.bool true),M')) (ht:∀w:World,aFg (K w.params)=[]):
 PySem.W.WalkO q loose XP YP l.row.toRowW d [] (λf vs=>PySem.call f vs):=
 L2.walk_of i hn 66 b j n
  (λw mg y h KX G c=>by
   let⟨f,fd,m,r,t⟩:=hT w mg h KX G;have e:=m.symm.trans c;cases e;exact⟨fd,r,λbase _ _=>t base⟩)
  (λw H a ns v _ hS=>aLT o v hS (λx g=>by rw[ht w]at g;cases g) _) λ_ _ _ _ _ z=>z
end
def aBI(e:Ud)(es:T8):Prop:=∀env:Env,cb (e::es) env=(false,eval e env)::cb es env
def QU:T8->Prop
 |[]=>True
 |e::es=>aBI e es/\QU es
def QU.plain:∀{es:T8},QU es->∀(env:Env)(pos:Pos),(backTo pos<|cb es env).any (·.1)=false
 |[]=>λ_ _ _=>rfl
 |_::_=>λh env pos=>qH (h.1 env)<|h.2.plain env pos
section
variable{ι:Type}
structure ME(K:Fg)(X:ι->Cx)(e:Ud)(f:EF):Prop where
 ex:∃t,(∀i,PE (X i) e t)/\SE K t f
structure MT(K:Fg)(X:ι->Cx)(e:Ud)(f:TF):Prop where
 ex:∃t,(∀i,PT (X i) e t)/\STt K t f
structure MW(K:Fg)(X:ι->Cx)(e:Ud)(f:TF):Prop where
 ex:∃t,(∀i,PW (X i) e t)/\STt K t f
structure MA(K:Fg)(X:ι->Cx)(es:T8)(f:AF):Prop where
 ex:∃t,(∀i,PA (X i) es t)/\SA K t f
 st:QU es
structure MG(K:Fg)(X:ι->Cx)(e:Ud)(f:GF):Prop where
 ex:∃t,(∀i,PG (X i) e t)/\SG K t f
structure MGs(K:Fg)(X:ι->Cx)(es:T8)(f:GsF):Prop where
 ex:∃t,(∀i,PGs (X i) es t)/\SGs K t f
structure MI(K:Fg)(X:ι->Cx)(tg e:Ud)(f:AF):Prop where
 ex:∃t,(∀i,PI (X i) tg e t)/\SI K t f
structure MF(K:Fg)(X:ι->Cx)(es:T8)(f:TF):Prop where
 ex:∃t,(∀i,yZ (X i) es t)/\STt K t f
structure MS(K:Fg)(X:ι->Cx)(st:Stmt)(f:SF):Prop where
 ex:∃t,(∀i,PS (X i) st t)/\SS K t f
structure ML(K:Fg)(X:ι->Cx)(st:Ta)(f:SF):Prop where
 ex:∃t,(∀i,PSs (X i) st t)/\SS K t f
structure Q2(K:Fg)(X:ι->Cx)(o:Tn)(h:F2):Prop where
 ex:∃r,(∀i,OpR (X i) o r)/\P2 K r h
structure Q1(K:Fg)(X:ι->Cx)(o:Tz->Sem Tz)(h:F1):Prop where
 ex:∃r,(∀i,UnR (X i) o r)/\P1 K r h
structure QN(K:Fg)(X:ι->Cx)(f:Tz)(h:FN):Prop where
 ex:∃r,(∀i,dH (X i) f r)/\PN K r h
structure QI(K:Fg)(X:ι->Cx)(h:F2):Prop where
 ex:∃r,(∀i,IxR (X i) r)/\P2 K r h
structure QS(K:Fg)(X:ι->Cx)(h:F3):Prop where
 ex:∃r,(∀i,aMT (X i) r)/\P3 K r h
variable{K:Fg}{X:ι->Cx}{a b c e:Ud}{es:T8}{f g h:EF}{ft gt:TF}{fa:AF}{pos:Pos}
def aB(i:Nat){x:Str}(k:∀j,(X j).N[i]?=Z x:=by intro _;rfl)(l:∀j,Vis (X j).env.scope x:=by intro _;first|exact Or.inl rfl|exact Or.inr (Or.inl rfl)|exact Or.inr<|Or.inr rfl)(hd:(x==("__debug__":Str))=false:=by decide)(d:(x==("__classdict__":Str))=false:=by decide):
 ME K X (.Name x pos) (aE i):=⟨_,λj=>aLN (k j) (l j) hd d,aLn⟩
def aG:ME K X (.Constant (.int i) j pos) (fC (.int i)):=⟨_,λ_=>aNG,aCH⟩
def gX:ME K X (.Constant (.bool i) j pos) (fC (.bool i)):=⟨_,λ_=>aPx,aQu⟩
def zP:ME K X (.Constant .none j pos) (fC .none):=⟨_,λ_=>aMG,aKD⟩
def qN:ME K X (.Constant (.str i) j pos) (fC (.str i)):=⟨_,λ_=>aMl,aLo⟩
def tK(hm:∀i,∃t:Tok,(X i).mg x=Z (.int n t))(d:∀i,Gl (X i) x:=by intro _;rfl)(hd:(x==("__debug__":Str))=false:=by decide):ME K X (.Name x pos) (fC (.int n)):=
 ⟨_,λi=>ZR (v:=.int n) (d i) (hm i).choose_spec ⟨_,rfl⟩ hd,aCH⟩
def aW(q:Q2 K X (binaryOp op) k)(x:ME K X a f)(y:ME K X b g):ME K X (.BinOp a op b pos) (fOp k f g):=by
 let⟨r,d,j⟩:=q.ex;let⟨t,l,m⟩:=x.ex;let⟨u,n,o⟩:=y.ex;exact⟨_,λi=>aNX (d i) (l i)<|n i,XE j m o⟩
def CF(q:Q1 K X (unaryOp op) k)(x:ME K X a f):ME K X (.UnaryOp op a pos) (fUn k f):=by
 let⟨r,d,j⟩:=q.ex;let⟨t,l,m⟩:=x.ex;exact⟨_,λi=>aPS (d i)<|l i,aPp j m⟩
def eB{rest:T8}(x:ME K X a f)(y:ME K X (.BoolOp .And (b::rest) pos) g):ME K X (.BoolOp .And (a::b::rest) pos) (kQ f g):=by
 let⟨t,d,j⟩:=x.ex;let⟨u,k,l⟩:=y.ex;exact⟨_,λi=>aKh (d i)<|k i,aKA j l⟩
def iJ(x:ME K X a f):ME K X (.BoolOp op [a] pos) f:=by
 let⟨t,d,j⟩:=x.ex;exact⟨_,λi=>aLA<|d i,j⟩
def GA(x:ME K X a f):ME K X (.UnaryOp .Not a pos) (RG f):=by
 let⟨t,d,j⟩:=x.ex;exact⟨_,λi=>aNo<|d i,aMk j⟩
def gU(q:Q2 K X (cf op) k)(x:ME K X a f)(y:ME K X b g)(hm:behindInMarks op b=false:=by rfl):ME K X (.Compare a [op] [b] pos) (fOp k f g):=by
 let⟨r,d,j⟩:=q.ex;let⟨t,l,m⟩:=x.ex;let⟨u,n,o⟩:=y.ex;exact⟨_,λi=>aIj (d i) (l i) (n i) hm,XE j m o⟩
def RZ(q:Q2 K X (cf op) k)(m:Q2 K X (cf d) k')(x:ME K X a f)(y:ME K X b g)(z:ME K X c h)(hm:lastMarks [op,d] [b,c]=false:=by with_unfolding_all rfl):ME K X (.Compare a [op,d] [b,c] pos) (HC k k' f g h):=by
 let⟨r,n,o⟩:=q.ex;let⟨D,j,l⟩:=m.ex;let⟨t,p,s⟩:=x.ex;let⟨u,w,A⟩:=y.ex;let⟨v,B,C⟩:=z.ex;exact⟨_,λi=>aEy (n i) (j i) (p i) (w i) (B i) hm,aEM o l s A C⟩
def aD:MA K X [] aN:=⟨⟨_,λ_=>FR,aKn⟩,trivial⟩
def aA(x:ME K X e f)(y:MA K X es fa)(hs:aBI e es:=by intro _;rfl):MA K X (e::es) (aC f fa):=by
 let⟨t,d,j⟩:=x.ex;let⟨u,k,l⟩:=y.ex;exact⟨⟨_,λi=>jV (d i) (k i)<|hs _,aHq j l⟩,hs,y.st⟩
def bB(x:MA K X es fa):ME K X (.Tuple es k pos) (bG fa):=by
 let⟨t,d,j⟩:=x.ex;exact⟨_,λi=>UC<|d i,aMb j⟩
def eE(x:MA K X es fa):ME K X (.List es pos) (fI fa):=by
 let⟨t,d,j⟩:=x.ex;exact⟨_,λi=>aFv<|d i,aKj j⟩
def AI(x:MA K X es fa):ME K X (.List es pos) (rS fa):=by
 let⟨t,d,j⟩:=x.ex;exact⟨_,λi=>aFv<|d i,aNA j⟩
def cO(q:QI K X k)(x:ME K X a f)(y:ME K X b g)(hs:ZK b:=by intro _ _;rfl):ME K X (.Subscript a b pos) (fOp k f g):=by
 let⟨r,d,j⟩:=q.ex;let⟨t,l,m⟩:=x.ex;let⟨u,n,o⟩:=y.ex;exact⟨_,λi=>aOZ (d i) (l i) (n i) hs,XE j m o⟩
def aU{F:FN}(C:∀i,Callee (X i).prog (X i).w (X i).K (X i).mg (X i).base k x ps (spM K F) q)(d:∀i,cM k (X i).A q)(y:MA K X (e::es) fa)(j:∀i,Gl (X i) x:=by intro _;rfl)(hd:(x==("__debug__":Str))=false:=by decide):
 ME K X (.Call (.Name x p) (e::es) [] pos) (aM F fa):=by
 let⟨u,l,m⟩:=y.ex;exact⟨_,λi=>aNQ (C i) (d i) (l i) (j i) hd (y.st.1 _)<|y.st.2.plain _ _,aIa m⟩
def bM{id:String}{F:FN}(q:QN K X (.builtin id) F)(hm:∀i,(X i).mg x=Y)(d:bootBuiltins x=Z (.builtin id))(y:MA K X (e::es) fa)(j:∀i,Gl (X i) x:=by intro _;rfl)(hn:x≠"__name__":=by decide)(hd:(x==("__debug__":Str))=false:=by decide):
 ME K X (.Call (.Name x p) (e::es) [] pos) (aM F fa):=by
 let⟨r,k,l⟩:=q.ex;let⟨u,m,n⟩:=y.ex;exact⟨_,λi=>uH (k i) (j i) (hm i) d (m i) hn hd (y.st.1 _)<|y.st.2.plain _ _,aJL l n⟩
def eN{id:String}{F:FN}(q:QN K X (.type id) F)(hm:∀i,(X i).mg x=Y)(d:bootBuiltins x=Z (.type id))(y:MA K X (e::es) fa)(j:∀i,Gl (X i) x:=by intro _;rfl)(hn:x≠"__name__":=by decide)(hd:(x==("__debug__":Str))=false:=by decide):
 ME K X (.Call (.Name x p) (e::es) [] pos) (aM F fa):=by
 let⟨r,k,l⟩:=q.ex;let⟨u,m,n⟩:=y.ex;exact⟨_,λi=>aBJ (k i) (j i) (hm i) d (m i) hn hd (y.st.1 _)<|y.st.2.plain _ _,aJL l n⟩
def zM{T:String}{p:Pos}(k:∀i,(X i).K=K)(hT:T∈asked)(x:ME K X a f)(hs:aBI a [.Name y p'])(hm:∀i,(X i).mg "isinstance"=Y)(d:∀i,(X i).mg y=Y)(l:bootBuiltins y=Z (.type T))(m:∀i,Gl (X i) "isinstance":=by intro _;rfl)(j:∀i,Gl (X i) y:=by intro _;rfl)
 (hn:y≠"__name__":=by decide) (hd:(y==("__debug__":Str))=false:=by decide):ME K X (.Call (.Name "isinstance" p) [a,.Name y p'] [] pos) (AU T f):=by
 let⟨t,n,o⟩:=x.ex;refine⟨_,λi=>uH (aQD<|k i) (m i) (hm i) boot_isinstance (jV (n i) (jV (MM (v:=.ty T) (j i) (d i) l rfl hn hd) FR bR)<|hs _) 66 66 (hs _)<|qH bR zU,aMq hT o⟩
def ZY{T U:String}{p:Pos}{k:Nat}(u:∀i,(X i).K=K)(hT:T∈asked)(w:U∈asked)(x:ME K X a f)(hs:aBI a [.Tuple [.Name y p',.Name z d] k s])(hm:∀i,(X i).mg "isinstance"=Y)(j:∀i,(X i).mg y=Y)(l:∀i,(X i).mg z=Y)
 (A:bootBuiltins y=Z (.type T)) (m:bootBuiltins z=Z (.type U)) (B:∀i,Gl (X i) "isinstance":=by intro _;rfl) (n:∀i,Gl (X i) y:=by intro _;rfl) (o:∀i,Gl (X i) z:=by intro _;rfl)
 (hn:y≠"__name__":=by decide) (hd:(y==("__debug__":Str))=false:=by decide) (q:z≠"__name__":=by decide) (r:(z==("__debug__":Str))=false:=by decide):ME K X (.Call (.Name "isinstance" p) [a,.Tuple [.Name y p',.Name z d] k s] [] pos) (OI T U f):=by
 let⟨t,C,D⟩:=x.ex;refine⟨_,λi=>uH (aPK<|u i) (B i) (hm i) boot_isinstance (jV (C i) (jV (UC<|jV (MM (v:=.ty T) (n i) (j i) A rfl hn hd) (jV (MM (v:=.ty U) (o i) (l i) m rfl q r) FR bR) bR) FR EO)<|hs _) 66 66 (hs _)<|qH EO zU,aHj hT w D⟩
def eW(x:MT K X a ft):MT K X (.UnaryOp .Not a pos) (gF ft):=by
 let⟨t,d,j⟩:=x.ex;exact⟨_,λi=>aCR<|d i,aML j⟩
def aCr{rest:T8}(x:MT K X a ft)(y:MW K X (.BoolOp .And (b::rest) pos) gt):MW K X (.BoolOp .And (a::b::rest) pos) (LO ft gt):=by
 let⟨t,d,j⟩:=x.ex;let⟨u,k,l⟩:=y.ex;exact⟨_,λi=>aLX (d i)<|k i,aNI j l⟩
def aAu(x:MT K X a ft):MW K X (.BoolOp .And [a] pos) ft:=by
 let⟨t,d,j⟩:=x.ex;exact⟨_,λi=>aHL<|d i,j⟩
def tM{rest:T8}(x:MT K X a ft)(y:MW K X (.BoolOp .Or (b::rest) pos) gt):MW K X (.BoolOp .Or (a::b::rest) pos) (gOr ft gt):=by
 let⟨t,d,j⟩:=x.ex;let⟨u,k,l⟩:=y.ex;exact⟨_,λi=>aPA (d i)<|k i,aOG j l⟩
def tQ(x:MT K X a ft):MW K X (.BoolOp .Or [a] pos) ft:=by
 let⟨t,d,j⟩:=x.ex;exact⟨_,λi=>aMa<|d i,j⟩
def IF(x:MW K X a ft):MT K X a ft:=by
 let⟨t,d,j⟩:=x.ex;exact⟨_,λi=>(d i).pt,j⟩
def bO(q:Q2 K X (cf op) k)(x:ME K X a f)(y:ME K X b g)(hm:behindInMarks op b=false:=by rfl):MT K X (.Compare a [op] [b] pos) (gB<|fOp k f g):=by
 let⟨r,d,j⟩:=q.ex;let⟨t,l,m⟩:=x.ex;let⟨u,n,o⟩:=y.ex;exact⟨_,λi=>aHa (d i) (l i) (n i) hm,aGM<|XE j m o⟩
def eG(x:ME K X a f)(j:∀(env:Env)(d:Sem Tz),isTrue a env d=(do let v <- d;standAt a.pos;holding [v]<|truthy v):=by intro _ _;rfl):MT K X a (gB f):=by
 let⟨t,k,l⟩:=x.ex;exact⟨_,λi=>aFb (k i)<|j _,aKv l⟩
def aCZ(j:∀i,(X i).K=K)(x:ME K X a f)(k:∀(env:Env)(d:Sem Tz),isTrue a env d=(do let v <- d;standAt a.pos;holding [v]<|truthy v):=by intro _ _;rfl):MT K X a (LB f):=by
 let⟨t,l,m⟩:=x.ex;exact⟨_,λi=>aIh (j i) (l i)<|k _,aHI m⟩
def gG{p:Pos}(hm:∀i,(X i).mg "range"=Y)(x:MA K X [a] fa)(d:∀i,Gl (X i) "range":=by intro _;rfl):MI K X tg (.Call (.Name "range" p) [a] [] pos) (gL fa):=by
 let⟨t,j,k⟩:=x.ex;exact⟨_,λi=>aBX (d i) (hm i) (j i)<|x.st.1 _,aGs k⟩
def NG{p:Pos}(hm:∀i,(X i).mg "range"=Y)(x:MA K X [a,b] fa)(d:∀i,Gl (X i) "range":=by intro _;rfl):MI K X tg (.Call (.Name "range" p) [a,b] [] pos) (BN fa):=by
 let⟨t,j,k⟩:=x.ex;exact⟨_,λi=>aBg (d i) (hm i) (j i) (by rw[x.st.1,x.st.2.1];rfl) (by rw[x.st.2.1];rfl),aID k⟩
def iG(d:∀i,(X i).K=K)(x:ME K X a f):MI K X tg a (cQ f):=by
 let⟨t,j,k⟩:=x.ex;exact⟨_,λi=>aIm (d i)<|j i,aLm k⟩
def aY(i:Nat){x:Str}(d:∀j,(X j).N.Nodup)(hi:∀j,(X j).N[i]?=Z x:=by intro _;rfl)(k:∀j,Loc (X j).env.scope x:=by intro _;first|exact Or.inl rfl|exact Or.inr rfl)(l:∀j,(X j).fn x=true\/(X j).env.scope.names.lookup x=Z .local:=by intro _;first|exact .inl rfl|exact .inr rfl):
 MG K X (.Name x pos) (cq i):=⟨_,λj=>aJc (d j) (hi j) (k j)<|l j,yJ⟩
def fZ:MGs K X [] IM:=⟨_,λ_=>aIc,aHQ⟩
def bJ(x:MG K X e d)(y:MGs K X es gs)(hs:∀env:Env,(assignEach (e::es) env).map (·.2)=assign e env::(assignEach es env).map (·.2):=by intro _;rfl):MGs K X (e::es) (gW d gs):=by
 let⟨t,j,k⟩:=x.ex;let⟨u,l,m⟩:=y.ex;exact⟨_,λi=>aFI (j i) (l i)<|hs _,aDh k m⟩
def jI{n:Nat}(j:∀i,(X i).K=K)(l:∀i,(X i).calm=true)(x:MGs K X es gs)(hn:∀env:Env,(assignEach es env).length=n:=by intro _;rfl)(d:∀env:Env,(assignEach es env).findIdx? (·.1)=Y:=by intro _;rfl):MG K X (.Tuple es k pos) (fR n gs):=by
 let⟨t,m,o⟩:=x.ex;exact⟨_,λi=>aGf (j i) (l i) (m i) (hn _)<|d _,aLk o⟩
def UW(q:QS K X s)(x:ME K X a f)(y:ME K X b g) (hs:∀(env:Env)(v:Tz),assign (.Subscript a b pos) env v=(do
 let d <- holding [v] (eval a env);let j <- holding [v,d] (eval b env)
 standAt pos
 holding [v,d,j] (setItem d j v)
 release [v,d,j] []):=by intro _ _;rfl):MG K X (.Subscript a b pos) (hSub f g s):=by
 let⟨r,k,l⟩:=q.ex;let⟨t,m,n⟩:=x.ex;let⟨u,o,p⟩:=y.ex;exact⟨_,λi=>aKb (m i) (o i) (k i)<|hs _,aMv l n p⟩
def eY:MF K X [] cK:=⟨_,λ_=>aFh,aMF⟩
def rB(x:MT K X c ft):MF K X [c] ft:=by
 let⟨t,d,j⟩:=x.ex;exact⟨_,λi=>aFK<|d i,j⟩
abbrev LcI(ι:Type):Type:=ι×Uc×Ub×Hp×Tb×T1
def fF(X:ι->Cx)(N':Tc)(scope:Scope):LcI ι->Cx:=λj=>bV (X j.1) N' scope j.2.1 j.2.2.1 j.2.2.2.1 j.2.2.2.2.1 j.2.2.2.2.2
variable{N':Tc}{cap:T2}{scope:Scope}{tg iter elt:Ud}{ifs:T8}{gf:GF}
variable{st:Stmt}{sts:Ta}{sf sg:SF}
def cD:ML K X [] cJ:=⟨_,λ_=>aGE,aGe⟩
def aK(x:MS K X st sf):ML K X [st] sf:=by
 let⟨t,d,j⟩:=x.ex;exact⟨_,λi=>XI<|d i,j⟩
def aJ(x:MS K X st sf)(y:ML K X sts sg):ML K X (st::sts) (bC sf sg):=by
 let⟨t,d,j⟩:=x.ex;let⟨u,k,l⟩:=y.ex;exact⟨_,λi=>OL (d i)<|k i,aNj j l⟩
def bD(x:ME K X e f):MS K X (.Return (Z e) pos) (cF f):=by
 let⟨t,d,j⟩:=x.ex;exact⟨_,λi=>aLi<|d i,aKl j⟩
def MY:SF:=λ_ _=>Y
def GH:MS K X st MY:=⟨aCG,λ_=>aCy,λ_ _ _ _ h=>by cases h⟩
def qB(x:ME K X e f)(hs:∀i,swapsWith e Y pos.line (X i).env=pure false:=by intro _;rfl):MS K X (.Expr e pos) (mG f):=by
 let⟨t,d,j⟩:=x.ex;exact⟨_,λi=>ZL (d i)<|hs i,aGp j⟩
def dC(x:MT K X c ft)(y:ML K X sts sf)(z:ML K X d sg):MS K X (.If c sts d pos) (sIf ft sf sg):=by
 let⟨t,j,k⟩:=x.ex;let⟨u,l,m⟩:=y.ex;let⟨v,n,o⟩:=z.ex;exact⟨_,λi=>aFA (j i) (l i)<|n i,aOw k m o⟩
def QA(d:∀i,PassesOwn (bx (X i).prog (X i).w) (X i).A (X i).env (X i).xe)(x:MT K X c ft)(y:ML K X sts sf):MS K X (.While c sts [] pos) (xK ft sf):=by
 let⟨t,j,k⟩:=x.ex;let⟨u,l,m⟩:=y.ex;exact⟨_,λi=>aFp (d i) (j i)<|l i,aEj k m⟩
def nG(d:∀i,PassesOwn (bx (X i).prog (X i).w) (X i).A (X i).env (X i).xe)(j:∀i,(X i).calm=true)(x:MI K X tg iter fa)(y:MG K X tg gf)(z:ML K X sts sf)(hs:∀(env:Env)(x:Tz),cc iter env x=pure x:=by intro _ _;rfl):MS K X (.For tg iter sts [] pos) (uA fa gf sf):=by
 let⟨t,k,l⟩:=x.ex;let⟨u,m,n⟩:=y.ex;let⟨v,o,p⟩:=z.ex;exact⟨_,λi=>aMp (d i) (j i) (k i) (m i) (o i)<|hs _,aNJ l n p⟩
def aZ(i:Nat){d:Str}(k:∀j,(X j).N.Nodup)(x:ME K X e f)(hi:∀j,(X j).N[i]?=Z d:=by intro _;rfl)(l:∀j,Loc (X j).env.scope d:=by intro _;first|exact Or.inl rfl|exact Or.inr rfl)(hs:∀j,swapsWith e (Z (.Name d pos')) pos.line (X j).env=pure false:=by intro _;rfl)
 (m:∀j,(X j).fn d=true\/(X j).env.scope.names.lookup d=Z .local:=by intro _;first|exact .inl rfl|exact .inr rfl):MS K X (.Assign [.Name d pos'] e pos) (bA f<|cq i):=by
 let⟨t,n,o⟩:=x.ex;exact⟨_,λj=>aFz (k j) (hi j) (l j) (n j) (hs j)<|m j,ND o yJ⟩
def VR(i j:Nat){l m:Str}{p q:Nat}(s:∀j,(X j).calm=true)(u:∀j,(X j).N.Nodup)(x:MA K X [a,b] fa)(r:i≠j:=by decide)(hi:∀k,(X k).N[i]?=Z l:=by intro _;rfl)(v:∀k,(X k).N[j]?=Z m:=by intro _;rfl)(w:∀k,(X k).env.scope.names.lookup l=Z .local:=by intro _;rfl)(y:∀k,(X k).env.scope.names.lookup m=Z .local:=by intro _;rfl)
 (z:∀k,swappedStores [.Tuple [.Name l n,.Name m o] p pt] (.Tuple [a,b] q d) (X k).env=pure (Z [l,m]):=by intro _;rfl) (A:∀k,swapsWithSole [.Tuple [.Name l n,.Name m o] p pt] (.Tuple [a,b] q d) pos.line (X k).env=pure false:=by intro _;rfl):
 MS K X (.Assign [.Tuple [.Name l n,.Name m o] p pt] (.Tuple [a,b] q d) pos) (SC i j fa):=by
 let⟨t,B,C⟩:=x.ex;exact⟨_,λk=>aMg (s k) (u k) (hi k) (v k) r (w k) (y k) (B k) (z k)<|A k,aLd C⟩
def TV(x:ME K X e f)(y:MG K X tg gf)(d:∀k,swapsWithSole [tg] e pos.line (X k).env=pure false:=by intro _;rfl)(i:∀k,swappedStores [tg] e (X k).env=pure Y:=by intro _;rfl)(j:∀env:Env,(assignEach [tg] env).map (·.2)=[assign tg env]:=by intro _;rfl):MS K X (.Assign [tg] e pos) (bA f gf):=by
 let⟨t,l,m⟩:=x.ex;let⟨u,n,o⟩:=y.ex;exact⟨_,λk=>aLY (l k) (n k) (d k) (i k)<|j _,ND m o⟩
def eA(d:∀i,(X i).K=K:=by intro _;rfl):Q2 K X (binaryOp .Add) dP:=⟨_,λi=>aQP<|d i,aGc⟩
def PR:Q2 K X (binaryOp .Sub) VH:=⟨_,λ_=>aKy,aKC⟩
def HB:Q2 K X (binaryOp .Mult) HV:=⟨_,λ_=>aHG,aLB⟩
def iT:Q2 K X (binaryOp .FloorDiv) kY:=⟨_,λ_=>aFd,aHv⟩
def dB:Q2 K X (binaryOp .Mod) dJ:=⟨_,λ_=>aKT,aNT⟩
def aCv:Q2 K X (binaryOp .Pow) aAT:=⟨_,λ_=>aNm,aNR⟩
def BQ:Q1 K X (unaryOp .USub) aBO:=⟨_,λ_=>aLC,aNB⟩
def IE:Q2 K X (cf .Lt) ltI:=⟨_,λ_=>aPX,aPt⟩
def aIW:Q2 K X (cf .LtE) leI:=⟨_,λ_=>aOb,aQB⟩
def aEG:Q2 K X (cf .Gt) gtI:=⟨_,λ_=>aOX,aQr⟩
def aQc:Q2 K X (cf .GtE) geI:=⟨_,λ_=>aPo,aOE⟩
def oY(d:∀i,(X i).K=K)(j:∀i,(X i).A.units+64<cLine):Q2 K X (cf .Eq) (eqX false):=⟨_,λi=>kEq (d i)<|j i,aCC⟩
def LI(d:∀i,(X i).K=K)(j:∀i,(X i).A.units+64<cLine):Q2 K X (cf .NotEq) (eqX true):=⟨_,λi=>kNe (d i)<|j i,aKx⟩
def aGC(d:∀i,(X i).K=K)(j:∀i,(X i).A.in1.units+64<cLine):Q2 K X (cf .In) (inD false):=⟨_,λi=>kIn (d i)<|j i,aOf⟩
def fG(d:∀i,(X i).K=K:=by intro _;rfl):QI K X ixF:=⟨_,λi=>kIx<|d i,aNg⟩
def sM(d:∀i,(X i).K=K:=by intro _;rfl):QN K X (.builtin "len") pO:=⟨_,λi=>aQJ<|d i,aFW⟩
def VJ(d:∀i,(X i).K=K):QN K X (.type "list") uQ:=⟨_,λi=>aJn<|d i,aDI⟩
def nQ(d:∀i,(X i).K=K):QN K X (.type "tuple") iH:=⟨_,λi=>aKS<|d i,aBq⟩
def SR(d:∀i,(X i).K=K)(j:∀i,(X i).calm=true):QN K X (.builtin "all") wR:=⟨_,λi=>aQL (d i)<|j i,aIt⟩
def aCj:QS K X EV:=⟨_,λ_=>set_list,aMR⟩
end
section
variable{P:Ue}{w:World}{K:Fg}{mg:Str->Tf}
def Def.okG{st:Stmt}{ps:Tc}{b:SF}{q:Bool}(D:Def K mg x st)(S:aT N ps (aI st))
 (c:∀(kV doc pm:Tz)(an:Th)(cdv ct:Tz)(us:T4),us.length=ps.length->bindArgs (PySem.W.fnOf x x (eK st) (bU st) (aI st) .none kV doc pm an cdv ct) ⟨us,[]⟩=pure (ps.zip us))
 (a:∀(f:Uc)(cdv:Tz)(A:Uf)(outer:Tv Env)(s:Ub)(H:Hp)(E:XK),cM k (A.deeper<|envOfC x (aI st) s.heap.objs.size f cdv) q->
  ML K (λ_:Unit=>(oQ CX0 P w K mg base N x (aI st) f cdv A outer s H E q).nox) (bU st) b):Callee P w K mg base (k+1) x ps (spM K (fnF ps.length N.length b)) q:=
 D.okM S c λf cdv A outer s H E d=>by
  let⟨t,e,g⟩:=(a f cdv A outer s H E d).ex;exact⟨t,e (),g⟩
def Def.okLG{p:Str}{st:Stmt}{F:FN}(D:Def K mg x st)(S:aT N [p] (aI st))(c:F=fnF 1 N.length b)
 (d:∀(kV doc pm:Tz)(an:Th)(cdv ct:Tz)(us:T4),us.length=[p].length->bindArgs (PySem.W.fnOf x x (eK st) (bU st) (aI st) .none kV doc pm an cdv ct) ⟨us,[]⟩=pure ([p].zip us))
 (a:∀(base:Heap)(f:Uc)(cdv:Tz)(A:Uf)(outer:Tv Env)(s:Ub)(H:Hp)(E:XK),cM k (A.deeper<|envOfC x (aI st) s.heap.objs.size f cdv)->
  ML K (λ_:Unit=>(oQ CX0 P w K mg base N x (aI st) f cdv A outer s H E).nox) (bU st) b):
 ∃f fd,mg x=Z (.ref f)/\(∀(s:Ub)(u:Tz),BindsTo s fd ⟨[u],[]⟩ [(p,u)])/\∀base,mE P w K mg base CX0 (k+1) f fd [p] (spM K F):=
 D.okL S c d λbase f cdv A outer s H E e=>by
  let⟨t,g,h⟩:=(a base f cdv A outer s H E e).ex;exact⟨t,g (),h⟩
end
end L2
namespace HT
open PySem PyProof.Rows PySem.Spec
section
variable{prog:Ue}{w:World}{A:Uf}{E:T0}{s:Ub}
def getItem_tuple_whole{lo:Tk}{Q:T0}(ht:IsTup s.heap t items)(hs:s.heap.IsSliceOf sl vl e .none)(g:IsPart vl lo)(i:IsPart e hi)
 (f:sIx items.size 0 lo=0/\sIx items.size items.size hi=items.size) (h:Q (.ref t) s):bz (bx prog w) A (getItem (.ref t) (.ref sl)) Q E s:=by
 let⟨os,b,c,hds⟩:=id hs;have d:s.TypeIs (.ref sl) "slice":=⟨os,b,c⟩;unfold getItem
 try with_reducible refine E7 ?_
 first|refine A1 (A4 ?_)|skip
 refine A1<|wpAny_sequenceKey ht.typeIs 66 ?_
 refine A1 (J9 ht.typeIs U6
  (F7 U6 ht.typeIs entry_tuple_getitem ?_ (args_tuple_getitem _ _)))
 show bz _ _ (Builtin.Tuple.tupleItemsOf (.ref t) >>= _) _ _ s;refine A1<|tupleItemsOf_ ht ?_;refine A1<|A1e d ?_;refine A1<|pP hs g i ?_
 have a:(((sIx items.size 0 lo:Nat):Int)==0&&(1:Int)==1&&(sIx items.size items.size hi-sIx items.size 0 lo)==items.size)=true:=by
  rw[f.1,f.2];simp
 show bz _ _ (if (((sIx items.size 0 lo:Nat):Int)==0&&(1:Int)==1&&(sIx items.size items.size hi-sIx items.size 0 lo)==items.size)=true then _ else _) _ _ s;rw[A8 a];refine A1 ?_;refine A1<|A1e ht.typeIs<|A4 ?_;exact A1<|A0v<|A4 ⟨_,rfl,A4 h⟩
end
end HT
namespace L2
variable{W:Wd}{M:Sto}{H:Hp}{K:Fg}{apos cpos pos:Pos}
open PySem PySem.Spec PyProof.Rows
def aQe(K:Fg):V->Tk->Tk->Hp->VK->Prop:=λx lo hi H Q=>∃a xs,x=.ref a/\SqT K H a xs/\(HT.sIx xs.length 0 lo=0/\HT.sIx xs.length xs.length hi=xs.length)/\Q (.ref a) H
def aDs:SlR X (aQe X.K):=by
 intro cp s g H x v vl i lo hi sl Q I c hs d e h;let⟨a,xs,rfl,f,j,q⟩:=h;cases c;let⟨its,r,ht,k⟩:=I.tuple f;have b:its.toArray.size=xs.length:=by rw[F4];exact r.length.symm
 refine⟨"tuple",_,PyProof.Rows.slot_tuple_getitem.lookup,ht.typeIs,?_⟩;exact HT.getItem_tuple_whole ht hs d e 68 ⟨.ref a,H,I,rfl,q⟩
def fH{a:Type}(xs:Tv a)(lo hi:Tk):Tv a:=(xs.drop<|HT.sIx xs.length 0 lo).take (HT.sIx xs.length xs.length hi-HT.sIx xs.length 0 lo)
abbrev OF:=Ga->Sto->Tx (Tk×Sto)
def gJ:OF:=λ_ M=>Z (Y,M)
def asI:CD->Tk
 |.d (.int i)=>Z i
 |_=>Y
def iL(f:EF):OF:=λa M=>(f a M).bind λr=>(asI r.1).bind λi=>Z (Z i,r.2)
def slF(x:CD)(lo hi:Tk)(M:Sto):Tx (CD×Sto):=match x with
 |.d (.list ds)=>Z (.d (.list (fH ds lo hi)),M)
 |.d (.tuple ds)=>Z (.d (.tuple (fH ds lo hi)),M)
 |.c i=>match M[i]? with
  |some (.lst xs)=>(kI<|fH xs lo hi).bind λds=>Z (.d (.list ds),M)
  |_=>Y
 |_=>Y
def fSl(f:EF)(l u:OF):EF:=λa M=>(f a M).bind λr=>(l a r.2).bind λp=>(u a p.2).bind λq=>slF r.1 p.1 q.1 q.2
def aMB(K:Fg):V->Tk->Tk->Hp->VK->Prop:=λx lo hi H Q=>aOY K x lo hi H Q\/aPM K x lo hi H Q\/aQe K x lo hi H Q
def kSl{X:Cx}(h:X.K=K):SlR X (aMB K):=by subst h;exact sl_list.or<|sl_tup.or aDs
section
variable{K:Fg}
def SO(K:Fg)(t:TO)(f:OF):Prop:=∀a M b M',f a M=Z (b,M')->∀(W:Wd)(H:Hp)(c:St)(Q:Tk->Hp->Prop),Good K W M H->bX K W a c->(∀W' H',W.Ext W'->Good K W' M' H'->Q b H')->t c H Q
def aHh:SO K aAd gJ:=by
 intro b M x M' a W H c Q G R k;cases a;exact k W H (.refl _) G
def aNK{i:Int}(h:asI x=Z i):x=.d (.int i):=by
 cases x with
 |c n=>cases h
 |t n=>cases h
 |f n=>cases h
 |g _=>cases h
 |d x=>cases x<;>first|cases h;rfl|cases h
def aGo{c:TE}{f:EF}(a:SE K c f):SO K (aJy c) (iL f):=by
 intro p M x M' b W H d Q G R k;let⟨⟨y,M1⟩,e,b⟩:=aH b;let⟨i,g,b⟩:=aH b;cases b;refine a _ _ _ _ e W H d _ G R λv h j l m n=>?_;have o:=aNK g;subst o;exact⟨i,n,k h j l m⟩
theorem aL.drop{H:Hp}:∀{ds:T3}{vs:Td}(n:Nat),aL K H ds vs->aL K H (ds.drop n) (vs.drop n)
 |_,_,0=>λh=>h
 |[],vs,n+1=>λh=>by rw[show vs=[]from h];rfl
 |d::ds,vs,n+1=>λh=>by
  let⟨v,r,rfl,_,a⟩:=h;exact aL.drop n a
theorem aL.take{H:Hp}:∀{ds:T3}{vs:Td}(n:Nat),aL K H ds vs->aL K H (ds.take n) (vs.take n)
 |_,_,0=>λh=>rfl
 |[],vs,n+1=>λh=>by rw[show vs=[]from h];rfl
 |d::ds,vs,n+1=>λh=>by
  let⟨v,r,rfl,a,b⟩:=h;exact⟨v,r.take n,rfl,a,aL.take n b⟩
def aL.cut(h:aL K H ds vs)(lo hi:Tk):aL K H (fH ds lo hi) (PL vs lo hi):=by
 unfold fH PL;rw[h.length];exact(h.drop _).take _
theorem EJ{a b:Type}{R:a->b->Prop}:∀{xs:Tv a}{ys:Tv b}(n:Nat),Paired R xs ys->Paired R (xs.drop n) (ys.drop n)
 |_,_,0,h=>h
 |_,_,_+1,.nil=>.nil
 |_,_,n+1,.cons _ t=>EJ n t
theorem wL{a b:Type}{R:a->b->Prop}:∀{xs:Tv a}{ys:Tv b}(n:Nat),Paired R xs ys->Paired R (xs.take n) (ys.take n)
 |_,_,0,h=>.nil
 |_,_,_+1,.nil=>.nil
 |_,_,n+1,.cons r t=>.cons r (wL n t)
def aBS{xs:T5}{vs:Td}(h:bQ K W xs vs)(lo hi:Tk):bQ K W (fH xs lo hi) (PL vs lo hi):=by
 unfold fH PL;rw[Paired.len h];exact wL _<|EJ _ h
def aDg{x:CD}{lo hi:Tk}{z:CD}{M':Sto}(h:slF x lo hi M=Z (z,M')){v:V}{Q:VK}(G:Good K W M H)(g:bW K W x v)(k:∀w W' H',W.Ext W'->Good K W' M' H'->bW K W' z w->Q w H'):aMB K v lo hi H Q:=by
 unfold slF at h;split at h
 .rename_i ds;cases h;let⟨p,us,rfl,c,a⟩:=g;refine .inl ⟨p,us,rfl,G.fh.seq c,λl d=>?_⟩;let⟨b,G2⟩:=G.lay d;exact k _ _ _ b G2 ⟨l,_,rfl,SqL.of aS,aL.same b.ff _ _<|a.cut lo hi⟩
 .rename_i ds;cases h;let⟨p,us,rfl,c,a⟩:=g;by_cases f:HT.sIx us.length 0 lo=0/\HT.sIx us.length us.length hi=us.length
  .refine .inr (.inr ⟨p,us,rfl,G.fh.seqT c,f,?_⟩)
   have e:fH ds lo hi=ds:=by
    unfold fH;rw[a.length,f.1,f.2,<- a.length];simp
   rw[e]at k;exact k _ W H (.refl _) G ⟨p,us,rfl,c,a⟩
  .refine .inr (.inl ⟨p,us,rfl,G.fh.seqT c,f,λl d=>?_⟩);let⟨b,G2⟩:=G.lay d;exact k _ _ _ b G2 ⟨l,_,rfl,SqT.of aS,aL.same b.ff _ _<|a.cut lo hi⟩
 .rename_i i;split at h
  .rename_i xs j;let⟨ds,m,h⟩:=aH h;cases h;let⟨us,n,a⟩:=G.lstAt j;rw[g.2];refine .inl ⟨_,us,rfl,SqL.of n,λl d=>?_⟩;let⟨b,G2⟩:=G.lay d;exact k _ _ _ b G2 ⟨l,_,rfl,SqL.of aS,aL.same b.ff _ _<|eT m<|aBS a lo hi⟩
  .cases h
 .cases h
def aPi{i:TE}{f:EF}{j th:TO}{l u:OF}(a:SE K i f)(b:SO K j l)(c:SO K th u):SE K (tSl (aMB K) i j th) (fSl f l u):=by
 intro J M x M' d W H e Q G R k;let⟨⟨y,M1⟩,n,d⟩:=aH d;let⟨⟨p,M2⟩,o,d⟩:=aH d;let⟨⟨q,L⟩,r,d⟩:=aH d;refine a _ _ _ _ n W H e _ G R λv s t g z A=>?_;refine b _ _ _ _ o s t e _ z (R.up g) λB C h G2=>?_;refine c _ _ _ _ r B C e _ G2 (R.up<|g.trans h) λN O m G3=>?_;exact aDg d G3 (A.up<|h.trans m) λw D E F G4 I=>k w D E (((g.trans h).trans m).trans F) G4 I
def intF:FN:=λxs M=>match xs with
 |[.d (.int i)]=>Z (.d (.int i),M)
 |[.d (.bool b)]=>Z (.d (.int (if b then 1 else 0)),M)
 |_=>Y
noncomputable def tyB(T:String)(M:Sto):CD->Bool
 |.d (.list _)=>T=="list"
 |.d (.str _)=>T=="str"
 |.c i=>match M[i]? with
  |some (.lst _)=>T=="list"
  |some (.dk _)=>T=="dict"
  |some (.dt _)=>T=="dict"
  |_=>false
 |_=>false
def aCd(h:tyB T M x=true)(G:Good K W M H)(r:bW K W x v):tyV K T v H:=by
 unfold tyB at h;split at h
 .rename_i ds;let⟨p,us,rfl,d,e⟩:=r;exact .inl ⟨eq_of_beq h,us,G.fh.seq d⟩
 .rename_i x;rw[show v=.str x from r];exact eq_of_beq h
 .rename_i i;rw[r.2];split at h
  .rename_i xs a;let⟨us,f,e⟩:=G.lstAt a;exact .inl ⟨eq_of_beq h,us,SqL.of f⟩
  .rename_i kvs a;let⟨_,o,b,c⟩:=G.cs i _ a 67;cases o with
   |dK us=>exact .inr (.inr (.inl ⟨eq_of_beq h,.inl ⟨us,b⟩⟩))
   |_=>exact False.elim c
  .rename_i kvs a;let⟨_,o,b,c⟩:=G.cs i _ a 67;cases o with
   |dT us=>exact .inr (.inr (.inl ⟨eq_of_beq h,.inr ⟨us,b⟩⟩))
   |_=>exact False.elim c
  .cases h
 .cases h
abbrev FM:=CD->T5->Sto->Tx (CD×Sto)
def fS(T:String)(h:FM)(f:EF)(fa:AF):EF:=λa M=>(f a M).bind λr=>if tyB T r.2 r.1=true then(fa a r.2).bind λq=>h r.1 q.1 q.2 else Y
def PM(K:Fg)(r:V->Td->Hp->VK->Prop)(f:FM):Prop:=∀x xs M z M',f x xs M=Z (z,M')->∀(W:Wd)(H:Hp)(v:V)(vs:Td)(Q:VK),Good K W M H->bW K W x v->bQ K W xs vs->(∀w W' H',W.Ext W'->Good K W' M' H'->bW K W' z w->Q w H')->r v vs H Q
def aHX{T:String}{r:V->Td->Hp->VK->Prop}{h:FM}{d:TE}{f:EF}{e:TA}{fa:AF}(p:PM K r h)(a:SE K d f)(b:SA K e fa):SE K (tBM K T r d e) (fS T h f fa):=by
 intro E M x M' c W H g Q G R k;let⟨⟨y,M1⟩,n,c⟩:=aH c;by_cases hT:tyB T M1 y=true
 .have c:=c;rw[A8 hT]at c;let⟨⟨F,M2⟩,o,c⟩:=aH c;refine a _ _ _ _ n W H g _ G R λv q s i j l=>⟨aCd hT j l,?_⟩;refine b _ _ _ _ o q s g _ j (R.up i) λvs t u m G2 z=>?_;exact p _ _ _ _ _ c t u v vs Q G2 (l.up m) z λw A B C G3 D=>k w A B ((i.trans m).trans C) G3 D
 .have c:=c;rw[B7 hT]at c;cases c
def RQ{T:String}{r:V->Td->Hp->VK->Prop}{h:FM}{c:TE}{f:EF}(p:PM K r h)(a:SE K c f):SE K (aPO K T r c) (fS T h f aN):=by
 intro t M x M' b W H g Q G R k;let⟨⟨y,M1⟩,i,b⟩:=aH b;by_cases hT:tyB T M1 y=true
 .rw[A8 hT]at b;refine a _ _ _ _ i W H g _ G R λv j l m d e=>⟨aCd hT d e,?_⟩;exact p _ _ _ _ _ b j l v [] Q d e .nil λw n o q G3 s=>k w n o (m.trans q) G3 s
 .rw[B7 hT]at b;cases b
def eZ:FM:=λx a M=>match x,a with
 |.c i,[y]=>match M[i]? with
  |some (.lst xs)=>if xs.length<bv then Z (.d .none,M.set i (.lst (xs++[y])))else Y
  |_=>Y
 |_,_=>Y
def aAH:PM K ZJ eZ:=by
 intro x g M z M' h W H v vs Q G d rs k;unfold eZ at h;split at h
 .rename_i i y;split at h
  .rename_i xs b;by_cases a:xs.length<bv
   .rw[A8 a]at h;cases h;let⟨us,e,c⟩:=G.lstAt b;obtain _|⟨f,_|_⟩:=rs;refine⟨W.α i,us,_,d.2,rfl,e,by rw[<- Paired.len c];exact a,?_⟩;exact k _ W _ (.refl _) (G.set b 67<|Paired.app c (.cons f .nil)) rfl
   .rw[B7 a]at h;cases h
  .cases h
 .cases h
def FB:FM:=λx a M=>match x,a with
 |.c i,[]=>match M[i]? with
  |some (.lst xs)=>(xs[xs.length-1]?).bind λy=>Z (y,M.set i (.lst xs.dropLast))
  |_=>Y
 |_,_=>Y
def GK{a b:Type}{R:a->b->Prop}{xs:Tv a}{ys:Tv b}(h:Paired R xs ys):Paired R xs.dropLast ys.dropLast:=by
 rw[List.dropLast_eq_take,List.dropLast_eq_take,Paired.len h];exact wL _ h
def aNr:PM K aPB FB:=by
 intro x j M z M' h W H v vs Q G c rs k;unfold FB at h;split at h
 .rename_i i;split at h
  .rename_i xs b;let⟨y,d,h⟩:=aH h;cases h;let⟨us,e,a⟩:=G.lstAt b;let⟨u,f,g⟩:=Paired.get a d;cases rs;refine⟨W.α i,us,u,c.2,rfl,e,by rw[<- Paired.len a];exact f,?_⟩;exact k _ W _ (.refl _) (G.set b 67<|GK a) g
  .cases h
 .cases h
end
section
variable{ι:Type}{K:Fg}{X:ι->Cx}{a b c e o:Ud}{es:T8}{f g h:EF}{fa:AF}{pos:Pos}
structure MO(K:Fg)(X:ι->Cx)(e:Tx Ud)(f:OF):Prop where
 ex:∃t,(∀i,PO (X i) e t)/\SO K t f
def nO:MO K X Y gJ:=⟨_,λ_=>aHk,aHh⟩
def jY(x:ME K X e f):MO K X (Z e) (iL f):=by
 let⟨t,d,j⟩:=x.ex;exact⟨_,λi=>aHJ<|d i,aGo j⟩
def BJ{lo:Tx Ud}(d:∀i,(X i).K=K)(x:ME K X a f)(y:MO K X lo l)(z:MO K X hi u):ME K X (.Subscript a (.Slice lo hi Y p2) pos) (fSl f l u):=by
 let⟨t,j,k⟩:=x.ex;let⟨s,m,n⟩:=y.ex;let⟨p,q,r⟩:=z.ex;exact⟨_,λi=>aDX (kSl<|d i) (j i) (m i)<|q i,aPi k n r⟩
def lO(d:∀i,(X i).K=K)(x:ME K X o f)(y:MA K X [e] fa)(j:∀env:Env,attributeBase o "append" env (eval o env)=eval o env:=by intro _;rfl)(k:(apos.endLine==cpos.line)=true:=by rfl):
 ME K X (.Call (.Attribute o "append" apos) [e] [] cpos) (fS "list" eZ f fa):=by
 let⟨t,l,m⟩:=x.ex;let⟨u,n,p⟩:=y.ex;refine⟨_,λi=>?_,aHX aAH m p⟩;have:=aQa F.plainAttrs_list F.slot_list_append F.type_list_append aBx (l i) (n i) (j _) (by rw[y.st.1];rfl) k (y.st.1 _)<|y.st.2.plain _ _;rw[d i]at this;exact this
def iP(d:∀i,(X i).K=K)(x:ME K X o f)(j:∀env:Env,attributeBase o "pop" env (eval o env)=eval o env:=by intro _;rfl)(k:(apos.endLine==cpos.line)=true:=by rfl):
 ME K X (.Call (.Attribute o "pop" apos) [] [] cpos) (fS "list" FB f aN):=by
 let⟨t,l,m⟩:=x.ex;refine⟨_,λi=>?_,RQ aNr m⟩;have:=aDb F.plainAttrs_list F.slot_list_pop F.type_list_pop aLP (l i) (j _) k;rw[d i]at this;exact this
end
def aJZ(K:Fg):Td->Hp->VK->Prop:=λxs H Q=>∃x d,xs=[x]/\Rep K H d x/\d.showable=true/\d.depth<=64/\d.shown.length<=bv/\Q (.str d.shown) H
def aPb{X:Cx}(g:X.K=K)(j:X.A.guards=Z [])(n:X.A.units+200<cLine):dH X (.builtin "repr") (aJZ K):=by
 subst g;intro cp s k H xs us Q I r h;let⟨x,d,rfl,hd,hs,o,f,q⟩:=h;let⟨u,rfl,c⟩:=vals1 r
 have big:∀a,u=.ref a->bz (bx X.prog X.w) X.A (call (.builtin "repr") [u]) (EP X cp k Q) X.xe s:=λa e=>by
  subst e;let⟨as,l,hn⟩:=Rep.reads' I d x _ hd c;exact repr_of_reads' l hs (λ_=>hn) j 61 (λ_ _ e=>e) (λh' p v m=>⟨.str d.shown,H,I.kept m,⟨_,rfl⟩,q⟩) f
 cases d with
 |none=>
  rw[show x=.non from hd]at c;cases c;exact PySem.P.repr_of_none ⟨.str _,H,I.tok _,⟨_,rfl⟩,q⟩
 |bool b=>
  rw[show x=.bl b from hd]at c;cases c;refine PySem.P.repr_of_bool ⟨.str _,H,I.tok _,⟨_,rfl⟩,?_⟩;cases b<;>exact q
 |int i=>
  rw[show x=.int i from hd]at c;let⟨t,rfl⟩:=c;exact PySem.P.repr_of_int (C8 hs) ⟨.str _,H,I.tok _,⟨_,rfl⟩,q⟩
 |str y=>
  rw[show x=.str y from hd]at c;let⟨t,rfl⟩:=c;exact PySem.P.repr_of_str ⟨.str _,H,I.tok _,⟨_,rfl⟩,q⟩ f
 |list ds=>let⟨a,vs,e,_,_⟩:=hd;subst e;exact big a c
 |tuple ds=>let⟨a,vs,e,_,_⟩:=hd;subst e;exact big a c
 |dict ds=>let⟨a,vs,e,_,_⟩:=hd;subst e;exact big a c
noncomputable def uY(d:Ua):Bool:=d.showable&&decide (d.depth<=64)&&decide (d.shown.length<=bv)
def ZE:FN:=λxs M=>match xs with
 |[.d x]=>if uY x=true then Z (.d (.str x.shown),M)else Y
 |_=>Y
def cM.u200(r:cM k A):A.units+200<cLine:=by have:=r.un;omega
def Def.okNone{P:Ue}{st:Stmt}{ps:Tc}{k:Nat}(D:Def K mg x st)(S:aT N ps (aI st))
 (b:∀(kV doc pm:Tz)(an:Th)(cdv ct:Tz)(us:T4),us.length=ps.length->bindArgs (PySem.W.fnOf x x (eK st) (bU st) (aI st) .none kV doc pm an cdv ct) ⟨us,[]⟩=pure (ps.zip us)):
 Callee P w K mg base (k+1) x ps (spM K λ_ _=>Y):=by
 refine D.ok S b (λvs H Q E h=>?_) λf cdv A outer s H vs Q E c h=>?_
 .let⟨xs,M,W,y,M',G,R,a,_⟩:=h;cases a
 .let⟨xs,M,W,y,M',G,R,a,_⟩:=h;cases a
def Good.freeze(g:Good K W M H){i:Nat}{c:Cell}{o':HO}(hi:M[i]?=Z c)(l:c≠.dead):
 W.Ext { W with F:=upd W.F (W.α i) o' }/\Good K { W with F:=upd W.F (W.α i) o' } (M.set i .dead) (upd H (W.α i) o'):=by
 let⟨w,o,m,p⟩:=g.cs i c hi l;have lt:=(B9.mp hi).1;have e:W.Ext { W with F:=upd W.F (W.α i) o' }:=⟨jA.upd w,B3 _,λ_ _=>rfl⟩
 have at_:∀j d,(M.set i .dead)[j]?=Z d->d≠.dead->j≠i/\M[j]?=Z d:=λj d h hd=>by
  by_cases q:i=j
  .subst q;rw[F0 lt]at h;exact absurd (E5 h).symm hd
  .rw[F6 q]at h;exact⟨λz=>q z.symm,h⟩
 refine⟨e,?_,by show W.n=_;rw[g.n,Z6],λj d f hd=>?_,λj k r s f x t v y=>?_,(g.tb.updF λps z=>p.nt.1 ps<|E5<|m.symm.trans z).cell m p⟩
 .intro b u a;have a:upd W.F (W.α i) o' b=Z u:=a;by_cases q:b=W.α i
  .subst q;rw[aS]at a;rw[aS];exact a
  .rw[aO q]at a;rw[aO q];exact g.fh b u a
 .let⟨q,h⟩:=at_ j d f hd;let⟨A,u,B,C⟩:=g.cs j d h hd;have ne:=λz=>q<|g.inj j i d c h hi hd l z;exact⟨by show upd W.F (W.α i) o' (W.α j)=Y;rw[aO ne];exact A,u,by rw[aO ne];exact B,C.up e⟩
 .exact g.inj j k r s (at_ j r f t).2 (at_ k s x v).2 t v y
def FC:EF:=λ_ M=>Z (.d (.dict []),M)
def aDm:SE K aEJ FC:=by
 intro d M x M' a W H e Q G R k;cases a;intro p b;let⟨c,G2⟩:=G.lay b;exact k _ _ _ c G2 ⟨p,[],rfl,aS,rfl⟩
def LX:Tv (EF×EF)->Ga->Sto->Tx (Tv (CD×CD)×Sto)
 |[],_,M=>Z ([],M)
 |(f,g)::r,c,M=>(f c M).bind λa=>(g c a.2).bind λb=>(LX r c b.2).bind λq=>Z ((a.1,b.1)::q.1,q.2)
def keyOf:CD->Tx Key
 |.d (.int i)=>Z (.inl i)
 |.d (.str x)=>Z (.inr x)
 |_=>Y
def keyed:Tv (CD×CD)->Tx (Tv (Key×Ua))
 |[]=>Z []
 |(k,.d x)::r=>(keyOf k).bind λa=>(keyed r).bind λq=>Z ((a,x)::q)
 |_=>Y
def JZ(fs:Tv (EF×EF)):EF:=λa M=>(LX fs a (M++[.dk []])).bind λr=>match r.2[M.length]? with
 |some (.dk [])=>(keyed r.1).bind λkvs=>if kvs.length<=15/\(kvs.map (·.1)).Nodup then Z (.d (.dict (kvs.map λp=>(yS p.1,p.2))),r.2.set M.length .dead)else Y
 |_=>Y
section
variable{K:Fg}
def SPs(K:Fg):Tv (TE×TE)->Tv (EF×EF)->Prop:=Paired λt f=>SE K t.1 f.1/\SE K t.2 f.2
theorem aEL:∀{ts:Tv (TE×TE)}{fs:Tv (EF×EF)},SPs K ts fs->∀{γ:Ga}{M:Sto}{xs:Tv (CD×CD)}{M':Sto},LX fs γ M=Z (xs,M')->∀{W:Wd}{H:Hp}{c:St}{Q:Tv (V×V)->Hp->Prop},Good K W M H->bX K W γ c->
 (∀vs W' H',W.Ext W'->Good K W' M' H'->Paired (λa b=>bW K W' a.1 b.1/\bW K W' a.2 b.2) xs vs->Q vs H')->MR ts c H Q
 |_,_,.nil,γ,M,xs,M',h,W,H,c,Q,G,R,k=>by
  cases h;exact k [] W H (.refl _) G .nil
 |_,_,.cons s1 s2,γ,M,xs,M',h,W,H,c,Q,G,R,k=>by
  let⟨⟨a,M1⟩,g,h⟩:=aH h;let⟨⟨b,M2⟩,i,h⟩:=aH h;let⟨⟨q,w⟩,j,h⟩:=aH h;cases h;refine s1.1 _ _ _ _ g W H c _ G R λv l m d n o=>?_;refine s1.2 _ _ _ _ i l m c _ n (R.up d) λu x y e G2 p=>?_;refine aEL s2 j G2 (R.up<|d.trans e) λvs r s f G3 t=>?_;exact k _ r s ((d.trans e).trans f) G3 (.cons ⟨o.up<|e.trans f,p.up f⟩ t)
def zZ{k:Key}(h:keyOf x=Z k)(r:bW K W x v):v=kV k:=by
 unfold keyOf at h;split at h
 .cases h;exact r
 .cases h;exact r
 .cases h
theorem JI{W:Wd}:∀{xs:Tv (CD×CD)}{kvs:Tv (Key×Ua)}{vs:Tv (V×V)},keyed xs=Z kvs->Paired (λa b=>bW K W a.1 b.1/\bW K W a.2 b.2) xs vs->
 ∃us:Tv (Key×V),vs=us.map (λp=>(kV p.1,p.2))/\us.map (·.1)=kvs.map (·.1)/\pR K W.F (kvs.map λp=>(yS p.1,p.2)) us
 |[],kvs,vs,h,r=>by
  cases h;cases r;exact⟨[],rfl,rfl,rfl⟩
 |(k,.c _)::_,kvs,vs,h,r=>by cases h
 |(k,.d x)::xs,kvs,vs,h,r=>by
  let⟨e,g,h⟩:=aH h;let⟨q,i,h⟩:=aH h;cases h;cases r with
  |@cons _ b _ j f l=>
   let⟨us,m,n,o⟩:=JI i l;refine⟨(e,b.2)::us,?_,?_,e,b.2,us,rfl,rfl,f.2,o⟩
   .rw[C6,<- m,<- zZ g f.1]
   .rw[C6,C6,n]
theorem JE:∀(more acc:Tv (Key×V)),((acc++more).map (·.1)).Nodup->uN acc more=acc++more
 |[]=>λacc _=>by simp[uN]
 |p::more=>λacc h=>by
  have hn:jO acc p.1=Y:=by
   unfold jO;rw[Option.map_eq_none_iff,List.find?_eq_none];intro x a hd;have:x.1=p.1:=C8 hd;rw[E3,Y3]at h;exact h.2.2 x.1 (A2j a) p.1 67 this
  show uN (putK acc p.1 p.2) more=_;rw[aCW _ hn,JE more _ 68,L7];rfl
def aIe(sp:SPs K ts fs):SE K (aJY ts) (JZ fs):=by
 intro z M x M' a W H A Q G R k;let⟨⟨xs,M1⟩,j,a⟩:=aH a;intro p l;have m:=G.new l (c:=.dk []) (o:=.dK []) .nil;have d:=W.ext_more p;refine aEL sp j m (R.up d) λvs q B e G2 r=>?_;split at a
 .rename_i f;let⟨kvs,s,a⟩:=aH a;by_cases g:kvs.length<=15/\(kvs.map (·.1)).Nodup
  .rw[A8 g]at a;cases a
   have al:q.α M.length=p:=by
    rw[e.al M.length (by show M.length<W.n+1;rw[G.n];exact Y8 _)];show(if M.length=W.n then p else _)=p;rw[A8 G.n.symm]
   let⟨_,o,h,i⟩:=G2.cs _ _ f 67;rw[al]at h
   have t:o=.dK []:=by
    cases o with
    |dK us=>cases i;rfl
    |_=>exact False.elim i
   subst t;let⟨us,u,v,w⟩:=JI s r;have nd:(us.map (·.1)).Nodup:=68
   have y:us.length<=15:=by
    have:=Z7 List.length v;rw[A6,A6]at this;omega
   refine⟨h,us,u,y,?_⟩;rw[JE us [] 68,A1o];let⟨b,G3⟩:=G2.freeze f 67;rw[al]at b G3;exact k _ _ _ ((d.trans e).trans b) G3 ⟨p,us,rfl,aS,pR.same b.ff _ _ w⟩
  .rw[B7 g]at a;cases a
 .cases a
end
section
variable{ι:Type}{K:Fg}{X:ι->Cx}
structure MD(K:Fg)(X:ι->Cx)(pos:Pos)(ks:Tv (Tx Ud))(vs:T8)(fs:Tv (EF×EF)):Prop where
 ex:∃ts,(∀i,PPs (X i) pos ks vs ts)/\SPs K ts fs
def aNs:MD K X pos [] [] []:=⟨_,λ_=>aIB,.nil⟩
def aGz{v:Ud}{f:EF}(x:ME K X k f)(y:ME K X v g)(z:MD K X pos ks vs fs):MD K X pos (Z k::ks) (v::vs) ((f,g)::fs):=by
 let⟨t,a,b⟩:=x.ex;let⟨u,c,d⟩:=y.ex;let⟨o,e,h⟩:=z.ex;exact⟨_,λi=>aEf (a i) (c i)<|e i,.cons ⟨b,d⟩ h⟩
def aGU(x:MD K X pos ks vs fs)(a:ks.all (·.isSome)=true:=by rfl)(c:ks.length=vs.length:=by rfl)(d:ks≠[]:=by simp)(b:ks.length<=15:=by simp):ME K X (.Dict ks vs pos) (JZ fs):=by
 let⟨t,e,f⟩:=x.ex;exact⟨_,λi=>aGy (e i) a c d b,aIe f⟩
def aFr:ME K X (.Dict [] [] pos) FC:=⟨_,λ_=>aDr,aDm⟩
end
mutual
noncomputable def wt:Ua->Nat
 |.none=>4
 |.bool _=>5
 |.int _=>2000
 |.str x=>(reprText x).length
 |.list xs=>mS xs+3
 |.tuple xs=>mS xs+3
 |.dict kvs=>aBc kvs+3
noncomputable def mS:T3->Nat
 |[]=>0
 |x::xs=>wt x+2+mS xs
noncomputable def aBc:Tv (Ua×Ua)->Nat
 |[]=>0
 |(k,v)::r=>wt k+wt v+4+aBc r
end
mutual
noncomputable def oks:Ua->Bool
 |.none=>true
 |.bool _=>true
 |.int i=>decide (i.natAbs<2 ^ 1900)
 |.str _=>true
 |.list xs=>oV xs
 |.tuple xs=>oV xs
 |.dict kvs=>JN kvs
noncomputable def oV:T3->Bool
 |[]=>true
 |x::xs=>oks x&&oV xs
noncomputable def JN:Tv (Ua×Ua)->Bool
 |[]=>true
 |(k,v)::r=>oks k&&oks v&&JN r
end
def aIX{i:Int}(h:i.natAbs<2 ^ 1900):i.natAbs.log2<1900:=by
 by_cases a:i.natAbs=0
 .rw[a];decide +kernel
 .exact(Nat.log2_lt a).mpr h
def aHZ{i:Int}(h:i.natAbs<2 ^ 1900):((toString i:String):Str).length<=2000:=by
 have a:=int_text_length_le (k:=1900) 66<|aIX h;show(Str.ofString<|toString i).length<=2000;rw[PySem.ofString_length];omega
mutual
theorem shown_le:∀d:Ua,oks d=true->d.shown.length<=wt d
 |.none=>λ_=>66
 |.bool b=>λ_=>by cases b<;>decide
 |.int i=>λh=>aHZ<|C8 h
 |.str x=>λ_=>B3 _
 |.list xs=>λh=>by
  have:=shownAll_le xs h;have a:=listText_len_le<|PyData.shownAll xs;show(listText<|PyData.shownAll xs).length<=mS xs+3;omega
 |.tuple xs=>λh=>by
  have:=shownAll_le xs h;have a:=tupleText_len_le<|PyData.shownAll xs;show(tupleText<|PyData.shownAll xs).length<=mS xs+3;omega
 |.dict kvs=>λh=>by
  have:=shownKv_le kvs h;have a:=dictText_len_le<|PyData.shownKv kvs;show(dictText<|PyData.shownKv kvs).length<=aBc kvs+3;omega
theorem shownAll_le:∀xs:T3,oV xs=true->((PyData.shownAll xs).map (·.length)).sum+2*(PyData.shownAll xs).length<=mS xs
 |[]=>λ_=>by simp[PyData.shownAll,mS]
 |x::xs=>λh=>by
  unfold oV at h;rw[A9]at h;have c:=shown_le x h.1;have a:=shownAll_le xs h.2;simp only[PyData.shownAll,mS,C6,A1m,D8];omega
theorem shownKv_le:∀kvs:Tv (Ua×Ua),JN kvs=true->((PyData.shownKv kvs).map (·.length)).sum+2*(PyData.shownKv kvs).length<=aBc kvs
 |[]=>λ_=>by simp[PyData.shownKv,aBc]
 |(k,v)::r=>λh=>by
  unfold JN at h;rw[A9,A9]at h;have c:=shown_le k h.1.1;have a:=shown_le v h.1.2;have f:=shownKv_le r h.2
  have e:(PyData.shown k++": "++PyData.shown v).length=(PyData.shown k).length+2+(PyData.shown v).length:=by
   rw[strLen_append,strLen_append];rfl
  simp only[PyData.shownKv,aBc,C6,A1m,D8,e];omega
end
mutual
theorem nW:∀d:Ua,oks d=true->d.showable=true
 |.none=>65
 |.bool _=>65
 |.int i=>λh=>by
  have h:i.natAbs<2 ^ 1900:=C8 h;refine B8 ?_;by_cases a:i.natAbs=0
  .rw[a];decide +kernel
  .exact A0p ((Nat.log2_lt a).mpr h) 66
 |.str _=>65
 |.list xs=>λh=>showableAll_of xs h
 |.tuple xs=>λh=>showableAll_of xs h
 |.dict kvs=>λh=>showableKv_of kvs h
theorem showableAll_of:∀xs:T3,oV xs=true->PyData.showableAll xs=true
 |[]=>65
 |x::xs=>λh=>by
  unfold oV at h;rw[A9]at h;show(PyData.showable x&&PyData.showableAll xs)=true;rw[nW x h.1,showableAll_of xs h.2];rfl
theorem showableKv_of:∀kvs:Tv (Ua×Ua),JN kvs=true->PyData.showableKv kvs=true
 |[]=>65
 |(k,v)::r=>λh=>by
  unfold JN at h;rw[A9,A9]at h;show(PyData.showable k&&PyData.showable v&&PyData.showableKv r)=true;rw[nW k h.1.1,nW v h.1.2,showableKv_of r h.2];rfl
end
structure Fit(n m:Nat)(d:Ua):Prop where
 ok:oks d=true
 wt:wt d<=n
 dp:d.depth<=m
def Fit.shown(f:Fit n m d)(hn:n<=bv:=by decide)(hm:m<=64:=by decide):uY d=true:=by
 unfold uY;rw[nW d f.ok,B8<|C5 f.dp hm,B8<|C5 (C5 (shown_le d f.ok) f.wt) hn];rfl
def RU(f:Fit n m d)(hn:n<=bv:=by decide)(hm:m<=64:=by decide):ZE [.d d] M=Z (.d (.str d.shown),M):=by
 unfold ZE;dsimp only;rw[A8 (f.shown hn hm)]
noncomputable def UX(f:Str)(v:CD):Tu->Tu
 |[]=>[(f,v)]
 |(g,x)::r=>if g=f then(g,v)::r else(g,x)::UX f v r
section
variable{K:Fg}
theorem SJ{W:Wd}(r:bW K W x v):∀{fs:Tu}{us:Tv (Str×V)},Paired (λp q=>p.1=q.1/\bW K W p.2 q.2) fs us->Paired (λp q=>p.1=q.1/\bW K W p.2 q.2) (UX f x fs) (qL f v us)
 |_,_,.nil=>.cons ⟨rfl,r⟩ .nil
 |(g,y)::fs,(c,u)::us,.cons h t=>by
  let⟨a,b⟩:=h;subst a;unfold UX qL;by_cases e:g=f
  .rw[A8 e,A8 e];exact .cons ⟨rfl,r⟩ t
  .rw[B7 e,B7 e];exact .cons ⟨rfl,b⟩ (SJ r t)
theorem JD{W:Wd}{x:CD}:∀{fs:Tu}{us:Tv (Str×V)},Paired (λp q=>p.1=q.1/\bW K W p.2 q.2) fs us->fs.lookup f=Z x->∃v,us.lookup f=Z v/\bW K W x v
 |_,_,.nil=>λh=>by cases h
 |(g,y)::fs,(d,u)::us,.cons h t=>λe=>by
  let⟨a,b⟩:=h;subst a;rw[I0]at e ⊢;by_cases q:(f==g)=true
  .rw[q]at e ⊢;cases e;exact⟨u,rfl,b⟩
  .have c:(f==g)=false:=68
   rw[c]at e ⊢;exact JD t e
def Good.objAt{i:Nat}(G:Good K W M H)(h:M[i]?=Z (.obj nm fs)):∃dx us,H (W.α i)=Z (.ins (bI K nm) dx us)/\Paired (λp q=>p.1=q.1/\bW K W p.2 q.2) fs us:=by
 let⟨_,o,b,a⟩:=G.cs i _ h 67;cases o with
 |ins C dx us=>
  let⟨e,p⟩:=a;subst e;exact⟨dx,us,b,p⟩
 |_=>exact False.elim a
def Good.extra(g:Good K W M H)(a:H p=Y):Good K W M (upd H p o):=by
 refine⟨λb u e=>?_,g.n,λi c hi f=>?_,g.inj,g.tb.fresh a⟩
 .have:=g.fh b u e;rw[aO (aX this a)];exact this
 .let⟨h,o',d,j⟩:=g.cs i c hi f;exact⟨h,o',by rw[aO (aX d a)];exact d,j⟩
def objOf(nm:Str)(M:Sto):CD->Tx (Nat×Tu)
 |.c i=>match M[i]? with
  |some (.obj a fs)=>if a=nm then Z (i,fs)else Y
  |_=>Y
 |_=>Y
def SD{i:Nat}{fs:Tu}(h:objOf nm M x=Z (i,fs)):x=.c i/\M[i]?=Z (.obj nm fs):=by
 unfold objOf at h;split at h
 .rename_i j;split at h
  .rename_i a b d;by_cases e:a=nm
   .rw[A8 e]at h;cases h;subst e;exact⟨rfl,d⟩
   .rw[B7 e]at h;cases h
  .cases h
 .cases h
def CV(nm f:Str)(e:EF):EF:=λa M=>(e a M).bind λr=>(objOf nm r.2 r.1).bind λp=>(p.2.lookup f).bind λv=>Z (v,r.2)
def aKR(c:Cls K (bI K nm))(n:jS K (bI K nm) f)(a:SE K g e):SE K (aOl K g f) (CV nm f e):=by
 intro C M x M' b W H l Q G R k;let⟨⟨y,M1⟩,m,b⟩:=aH b;let⟨⟨i,fs⟩,o,b⟩:=aH b;let⟨v,p,b⟩:=aH b;cases b;refine a _ _ _ _ m W H l _ G R λu h q r j s=>?_;let⟨rfl,t⟩:=SD o;let⟨dx,us,z,A⟩:=j.objAt t;let⟨w,B,d⟩:=JD A p;exact⟨h.α i,_,dx,us,w,s.2,z,c,n,B,k w h q r j d⟩
def IX(nm f:Str)(b ev:EF):SF:=λa M=>(ev a M).bind λv=>(b a v.2).bind λo=>(objOf nm o.2 o.1).bind λp=>if p.2.length<1000 then Z (.nx a,o.2.set p.1 (.obj nm (UX f v.1 p.2)))else Y
def aLL(c:Cls K (bI K nm))(n:jS K (bI K nm) f)(a:SE K l p)(b:SE K m ev):SS K (aOu K l m f) (IX nm f p ev):=by
 intro J M o M' d W H e D G R k;let⟨⟨y,M1⟩,t,d⟩:=aH d;let⟨⟨z,M2⟩,w,d⟩:=aH d;let⟨⟨i,fs⟩,x,d⟩:=aH d;by_cases g:fs.length<1000
 .have d:=d;rw[A8 g]at d;cases d;refine b _ _ _ _ t W H e _ G R λv A B h C E=>?_;refine a _ _ _ _ w A B e _ C (R.up h) λu q L j G2 F=>?_;let⟨rfl,r⟩:=SD x;let⟨dx,us,I,s⟩:=G2.objAt r;refine⟨q.α i,_,dx,us,F.2,I,c,n,by rw[<- Paired.len s];exact g,?_⟩;exact k q _ (h.trans j) (G2.set r 67 (o':=.ins (bI K nm) dx (qL f v us)) ⟨rfl,SJ (E.up j) s⟩) e<|R.up<|h.trans j
 .have d:=d;rw[B7 g]at d;cases d
noncomputable def XW:CD->Bool
 |.d .none=>true
 |_=>false
def KL(nm:Str)(h:FN)(fa:AF):EF:=λa M=>(fa a M).bind λr=>(h (.c r.2.length::r.1) (r.2++[.obj nm []])).bind λq=>if XW q.1=true then Z (.c r.2.length,q.2)else Y
def aEH(h:XW x=true):x=.d .none:=by
 cases x with
 |c n=>cases h
 |t n=>cases h
 |f n=>cases h
 |g _=>cases h
 |d x=>cases x<;>first|rfl|cases h
def aIY(b:SA K m fa):SE K (aJN (bI K nm) (spM K h) [] E0 m) (KL nm h fa):=by
 intro I M x M' a W H s Q G R k;let⟨⟨t,M1⟩,u,a⟩:=aH a;let⟨⟨z,M2⟩,w,a⟩:=aH a;by_cases e:XW z=true
 .have a:(if XW z=true then Z (CD.c M1.length,M2)else Y)=Z (x,M'):=a;rw[A8 e]at a;cases (a);have f:=aEH e;subst f;refine b _ _ _ _ u W H s _ G R λvs n y A g B=>?_;intro p dx C i j;rw[J8];have Ga:=g.extra (o:=.own p) i;have l:(upd y dx (.own p)) p=Y:=by rw[aO (Y6 j)];exact C
  have Gb:=Ga.new l (c:=.obj nm []) (o:=.ins (bI K nm) dx []) ⟨rfl,.nil⟩;have q:=n.ext_more p;refine⟨.c M1.length::t,M1++[.obj nm []],n.more p,.d .none,M',Gb,.cons g.newV (bQ.up B q),w,λv D E r G3 F=>⟨F,?_⟩⟩;exact k _ D E ((A.trans q).trans r) G3<|g.newV.up r
 .have a:=a;rw[B7 e]at a;cases a
end
structure LA(P:Ue)(w:World)(K:Fg)(mg:Str->Tf)(base:Heap)(k:Nat)(nm:Str)(ps:Tc)(sp:Sp):Prop where
 ex:∃f fd,mE P w K mg base CX0 k f fd ps sp/\Mk K (bI K nm) f/\Binds K fd ps []/\mg nm=Z (.ref (bI K nm))
section
variable{ι:Type}{K:Fg}{X:ι->Cx}{a b c e o:Ud}{es:T8}{f g h:EF}{fa:AF}{pos:Pos}
def zL(j:∀i,(X i).K=K)(k:Cls K (bI K nm))(hn:jS K (bI K nm) d)(x:ME K X o f)(l:∀env:Env,attributeBase o d env (eval o env)=eval o env:=by intro _;rfl):ME K X (.Attribute o d pos) (CV nm d f):=by
 let⟨t,m,n⟩:=x.ex;refine⟨_,λi=>?_,aKR k hn n⟩;have:=aMC (m i) (l _) (pos:=pos);rw[j i]at this;exact this
def VQ(j:∀i,(X i).K=K)(k:Cls K (bI K nm))(hn:jS K (bI K nm) d)(x:ME K X o f)(y:ME K X e g)(hs:∀i,swapsWith e (Z (.Attribute o d pos')) pos.line (X i).env=pure false:=by intro _;rfl):MS K X (.Assign [.Attribute o d pos'] e pos) (IX nm d f g):=by
 let⟨t,l,m⟩:=x.ex;let⟨u,n,p⟩:=y.ex;refine⟨_,λi=>?_,aLL k hn m p⟩;have:=aKM (l i) (n i)<|hs i;rw[j i]at this;exact this
def aJg{k:Nat}{F:FN}(C:∀i,LA (X i).prog (X i).w (X i).K (X i).mg (X i).base k nm ps (spM K F))(d:∀i,(X i).K=K)(j:∀i,cM (k+1) (X i).A)(y:MA K X (e::es) fa)(l:∀i,Gl (X i) nm:=by intro _;rfl)(hd:(nm==("__debug__":Str))=false:=by decide):
 ME K X (.Call (.Name nm p) (e::es) [] pos) (KL nm F fa):=by
 let⟨u,n,q⟩:=y.ex;refine⟨_,λi=>?_,aIY q⟩;let⟨f,fd,r,M,B,m⟩:=(C i).ex;have:=aHp M r (j i) (l i) m B .nil aJJ (n i) hd (y.st.1 _) (y.st.2.plain _ _) (p:=p) (pos:=pos);rw[d i]at this;exact this
end
structure aIf(K:Fg)(nm m qual:Str)(st:Stmt):Prop where
 ex:∃f fd,Fun K m qual st f fd/\PySem.W.findIn K (.ref (bI K nm)) m=Z (Z (.ref f))/\PySem.W.isFn K (.ref f)=true
section
variable{P:Ue}{w:World}{K:Fg}{mg:Str->Tf}{base:Heap}
def Fun.okQ{st:Stmt}{b:SF}{f:Uc}(F:Fun K x qual st f fd)(S:aT N ps (aI st))
 (c:∀(f:Uc)(cdv:Tz)(A:Uf)(outer:Tv Env)(s:Ub)(H:Hp)(E:XK),cM k (A.deeper<|envOfC qual (aI st) s.heap.objs.size f cdv)->
  ML K (λ_:Unit=>(oQ CX0 P w K mg base N qual (aI st) f cdv A outer s H E).nox) (bU st) b):mE P w K mg base CX0 (k+1) f fd ps (spM K (fnF ps.length N.length b)):=by
 have len:∀vs H Q E,spM K (fnF ps.length N.length b) vs H Q E->vs.length=ps.length:=λvs H Q E h=>by
  let⟨xs,M,W,y,M',G,R,a,_⟩:=h;by_cases d:xs.length=ps.length
  .rw[<- Paired.len R];exact d
  .unfold fnF at a;rw[B7 d]at a;cases a
 refine F.ok S len λcdv A outer s H vs Q E m h=>?_;let⟨t,n,hS⟩:=(c f cdv A outer s H E m).ex;refine⟨t,n (),?_⟩;let⟨xs,M,W,y,M',G,R,a,k⟩:=h;by_cases d:xs.length=ps.length
 .unfold fnF at a;rw[A8 d]at a;let⟨⟨o,M1⟩,p,a⟩:=aH a
  have q:bX K W (xs.map Z++List.replicate (N.length-xs.length) Y) (start N vs):=by
   unfold start;rw[<- Paired.len R];exact Paired.app (bQ.some R)<|uI _
  refine hS _ _ _ _ p W H _ _ G q λe g i j=>?_;cases o with
  |rt x=>cases a;exact λv r=>k v e g i j r
  |nx l=>cases a;exact λu r=>k .non e g i j rfl
  |bk l=>cases a
  |ct l=>cases a
 .unfold fnF at a;rw[B7 d]at a;cases a
def aIf.okI{qual:Str}{st:Stmt}{ps:Tc}{b:SF}(D:aIf K nm "__init__" qual st)(hm:PySem.W.makesIn K (bI K nm)=true)(c:PySem.W.keepIn K (.ref (bI K nm))=true)(d:mg nm=Z (.ref (bI K nm)))(S:aT N ps (aI st))
 (e:∀(kV doc pm:Tz)(an:Th)(cdv ct:Tz)(us:T4),us.length=ps.length->bindArgs (PySem.W.fnOf "__init__" qual (eK st) (bU st) (aI st) .none kV doc pm an cdv ct) ⟨us,[]⟩=pure (ps.zip us))
 (a:∀(f:Uc)(cdv:Tz)(A:Uf)(outer:Tv Env)(s:Ub)(H:Hp)(E:XK),cM k (A.deeper<|envOfC qual (aI st) s.heap.objs.size f cdv)->
  ML K (λ_:Unit=>(oQ CX0 P w K mg base N qual (aI st) f cdv A outer s H E).nox) (bU st) b):LA P w K mg base (k+1) nm ps (spM K (fnF ps.length N.length b)):=by
 let⟨f,fd,F,g,h⟩:=D.ex;exact⟨f,fd,F.okQ S a,⟨hm,g,h,c⟩,F.binds e,d⟩
end
section
variable{K:Fg}
theorem JM{a b:Type}{R:a->b->Prop}:∀{xs:Tv a}{ys:Tv b},Paired R xs ys->Paired R xs.reverse ys.reverse
 |_,_,.nil=>.nil
 |_,_,.cons h t=>by
  rw[A0b,A0b];exact Paired.app (JM t) (.cons h .nil)
def lT:FM:=λx a M=>match x,a with
 |.c i,[]=>match M[i]? with
  |some (.lst xs)=>Z (.d .none,M.set i (.lst xs.reverse))
  |_=>Y
 |_,_=>Y
def VL:PM K SW lT:=by
 intro x e M z M' h W H v vs Q G b rs k;unfold lT at h;split at h
 .rename_i i;split at h
  .rename_i xs a;cases h;let⟨us,c,d⟩:=G.lstAt a;cases rs;refine⟨W.α i,us,b.2,rfl,c,?_⟩;exact k _ W _ (.refl _) (G.set a 67<|JM d) rfl
  .cases h
 .cases h
def aPL:Td->Hp->VK->Prop:=λxs H Q=>∃i j,xs=[.int i,.int j]/\Q (.int (if j > i then j else i)) H
def aOJ:Td->Hp->VK->Prop:=λxs H Q=>∃i j,xs=[.int i,.int j]/\Q (.int (if j<i then j else i)) H
def PK:FN:=λxs M=>match xs with
 |[.d (.int i),.d (.int j)]=>Z (.d (.int (if j > i then j else i)),M)
 |_=>Y
def SB:FN:=λxs M=>match xs with
 |[.d (.int i),.d (.int j)]=>Z (.d (.int (if j<i then j else i)),M)
 |_=>Y
def aIz:PN K aPL PK:=by
 intro xs M z M' h W H vs Q G r k;unfold PK at h;split at h
 .rename_i i j;cases h;obtain _|⟨a,_|⟨b,_|_⟩⟩:=r;exact⟨i,j,by rw[show _=V.int i from a,show _=V.int j from b],k _ W H (.refl _) G rfl⟩
 .cases h
def aGx:PN K aOJ SB:=by
 intro xs M z M' h W H vs Q G r k;unfold SB at h;split at h
 .rename_i i j;cases h;obtain _|⟨a,_|⟨b,_|_⟩⟩:=r;exact⟨i,j,by rw[show _=V.int i from a,show _=V.int j from b],k _ W H (.refl _) G rfl⟩
 .cases h
end
section
variable{ι:Type}{K:Fg}{X:ι->Cx}{a b c e o:Ud}{es:T8}{f g h:EF}{fa:AF}{pos:Pos}
def aKK(d:∀i,(X i).calm=true):QN K X (.builtin "max") PK:=⟨_,λi=>aBw<|d i,aIz⟩
def aLV(d:∀i,(X i).calm=true):QN K X (.builtin "min") SB:=⟨_,λi=>aAF<|d i,aGx⟩
def TX(d:∀i,(X i).K=K)(x:ME K X o f)(j:∀env:Env,attributeBase o "reverse" env (eval o env)=eval o env:=by intro _;rfl)(k:(apos.endLine==cpos.line)=true:=by rfl):
 ME K X (.Call (.Attribute o "reverse" apos) [] [] cpos) (fS "list" lT f aN):=by
 let⟨t,l,m⟩:=x.ex;refine⟨_,λi=>?_,RQ VL m⟩;have:=aDb F.plainAttrs_list F.slot_list_reverse F.type_list_reverse UP (l i) (j _) k;rw[d i]at this;exact this
end
open PySem PySem.W PyProof.Rows
def KS{b:Type}(lt:To)(n:Nat):KasT b->(b->Prop)->Prop
 |.ret a,Q=>Q a
 |.ask i j k,Q=>i<n/\j<n/\KS lt n (k<|lt i j) Q
theorem KS.mono{b:Type}{Q R:b->Prop}(m:∀a,Q a->R a):∀{t:KasT b},KS lt n t Q->KS lt n t R
 |.ret _=>λh=>m _ h
 |.ask _ _ _=>λh=>⟨h.1,h.2.1,KS.mono m h.2.2⟩
theorem KS.wp{c:Type}{lt:To}{n:Nat}{Q:c->Prop}{R:c->Ub->Prop}{b:Nat->Nat->(Bool->Ub->Prop)->Ub->Prop}
 (d:∀i j C,i<n->j<n->C (lt i j) s->b i j C s) (m:∀a,Q a->R a s):∀{t:KasT c},KS lt n t Q->KasT.kasWp b t R s
 |.ret _=>λh=>m _ h
 |.ask _ _ _=>λh=>d _ _ _ h.1 h.2.1<|KS.wp d m h.2.2
section
variable{lt:To}{n:Nat}
def Inv2(n:Nat)(p:Tj):Prop:=p.Perm (List.range n).toArray
def Inv2.ent(h:Inv2 n p)(a:0<n)(k:Nat):p.getD k 0<n:=by
 rw[E1];cases e:p[k]? with
 |none=>exact a
 |some x=>
  have hm:=Array.mem_of_getElem? e;have:=(h.mem_iff).mp hm;simpa using this
def uP(a:Inv2 n p)(i j:Nat):Inv2 n (kas_rev p i j):=(mirror_perm p i j _).trans a
end
end L2
namespace L2
open PySem PySem.Spec PyProof.Rows
def mC:T3->Tx (T6)
 |[]=>Z []
 |.int n::r=>(mC r).bind λns=>Z (n::ns)
 |_=>Y
theorem AK:∀{ds:T3}{us:T4}{as:Tb}{ns:T6},ReadsAll h us ds as->mC ds=Z ns->IntsAre us ns
 |[],_,_,_=>λr e=>by cases r;cases e;exact .nil
 |d::ds,_,_,_=>λr e=>by
  cases r with
  |cons a b=>
   cases d with
   |int n=>
    let⟨ms,c,f⟩:=A1q.mp e;cases f;cases a;exact .cons _ _ (AK b c)
   |_=>cases e
def MP:Ua->Ua->Tx Bool
 |.int a,.int b=>Z<|decide (a<b)
 |.tuple xs,.tuple c=>(mC xs).bind λns=>(mC c).bind λms=>Z<|HT.lexLt ns ms
 |_,_=>Y
def nR:T3->T3->Tx Bool
 |[],a=>Z<|decide (0<a.length)
 |_::_,[]=>Z false
 |x::xs,y::a=>if cn x y=true then nR xs a else MP x y
noncomputable def isI:Ua->Bool
 |.int _=>true
 |_=>false
section
variable{prog:Ue}{w:World}{A:Uf}{E:T0}{s:Ub}
def aIG{c d:Bool}{Q:Bool->Ub->Prop}(g:A.units<cLine)(e:Reads s.heap p x as)(f:Reads s.heap q y bs)(h:MP x y=Z c)(i:d=true->isI x=true/\isI y=true)(k:Q c s):
 bz (bx prog w) A (oneLt' d p q) Q E s:=by
 unfold MP at h;split at h
 .rename_i a b;cases e;cases f;cases h;cases d with
  |true=>exact oneLt_int k
  |false=>exact W.kat_one _ _<|lt_int k
 .rename_i xs C;let⟨ns,j,h⟩:=A1q.mp h;let⟨ms,l,h⟩:=A1q.mp h;cases h;cases d with
  |true=>exact absurd (i rfl).1 (by intro z;cases z)
  |false=>
   cases e with
   |tuple m n o r=>
    cases f with
    |tuple t u v B=>
     exact W.kat_one _ _<|HT.lt_tupInts ⟨_,m,n,_,o⟩ ⟨_,t,u,_,v⟩ (AK r j) (AK B l) g k
 .cases h
theorem YM{b d:Bool}{Q:Bool->Ub->Prop}(l:A.units+64<cLine)(k:Q c s):∀(xs ys:T3)(us ws:T4)(as bs:Tb)(i:Nat),ReadsAll s.heap us xs as->ReadsAll s.heap ws ys bs->xs.all cj=true->ys.all cj=true->
 nR xs ys=Z c->d=decide (us.length<ws.length)->((b&&i==0)=true->xs.head?.all isI=true/\ys.head?.all isI=true)->W.KatLex prog w A b d Q (us.zip ws) i s
 |[],ys=>λus ws as bs i g f s1 s2 h a j=>by
  cases g
  have o:ws.length=ys.length:=by
   clear k h a j s2
   induction f using ReadsAll.rec (motive_1:=λ_ _ _ _=>True)with
   |nil=>rfl
   |cons _ _ _ ih=>simp[ih]
   |_=>trivial
  refine W.kat_nil ?_;cases h;rw[a,o];exact k
 |x::xs,[]=>λus ws as bs i g f s1 s2 h a j=>by
  cases f;rw[List.zip_nil_right];refine W.kat_nil ?_;cases h;rw[a];simpa using k
 |x::xs,y::ys=>λus ws as bs i g f s1 s2 h a j=>by
  cases g with
  |cons m p=>
   cases f with
   |cons n q=>
    rw[Z2,A9]at s1 s2;refine W.kat_cons ?_;refine SeqAt.eqAt_reads x y A s _ _ _ _ m n (A1f s1.1) (A1f s2.1) (SeqAt.room_of_shaped s1.1 l) _ _ _ _ ?_;have h:(if cn x y=true then nR xs ys else MP x y)=Z c:=h;cases e:cn x y with
    |true=>
     rw[e,A8 rfl]at h;refine W.kat_yes<|YM l k xs ys _ _ _ _ (i+1) p q s1.2 s2.2 h ?_ λz=>?_
     .rw[a];simp
     .simp at z
    |false=>
     rw[e,B7 C4]at h;refine W.kat_no<|aIG 61 m n h (λz=>?_) k;have:=j z;simpa using this
end
open PySem PySem.W PyProof.Rows
noncomputable def aHN{b:Type}(lt:To):KasT b->b
 |.ret a=>a
 |.ask i j k=>aHN lt<|k<|lt i j
def KA{c:Type}(n:Nat):KasT c->(c->Prop)->Prop
 |.ret a,Q=>Q a
 |.ask i j k,Q=>i<n/\j<n/\∀b,KA n (k b) Q
section
variable{n:Nat}
theorem KA.bind{c d:Type}{f:c->KasT d}{Q:d->Prop}:∀{t:KasT c},KA n t (λa=>KA n (f a) Q)->KA n (t.bind f) Q
 |.ret _=>λh=>h
 |.ask _ _ _=>λh=>⟨h.1,h.2.1,λb=>KA.bind<|h.2.2 b⟩
theorem KA.ks{b:Type}{lt:To}{Q:b->Prop}:∀{t:KasT b},KA n t Q->KS lt n t (λa=>a=aHN lt t/\Q a)
 |.ret _=>λh=>⟨rfl,h⟩
 |.ask i j _=>λh=>⟨h.1,h.2.1,KA.ks<|h.2.2<|lt i j⟩
theorem KS.run{a:Type}{lt:To}{Q:a->Prop}:∀{t:KasT a},KS lt n t Q->Q (aHN lt t)
 |.ret _=>λh=>h
 |.ask i j k=>λh=>KS.run (t:=k<|lt i j) h.2.2
theorem VY(a:Inv2 n p)(c:0<n){Q:Nat->Prop}(q:∀r,Q r):∀(f m:Nat),KA n (kas_asc p f m) Q
 |0=>λm=>by rw[kas_asc.eq_def];exact q m
 |f+1=>λm=>by
  refine⟨a.ent c _,a.ent c _,λb=>?_⟩;cases b with
  |true=>exact q m
  |false=>exact VY a c q f (m+1)
theorem DD(c:0<n){Q:Tj×Nat×Nat->Prop}(k:∀p m q,Inv2 n p->Q (p,m,q)):∀(f:Nat)(p:Tj)(m q:Nat),Inv2 n p->KA n (kas_desc f p m q) Q
 |0=>λp m q a=>by rw[kas_desc.eq_def];exact k p m q a
 |f+1=>λp m q a=>by
  refine⟨a.ent c _,a.ent c _,λb=>?_⟩;cases b with
  |true=>
   by_cases d:q > 0
   .rw[A8 d];exact DD c k f _ _ _<|uP a _ _
   .rw[B7 d];exact DD c k f _ _ _ a
  |false=>
   refine⟨a.ent c _,a.ent c _,λb=>?_⟩;cases b with
   |true=>exact k p m q a
   |false=>exact DD c k f _ _ _ a
def OD(b:0<n){p:Tj}{m:Nat}(a:Inv2 n p):KA n (kas_tail3 m n p) (λr=>Inv2 n r.2):=by
 exact KA.bind<|VY (uP a 0 m) b (λr=>uP a 0 m) _ _
def CL(b:0<n){p:Tj}{m:Nat}(d:Inv2 n p):KA n (kas_descPart m n p) (λr=>Inv2 n r.2):=by
 refine KA.bind<|DD b (λf g e a=>?_) _ _ _ _ d;by_cases c:e > 0
 .rw[A8 c];exact OD b<|uP a _ _
 .rw[B7 c];exact OD b a
def aCQ(c:0<n){p:Tj}(a:Inv2 n p):KA n (kas_count n p) (λr=>Inv2 n r.2):=by
 refine KA.bind<|VY a c (λr=>?_) _ _;by_cases e:(r==n)=true
 .rw[A8 e];exact a
 .rw[B7 e];by_cases g:r > 1
  .rw[A8 g];refine⟨a.ent c _,a.ent c _,λb=>?_⟩;cases b with
   |true=>exact a
   |false=>exact CL c<|uP a _ _
  .rw[B7 g];exact CL c a
theorem DO(a:0<n)(c:Inv2 n p){Q:Nat->Prop}(q:∀l,Q l):∀(f l r:Nat),KA n (kas_place p k f l r) Q
 |0=>λl r=>by rw[kas_place.eq_def];exact q l
 |f+1=>λl r=>by
  show KA n (if l>=r then _ else _) Q;by_cases g:l>=r
  .rw[A8 g];exact q l
  .rw[B7 g];refine⟨c.ent a _,c.ent a _,λb=>?_⟩;cases b with
   |true=>exact DO a c q f _ _
   |false=>exact DO a c q f _ _
theorem aCq(b:0<n):∀(f:Nat)(p:Tj)(k:Nat),Inv2 n p->KA n (kas_bin f p k) (Inv2 n)
 |0=>λp k a=>by rw[kas_bin.eq_def];exact a
 |f+1=>λp k a=>by
  exact KA.bind<|DO b a (λl=>aCq b f _ (k+1)<|(bubble_perm p k (k-l)).trans a) k 0 k
def aAp(d:0<n):KA n (kas_sort n) (Inv2 n):=by
 have:=aCQ d<|Array.Perm.refl _;refine KA.bind ?_
 have mono:∀{c:Type}{Q R:c->Prop}(m:∀a,Q a->R a)(t:KasT c),KA n t Q->KA n t R:=by
  intro c Q R m t
  induction t with
  |ret a=>exact m a
  |ask i j k ih=>exact λh=>⟨h.1,h.2.1,λb=>ih b<|h.2.2 b⟩
 refine mono (λr a=>?_) _ this;by_cases e:r.fst<n
 .rw[A8 e];exact aCq d _ _ _ a
 .rw[B7 e];exact a
def jK(lt:To)(n:Nat):Tv Nat:=(aHN lt<|kas_sort n).toList
def nX(lt:To)(a:0<n):(jK lt n).Perm (List.range n):=by
 have:=KS.run<|KA.ks (lt:=lt)<|aAp a;simpa[jK]using Array.perm_iff_toList_perm.mp this.2
end
end L2
namespace L2
variable{H:Hp}{K:Fg}{W:Wd}{σ:St}{M:Sto}
open PySem PySem.Spec PyProof.Rows
mutual
noncomputable def BP:Ua->Bool
 |.int _=>true
 |.tuple xs=>mT xs
 |_=>false
noncomputable def mT:T3->Bool
 |[]=>true
 |x::r=>BP x&&mT r
end
mutual
theorem rk{h h':Heap}(k:∀b o vs n,h.get? b=Z o->o.data=.seq vs n->h'.get? b=Z o):∀(d:Ua)(v:Tz)(as:Tb),BP d=true->Reads h v d as->Reads h' v d as
 |.int n=>λ_ _ _ r=>by cases r;exact .int _ _
 |.tuple xs=>λ_ _ e r=>by
  cases r with
  |tuple a b c d=>exact .tuple (k _ _ _ _ a c) b c (aEA k xs _ _ (by unfold BP at e;exact e) d)
 |.none=>λ_ _ e _=>by unfold BP at e;cases e
 |.bool _=>λ_ _ e _=>by unfold BP at e;cases e
 |.str _=>λ_ _ e _=>by unfold BP at e;cases e
 |.list _=>λ_ _ e _=>by unfold BP at e;cases e
 |.dict _=>λ_ _ e _=>by unfold BP at e;cases e
theorem aEA{h h':Heap}(k:∀b o vs n,h.get? b=Z o->o.data=.seq vs n->h'.get? b=Z o):∀(ds:T3)(vs:T4)(as:Tb),mT ds=true->ReadsAll h vs ds as->ReadsAll h' vs ds as
 |[]=>λ_ _ _ r=>by cases r;exact .nil
 |d::ds=>λ_ _ e r=>by
  cases r with
  |cons a b=>
   unfold mT at e;rw[A9]at e;exact .cons (rk k d _ _ e.1 a) (aEA k ds _ _ e.2 b)
end
theorem ReadsAll.at:∀{ds:T3}{vs:T4}{as:Tb}(i:Nat),ReadsAll h vs ds as->i<ds.length->∃bs,Reads h (vs.getD i .none) (ds.getD i .none) bs
 |[],_,_,i=>λ_ hi=>absurd hi<|Nat.not_lt_zero _
 |d::ds,_,_,0=>λr _=>by cases r with|cons a b=>exact⟨_,a⟩
 |d::ds,_,_,i+1=>λr hi=>by
  cases r with
  |cons a b=>
   let⟨bs,x⟩:=ReadsAll.at i b<|Nat.lt_of_succ_lt_succ hi;exact⟨bs,x⟩
theorem ReadsAll.len:∀{ds:T3}{vs:T4}{as:Tb},ReadsAll h vs ds as->vs.length=ds.length
 |[],_,_=>λr=>by cases r;rfl
 |d::ds,_,_=>λr=>by
  cases r with
  |cons a b=>simp[ReadsAll.len b]
section
variable{prog:Ue}{w:World}{A:Uf}{E:T0}{s:Ub}
def aNa{b c:Bool}{Q:Bool->Ub->Prop}(a:A.units+64<cLine)(d:Reads s.heap p (.tuple xs) as)(e:Reads s.heap q (.tuple ys) bs)
 (s1:xs.all cj=true) (s2:ys.all cj=true) (h:nR xs ys=Z c) (f:b=true->xs.head?.all isI=true/\ys.head?.all isI=true) (k:Q c s):bz (bx prog w) A (keyLt' (tuples' b) p q) Q E s:=by
 cases d with
 |tuple g o i j=>
  cases e with
  |tuple l r m n=>
   refine PySem.W.kat_lt g i l m<|YM a k xs ys _ _ _ _ 0 j n s1 s2 h 67 λz=>f ?_;simpa using z
noncomputable def pE(a:Tv (T3)):Bool:=a.all λr=>match r with
 |.int _::_=>true
 |_=>false
noncomputable def rJ(a:Tv (T3)):Bool:=a.all λr=>match r with
 |.tuple _::_=>true
 |_=>false
def aLf{M:Model}(n:Int)(t:Tok):PySem.W.Looks M h (typeOf (.int n t)) (.type "int"):=λA Q E s _ q=>by
 show bz M A (pure _) Q E s;exact A4 q
theorem firstsI:∀{c:Tv (T3)}{vs:T4}{as:Tb},ReadsAll h vs (c.map .tuple) as->pE c=true->∃fs,PySem.W.KatTups h vs fs/\fs.length=c.length/\∀v∈fs,∃n t,v=.int n t
 |[],_,_=>λr _=>by cases r;exact⟨[],.nil,rfl,λv g=>nomatch g⟩
 |x::c,_,_=>λr e=>by
  unfold pE at e;rw[Z2,A9]at e;cases r with
  |cons a b=>
   let⟨fs,k,m,p⟩:=firstsI b (by unfold pE;exact e.2);cases x with
   |nil=>exact absurd e.1 66
   |cons d ds=>
    cases d with
    |int n=>
     cases a with
     |tuple q u y j=>
      rename_i o vs C ;generalize g:vs.toList=l at j;cases j with
      |cons B D=>
       cases B with
       |int _ t=>
        refine⟨.int n t::fs,.cons q u y (f:=.int n t) ?_ k,by simp[m],?_⟩
        .rw[<- F8,g];rfl
        .intro v i;obtain z|z:=C1.mp i
         .exact⟨_,_,z⟩
         .exact p v z
    |_=>exact absurd e.1 (by intro z;cases z)
end
section
variable{prog:Ue}{w:World}{A:Uf}{E:T0}{s:Ub}
def aLr{M:Model}{h:Heap}{a:Uc}{o:Obj}(g:h.get? a=Z o)(c:o.cls=.type "tuple"):PySem.W.Looks M h (typeOf (.ref a)) (.type "tuple"):=λA Q E s k q=>A1e (⟨o,k _ _ g,c⟩) q
theorem YL:∀{c:Tv (T3)}{vs:T4}{as:Tb},ReadsAll h vs (c.map .tuple) as->rJ c=true->∃fs,PySem.W.KatTups h vs fs/\fs.length=c.length/\∀v∈fs,∃a o,v=.ref a/\h.get? a=Z o/\o.cls=.type "tuple"
 |[],_,_=>λr _=>by cases r;exact⟨[],.nil,rfl,λv f=>nomatch f⟩
 |x::c,_,_=>λr e=>by
  unfold rJ at e;rw[Z2,A9]at e;cases r with
  |cons a b=>
   let⟨fs,j,k,m⟩:=YL b (by unfold rJ;exact e.2);cases x with
   |nil=>exact absurd e.1 66
   |cons d ds=>
    cases d with
    |tuple C=>
     cases a with
     |tuple n p q i=>
      rename_i o vs D;generalize f:vs.toList=l at i;cases i with
      |cons t F=>
       cases t with
       |@tuple u _ _ _ _ _ y B G I=>
        refine⟨.ref u::fs,.cons n p q ?_ j,by simp[k],?_⟩
        .rw[<- F8,f];rfl
        .intro v g;obtain z|z:=C1.mp g
         .exact⟨_,_,z,y,B⟩
         .exact m v z
    |_=>exact absurd e.1 67
def aAY{M:Model}{b:Tv (T3)}{Q:SortKind->Ub->Prop}(r:ReadsAll s.heap vs (b.map .tuple) as)(j:0<b.length)(hk:pE b=true\/rJ b=true)(q:Q (tuples'<|pE b) s):bz M A (keyKind' vs.toArray) Q E s:=by
 obtain hk|hk:=hk
 .let⟨fs,f,k,h⟩:=firstsI r hk;rw[hk]at q;refine PySem.W.kat_kind (T:=.type "int") f 61 (λv i=>?_) 66 q;let⟨n,t,rfl⟩:=h v i;exact aLf n t
 .let⟨fs,f,k,h⟩:=YL r hk
  have e:pE b=false:=by
   cases b with
   |nil=>cases j
   |cons x r=>
    unfold rJ at hk;rw[Z2,A9]at hk;cases x with
    |nil=>rfl
    |cons d ds=>cases d<;>first|rfl|exact absurd hk.1 67
  rw[e]at q;refine PySem.W.kat_kind (T:=.type "tuple") f 61 (λv i=>?_) 66 q;let⟨a,o,rfl,g,c⟩:=h v i;exact aLr g c
end
section
variable{X:Cx}{cp:T1}{σ:St}{H:Hp}{s:Ub}{h':Heap}
def fA.there{P:Ue}(x:fA P w H h a o):∃u,h.get? a=Z u:=by
 induction o with
 |lst xs=>let⟨_,_,_,_,e⟩:=x;exact⟨_,e⟩
 |tup xs=>let⟨_,_,_,_,e,_⟩:=x;exact⟨_,e⟩
 |dK kvs=>let⟨_,_,_,_,o,_,_,e,_⟩:=x;exact⟨_,e⟩
 |dT kvs=>let⟨_,_,_,_,o,_,_,e,_⟩:=x;exact⟨_,e⟩
 |set S n=>let⟨o,_,_,_,e,_⟩:=x;exact⟨_,e⟩
 |ins C dx fs=>let⟨_,_,_,e,_⟩:=x;exact⟨_,e⟩
 |own y=>exact x
 |xd fs=>let⟨_,⟨_,_,_,e,_⟩,_⟩:=x;exact⟨_,e⟩
 |rng lo hi=>let⟨_,_,_,e⟩:=x;exact⟨_,e⟩
 |frz o u=>exact⟨_,x.1⟩
 |tbl ps=>exact⟨_,x⟩
 |met f b=>exact⟨_,x⟩
 |ext c=>exact x.2.1
def HOk.none{P:Ue}{a:Uc}(x:HOk P w H h)(e:h.get? a=Y):H a=Y:=by
 cases q:H a with
 |none=>rfl
 |some o=>
  let⟨u,z⟩:=(x a o q).there;rw[e]at z;cases z
def Inv.laidL{a:Uc}(I:Inv X cp σ H s)(k:∀b u,b≠X.env.locals->s.heap.get? b=Z u->h'.get? b=Z u)(ns:∀m,s.heap.Ns X.env.locals m->h'.Ns X.env.locals m)(f:s.heap.get? a=Y)(new:fA X.prog X.w (upd H a o) h' a o):
 Inv X cp σ (upd H a o) { s with heap:=h' }:=by
 have hn:=I.hok.none f;have nt:∀b u,H b=Z u->b≠X.env.locals:=λb u e z=>by rw[z,I.free]at e;cases e
 refine I.step (ch:=[]) (λ_ z=>nomatch z) (λb o d _ _ e _=>k b o d e) (λb o d _ _ e _=>⟨o.slots,k b o d e⟩) (λb o _ e n=>?_) (λb o _ e=>?_) (λb xs e=>?_) (λb o u e=>?_) (λb ps e=>⟨#[],?_⟩) ns ?_ I.bare
 .rw[aO (λz=>by subst z;rw[f]at e;cases e)];exact n
 .by_cases z:b=X.env.locals
  .subst z;let⟨m,hm,_⟩:=I.loc;let⟨o',_,_,q,_⟩:=ns m hm;exact⟨o',q⟩
  .exact⟨o,k b o z e⟩
 .rw[aO (aX e hn)];exact e
 .rw[aO (aX e hn)];exact e
 .rw[aO (aX e hn)];simpa using e
 .intro b u e;by_cases g:b=a
  .subst g;rw[aS]at e;cases e;exact new
  .rw[aO g]at e;refine(I.hok b u e).stay (λc v h q=>k c v ?_ q) (λc q=>by rw[aO (aX q hn)];exact q) λc xs q=>by rw[aO (aX q hn)];exact q
   obtain z|z:=h
   .rw[z];exact nt b _ e
   .exact nt c _ z
def YS{h:Heap}(a:h.Ns L m)(b:h.Ns L c):m=c:=by
 let⟨o,es,ep,f,g,_,i⟩:=a;let⟨o',j,k,d,e,_,l⟩:=b;rw[f]at d;cases d;rw[g]at e;cases e;funext x;rw[<- i x,l x]
def vK(a:Tv (T3))(i j:Nat):Bool:=(nR (a.getD i [])<|a.getD j []).getD false
theorem JX(r:bE vs us):∀ps:Tv Nat,bE (ps.map λi=>vs.getD i .non) (ps.map λi=>us.getD i .none)
 |[]=>.nil
 |p::ps=>by
  refine .cons ?_ (JX r ps)
  have go:∀{vs:Td}{us:T4}(i:Nat),bE vs us->RelV (vs.getD i .non) (us.getD i .none):=by
   intro vs us i r
   induction r generalizing i with
   |nil=>exact rfl
   |cons a b ih=>cases i with
    |zero=>exact a
    |succ i=>exact ih i
  exact go p r
end
def sortable(a:Tv (T3)):Bool:=decide (2<=a.length)&&decide (a.length<64)&&a.all (λr=>r.all cj&&mT r)&&(pE a || rJ a)&&(List.range a.length).all λi=>(List.range a.length).all λj=>(nR (a.getD i [])<|a.getD j []).isSome
def SX(a:Tv (T3)):T3:=(jK (vK a) a.length).map λi=>.tuple (a.getD i [])
def BH(h:sortable a=true):2<=a.length/\a.length<64/\(∀r∈a,r.all cj=true/\mT r=true)/\(pE a=true\/rJ a=true)/\(∀i j,i<a.length->j<a.length->(nR (a.getD i [])<|a.getD j []).isSome=true):=by
 unfold sortable at h;rw[A9,A9,A9,A9,A2h]at h;let⟨⟨⟨⟨b,c⟩,d⟩,e⟩,f⟩:=h;refine⟨C8 b,C8 c,λr g=>?_,e,λi j hi k=>?_⟩
 .have:=C3.mp d r g
  rwa [A9]at this
 .exact C3.mp (C3.mp f i<|E4.mpr hi) j<|E4.mpr k
section
variable{K:Fg}
theorem aL.len{H:Hp}:∀{ds:T3}{vs:Td},aL K H ds vs->vs.length=ds.length
 |[],_=>λh=>by
  rw[h];rfl
 |d::ds,_=>λh=>by
  let⟨v,r,rfl,_,a⟩:=h;simp[aL.len a]
theorem HJ{H:Hp}{a:Tv (T3)}(r:aL K H (a.map .tuple) us):∀ps:Tv Nat,(∀i∈ps,i<a.length)->aL K H (ps.map λi=>.tuple (a.getD i [])) (ps.map λi=>us.getD i .non)
 |[]=>65
 |p::ps=>λb=>by
  refine⟨_,_,rfl,?_,HJ r ps λi hi=>b i<|A7 _ hi⟩;have hi:=b p B0;have f:=aL.len r;rw[A6]at f
  have g:us[p]?=Z (us.getD p .non):=by
   rw[D9,C0 61];rfl
  let⟨d,c,h⟩:=aL.get r g;rw[D7,C0 hi]at c;cases c;have e:a.getD p []=a[p]:=68
  show Rep K H (.tuple (a.getD p [])) (us.getD p .non);rw[e];exact h
def aJS{lt:To}{n:Nat}(a:0<n):∀i∈jK lt n,i<n:=λi hi=>E4.mp<|(nX lt a).mem_iff.mp hi
end
def cM.units2(r:cM k A):A.in1.in1.units+64<cLine:=by have:=r.un;show A.units+1+1+64<_;omega
section
variable{prog:Ue}{w:World}{A:Uf}{E:T0}{s:Ub}
def CN{a:Uc}{vs:T4}{P:PySem.Fin->Ub->Prop}(g:s.heap.get? a=Z (seqObj "list" vs.toArray n))(d:vs.length<2)
 (k:P (.done (.ret .none)) { s with heap:=sortedHeap s.heap a vs vs.toArray }):bz (bx prog w) A (Builtin.«list.sort» ⟨[.ref a],[]⟩) P E s:=by
 rw[list_sort_plain];have e:vs.toArray.size<=bv:=by rw[F4,J7];omega
 refine A1<|listItems_at g rfl ?_;refine A1<|listUpdate_at g rfl ?_ e 67;have b:=A1p g (λ_=>#[]);refine A1<|seqEpoch_at b rfl ?_;refine A1<|wpAny_newTuple ?_ 61;refine A1<|wpAny_newList ?_;refine E7 ?_;have hs:vs.toArray.size<2:=61
 rw[A8 hs,A8 hs];refine A1<|A4 ?_;refine A1 ?_;refine A4 ?_;have f:=A3 { cls:=.type "tuple",data:=.seq vs.toArray.toList.toArray } b;have c:=A3 { cls:=.type "list",data:=.seq ([]:T4).toArray } f;refine A1<|seqEpoch_at c rfl ?_
 have hm:Array.map (λx=>x.snd) (arrOf<|SortSt.mk' general' (vs.toArray.zip vs.toArray) #[] 7 Y)=vs.toArray:=by
  show Array.map (λx=>x.snd) (vs.toArray.zip vs.toArray)=vs.toArray
  apply Array.ext
  .simp
  .intro i h d;simp
 rw[hm];refine A1<|listUpdate_at c rfl ?_ 67 61;rw[B7 67];exact A4 k
end
def TrS(h B:Heap)(e:Uc)(vs:Ti):Tf->Prop
 |none=>vs[1]?=Z .none
 |some b=>∃T a ts,vs[1]?=Z (.ref T)/\B.get? T=Y/\T≠e/\h.get? T=Z a/\a.data=.fields ts/\ts[3]?=Z b
def Tr(h B:Heap)(e:Uc)(c:Tz)(dx:Th)(st:Tf):Prop:=
 ∃a vs,h.get? e=Z a/\(a.cls=c/\a.dict=dx)/\a.data=.fields vs/\1<vs.size/\TrS h B e vs st
structure Fly(B:Heap)(l:Tv Env)(e:Uc)(c:Tz)(dx:Th)(st:Tf)(h:Heap):Prop where
 stays:B.StaysIn h
 new:B.get? e=Y
 frames:h.FunFrames B l
 tr:Tr h B e c dx st
def Fly.obj{B:Heap}{st:Tf}(F:Fly B l e c dx st h):∃a vs,h.get? e=Z a/\a.cls=c/\a.dict=dx/\a.data=.fields vs:=by
 let⟨a,vs,d,b,f,_⟩:=F.tr;exact⟨a,vs,d,b.1,b.2,f⟩
def aHi(o:Obj)(f:Ti->Ti):(o.mapFields f).dict=o.dict:=by
 let⟨c,d,dt,sl⟩:=o;cases dt<;>rfl
section
variable{M:Model}{A:Uf}{E:T0}{s:Ub}{B:Heap}{env:Env}{outer l:Tv Env}{L e:Uc}{c:Tz}{dx:Th}{st:Tf}{Q:Unit->Ub->Prop}
def lR{h:Heap}{a b:Uc}{o d:Obj}(ha:h.get? a=Z d)(hd:d.data=.fields vs)(f:h.get? b=Z o)(hn:∀ws,o.data≠.fields ws):b≠a:=68
def QV{n:Obj}(u:A.frames=Z (env::outer))(I:env.frame=Z L)(stays:B.StaysIn s.heap)(new:B.get? e=Y)(fr:s.heap.FunFrames B (env::outer))
 (p:s.heap.get? e=Z n) (D:n.cls=c/\n.dict=dx) (h:n.data=.fields vs) (v:1<vs.size)
 (q:∀h',Fly B (env::outer) e c dx (Z<|rawInt L) h'->s.heap.UpToSlots h'->Q () { s with heap:=h' }):
 bz M A (do let a <- frameOf env;let i <- entryPlaceOf L nx;let b <- EntryCells.newEntry hd a .none (rawInt L) .none i;setField (.ref e) 1 b) Q E s:=by
 have j:e∉(env::outer).filterMap (·.frame):=λhm=>by
  let⟨_,o,J,f⟩:=fr.mem hm;exact lR p h J f rfl
 refine A1 (wpAny_frameOf_fun u fr I λg r=>A1 (wpAny_entryPlaceOf λi w=>?_));refine A1<|D6 ?_<|w.sizeOk5 _ _ _ _ _;generalize x:({ cls:=.type "traceback",dict:=Y,data:=.fields ([hd,Value.ref L,.none,rawInt L,.none]++(if i.isEmpty then List.replicate 6 Value.none else i)).toArray }:Obj)=t;have y:t.data=.fields ([hd,Value.ref L,.none,rawInt L,.none]++(if i.isEmpty then List.replicate 6 Value.none else i)).toArray:=68
 have F:=(r.2.1 e j).trans p;have k:B.StaysIn g:=λb o d=>(r.2.1 b λhm=>by rw[(fr.mem hm).1]at d;cases d).trans (stays b o d);have G:=A3 t F;refine Z8 G h v<|q _ ?_ ?_
 all_goals
  have m:=O1<|B2 F;have N:=L6 (Obj.mapFields (·.setIfInBounds 1 (Value.ref g.objs.size))) G<|A0a<|S9 h _
  have kp:∀b o,b≠e->g.get? b=Z o->((g.push t).update e (Obj.mapFields (·.setIfInBounds 1 (Value.ref g.objs.size)))).get? b=Z o:=λb o C d=>by
   rw[S8 _ _ (Y6 C)];exact A3 _ d
 .refine⟨λb o d=>kp b o (λz=>by rw[z,new]at d;cases d)<|k b o d,new,fr.of_keeps λb o d f=>?_,?_⟩
  .let⟨sl,hs⟩:=r.2.2 b o d;exact⟨_,kp b _ (lR p h d f) hs,rfl⟩
  .refine⟨_,_,N,⟨(A2b _ _).trans D.1,(aHi _ _).trans D.2⟩,S9 h _,by simpa using v,g.objs.size,t,_,by simp[v],k.fresh,m,?_,y,67⟩;rw[S8 _ _ (Y6 m)];exact B5 g (by rw[<- x];rfl)
 .intro b o d f;let⟨sl,hs⟩:=r.2.2 b o d;exact⟨sl,kp b _ (lR p h d f) hs⟩
def NP(f:A.frames=Z (env::outer))(i:env.frame=Z L)(F:Fly B (env::outer) e c dx st s.heap)(j:st=Y\/st=Z .none\/st=Z (rawInt L))
 (q:∀h',Fly B (env::outer) e c dx (Z<|rawInt L) h'->s.heap.UpToSlots h'->Q () { s with heap:=h' }):bz M A (noteFrame (.ref e) env) Q E s:=by
 let⟨r,vs,g,k,h,m,ht⟩:=id F.tr;unfold noteFrame;simp only[i];obtain rfl|rfl|rfl:=j
 .refine A1<|E8 g h ht ?_;exact QV f i F.stays F.new F.frames g k h m q
 .let⟨T,n,ts,t1,t2,t3,t4,t5,t6⟩:=ht;refine A1<|E8 g h t1 ?_;refine A1<|E8 t4 t5 t6 ?_;refine A1<|Z8 t4 t5 (A0j.mp t6).1 ?_;have oth:∀b,b≠T->(s.heap.update T (Obj.mapFields (·.setIfInBounds 3 Value.none))).get? b=s.heap.get? b:=λb a=>S8 _ _ (Y6 a)
  refine QV f i (λb o a=>(oth b λz=>by rw[z,t2]at a;cases a).trans (F.stays b o a)) F.new
   (F.frames.of_keeps λb o a d=>⟨o,(oth b<|lR t4 t5 a d).trans a,rfl⟩) ((oth e<|Y6 t3).trans g) k h m λh' p u=>q h' p λb o a d=>u b o ((oth b<|lR t4 t5 a d).trans a) d
 .let⟨T,n,ts,t1,t2,t3,t4,t5,t6⟩:=ht;refine A1<|E8 g h t1 ?_;refine A1<|E8 t4 t5 t6 ?_;rw[A8 67];exact A4<|q _ F (.refl _)
def DK{k:Tz}{g:Th}(F:Fly B l e c dx (Z k) s.heap)
 (q:∀h',Fly B l e c dx (Z (g.elim .none λf=>rawInt f)) h'->s.heap.UpToSlots h'->Q () { s with heap:=h' }):bz M A (setFlight (.ref e) g) Q E s:=by
 let⟨m,vs,h,n,i,p,T,r,ts,t1,t2,t3,t4,t5,t6⟩:=id F.tr;have j:=(A0j.mp t6).1;refine A1<|E8 h i t1 ?_;have oth:∀b,b≠T->(s.heap.update T (Obj.mapFields (·.setIfInBounds 3 (g.elim .none λf=>rawInt f)))).get? b=s.heap.get? b:=λb a=>S8 _ _<|Y6 a
 refine Z8 t4 t5 j (q _ ⟨λb o a=>(oth b λz=>by rw[z,t2]at a;cases a).trans (F.stays b o a),F.new,F.frames.of_keeps λb o a d=>⟨o,(oth b<|lR t4 t5 a d).trans a,rfl⟩,
  m,vs,(oth e (Y6 t3)).trans h,n,i,p,T,_,_,t1,t2,t3,L6 _ t4 (A0a (S9 t5 _)),S9 t5 _,by simp[j]⟩
  λb o a d=>⟨o.slots,(oth b (lR t4 t5 a d)).trans a⟩)
def aFR(f:A.frames=Z (env::outer))(h:env.frame=Z L)(F:Fly B (env::outer) e c dx st s.heap)(g:st=Y\/st=Z .none\/st=Z (rawInt L))
 (q:∀h',Fly B outer e c dx (Z .none) h'->s.heap.UpToSlots h'->Q () { s with heap:=h' }):bz M A (leaving env (.ref e)) Q E s:=by
 refine A1 (NP f h F g λk F1 u1=>DK F1 λi F2 j=>?_);let⟨a,b,⟨_,_,c'⟩,d⟩:=F2;exact q i ⟨a,b,c',d⟩<|u1.trans j
def aGP{X:T0}(a:A.frames=Z (env::outer))(d:env.frame=Z L)(F:Fly B (env::outer) e c dx st s.heap)(b:st=Y\/st=Z .none\/st=Z (rawInt L))
 (q:∀h',Fly B (env::outer) e c dx (Z<|rawInt L) h'->s.heap.UpToSlots h'->X (.ref e) { s with heap:=h' }):notedBy M A env (cameBackBy M A env X) (.ref e) s:=by
 refine NP a d F b λj F1 u1=>?_;let⟨k,vs,f,m,g,n,T,o,ts,t1,t2,t3,t4,t5,t6⟩:=id F1.tr;refine A1<|E8 f g t1 ?_;rw[B7 67,d];exact DK F1 λh F2 i=>q h F2<|u1.trans i
end
structure Body(X:Cx):Prop where
 stk:X.stack=X.env::X.outer
 fr:X.env.frame=Z X.env.locals
 ex:X.ex=[]
structure Kp(X:Cx)(H:Hp)(B h:Heap):Prop where
 trk:∀b u o,H b=Z u->h.get? b=Z o->B.get? b=Z o
 ent:∀b o,X.s₀.heap.get? b=Z o->b∉X.fs->(∃o',B.get? b=Z o')/\(X.H₀ b=Y->B.get? b=Z o)
 pin:∀p∈X.pn,B.get? p.1=Z p.2
section
variable{X:Cx}{cp:T1}{σ:St}{H:Hp}{s:Ub}{B h':Heap}
def Inv.up(I:Inv X [] σ H s)(b:Body X)(k:Kp X H B s.heap)(stays:B.StaysIn h')(u:s.heap.UpToSlots h'):Inv X [] σ H { s with heap:=h' }/\Kp X H B h':=by
 have tr:=λa v o e q=>stays a o<|k.trk a v o e q
 have cell:∀c v,s.heap.IsCell c v->h'.IsCell c v:=λc v ⟨o,E,hd⟩=>by
  let⟨sl,q⟩:=u c o E λvs z=>by rw[hd]at z;cases z
  exact⟨_,q,hd⟩
 have f:∀a∈X.fs,∀o,s.heap.get? a=Z o->∃sl,h'.get? a=Z { o with slots:=sl }:=λa ha o e=>by
  let⟨_,j,C,hn⟩:=I.funs.mem ha;rw[e]at C;cases C;exact u a o e hn
 refine⟨⟨I.ok,I.os,I.bare,⟨λa o e n ha t=>?_,λa o e n ha t=>?_,I.base.free,λa o e t=>?_,I.base.tups,I.base.frzs,I.base.tbls⟩,?_,λx c e=>?_,I.free,I.freeC,λp y=>?_,λa v e=>?_,I.len⟩,⟨λa v o e q=>?_,k.ent,k.pin⟩⟩
 .exact stays a o<|(k.ent a o e ha).2 n
 .let⟨sl,g⟩:=I.base.slot a o e n ha t;let⟨A,h⟩:=f a ha _ g;exact⟨A,h⟩
 .by_cases ha:a∈X.fs
  .let⟨j,g⟩:=I.base.there a o e t;let⟨sl,h⟩:=f a ha j g;exact⟨_,h⟩
  .let⟨⟨o',q⟩,_⟩:=k.ent a o e ha;exact⟨o',stays a o' q⟩
 .let⟨m,hn,F⟩:=I.loc;refine⟨m,u.ns hn,λi x v g h G=>?_⟩;let⟨J,r,l⟩:=F i x v g h G;refine⟨J,r,?_⟩;obtain l|⟨L,c,e,z⟩:=l
  .exact .inl l
  .exact .inr ⟨L,c,e,cell c _ z⟩
 .let⟨v,z⟩:=I.cell x c e;exact⟨v,cell c v z⟩
 .rw[J8]at y;let⟨_,n,ne,N,d⟩:=I.pin p<|E2 _ y;exact⟨stays _ _<|k.pin p y,n,ne,N,d⟩
 .exact(I.hok a v e).stay (λc w hc q=>by
   obtain rfl|hc:=hc
   .exact tr c v w e q
   .exact tr c _ w hc q) (λ_ q=>q) λ_ _ q=>q
 .let⟨j,D⟩:=(I.hok a v e).there;have:=tr a v j e D;rw[q]at this;cases this;exact k.trk a v o e D
def XS(X:Cx)(EE:St->XK)(ev:Tz)(s:Ub):Prop:=
 ∃e c dx st σ H B,ev=.ref e/\Inv X [] σ H s/\Kp X H B s.heap/\Fly B X.stack e c dx st s.heap/\(st=Y\/st=Z .none\/st=Z (rawInt X.env.locals))/\EE σ c dx H
def XS.unwish(h:XS (X.wish E) EE ev s):XS X EE ev s:=by
 let⟨e,c,dx,st,σ,H,B,b,I,k,F,a,q⟩:=h;exact⟨e,c,dx,st,σ,H,B,b,I.unwish,⟨k.trk,k.ent,k.pin⟩,F,a,q⟩
def CX1(P:Ue)(w:World):CXT:=λouter H s E ev s'=>∃e c dx H' B,ev=.ref e/\s'.os=s.os/\AllBare s'.gens/\Un (frs outer) [] H H' s.heap s'.heap/\HOk P w H' s'.heap/\Fly B outer e c dx (Z .none) s'.heap /\
 (∀b u o,H' b=Z u->s'.heap.get? b=Z o->B.get? b=Z o)/\(∀b o,s.heap.get? b=Z o->b∉frs outer->(∃o',B.get? b=Z o')/\(H b=Y->B.get? b=Z o))/\E c dx H'
def Inv.entry(I:Inv X cp σ H s)(bd:Body X){b:Uc}{o:Obj}(e:X.s₀.heap.get? b=Z o)(a:b∉X.fs):b∉frs X.stack/\(∃c,s.heap.get? b=Z c)/\(X.H₀ b=Y->s.heap.get? b=Z o/\H b=Y):=by
 have nx:b∉X.ex:=by rw[bd.ex];simp
 refine⟨λz=>?_,I.base.there b o e nx,λn=>⟨I.base.keep b o e n a nx,I.base.free b o e n nx⟩⟩;obtain q|q:=C1.mp (I.stkSub b z)
 .exact absurd (q▸C9 (B2 e) I.ok.above)<|Y5 _
 .exact a q
def aKw{EE:St->XK}(bd:Body X)(I:Inv X cp σ H s)(h:CX1 X.prog X.w X.stack H s (EE σ) ev s'):XS X EE ev s':=by
 let⟨e,c,dx,H',B,rfl,os,bare,un,hok,F,trk,ent,q⟩:=h;have g:=I.call' os un hok bare λb z=>absurd z 67;refine⟨e,c,dx,Z .none,σ,H',B,rfl,g.pins_of λp d=>absurd d 67,⟨trk,λb o e i=>?_,λp d=>?_⟩,F,.inr (.inl rfl),q⟩
 .let⟨a,⟨j,k⟩,f⟩:=I.entry bd e i;exact⟨(ent b j k a).1,λn=>(ent b o (f n).1 a).2 (f n).2⟩
 .let⟨a,n,ne,l,_⟩:=I.pin p<|E2 _ d;exact(ent p.1 p.2 a λz=>(C1.mp<|I.stkSub p.1 z).elim ne l).2 n
def aKU{EE:St->XK}{e:Uc}{d:Obj}(bd:Body X)(I:Inv X cp σ H s)(i:s.heap.get? e=Z d)(hn:H e=Y)(r:X.s₀.heap.get? e=Y)(g:∀p∈X.pn,p.1≠e)(j:d.data=.fields vs)(t:1<vs.size)(c:vs[1]?=Z .none)
 (q:EE σ d.cls d.dict H):XS X EE (.ref e) s:=by
 have k:e∉frs X.stack:=λhm=>by
  let⟨_,o,v,h⟩:=I.stack.mem hm;exact lR i j v h rfl
 have get:∀b o,b≠e->b∉frs X.stack->s.heap.get? b=Z o->(PySem.W.hideAll s.heap (e::frs X.stack)).get? b=Z o:=λb o c f w=>PySem.W.hideAll_get _ w λhm=>(C1.mp hm).elim c f;refine⟨e,d.cls,d.dict,Y,σ,H,PySem.W.hideAll s.heap (e::frs X.stack),rfl,I.pins_of λp g=>absurd g 67,⟨λb u o c f=>?_,λb o c f=>?_,λp c=>?_⟩,⟨λb o c=>PySem.W.of_hideAll _ c,PySem.W.hideAll_none _ B0,?_,d,vs,i,⟨rfl,rfl⟩,j,t,c⟩,.inl rfl,q⟩
 .exact get b o (aX c hn) (λz=>by rw[I.stkFree b z]at c;cases c) f
 .let⟨l,⟨m,x⟩,y⟩:=I.entry bd c f;have ne:b≠e:=λz=>by rw[z,r]at c;cases c
  exact⟨⟨m,get b m ne l x⟩,λn=>get b o ne l (y n).1⟩
 .let⟨A,n,ne,k,_⟩:=I.pin p<|E2 _ c;exact get p.1 p.2 (g p c) (λz=>(C1.mp<|I.stkSub p.1 z).elim ne k) A
 .exact PySem.W.funFrames_hide I.stack λenv hm a ha=>A7 _<|Z9.mpr ⟨env,hm,ha⟩
def aEK(bd:Body X):PassesOwn (bx X.prog X.w) X.A X.env (XS X EE):=by
 rintro ev s ⟨e,c,dx,st,σ,H,B,rfl,I,k,F,a,q⟩;have b:=I.ok.frames;rw[bd.stk]at b F;refine aGP b bd.fr F a λh' d u=>?_;let⟨f,g⟩:=I.up bd k d.stays u;exact⟨e,c,dx,_,σ,H,B,rfl,f,g,by rw[bd.stk];exact d,.inr (.inr rfl),q⟩
end
section
variable{P:Ue}{w:World}{K:Fg}{mg:Str->Tf}{base:Heap}{N:Tc}{qual:Str}{scope:Scope}{f:Uc}{cd:Tz}{A:Uf}{outer:Tv Env}{s:Ub}{H:Hp}{E:XK}{CX:CXT}
def WX:Body (oQ CX P w K mg base N qual scope f cd A outer s H E):=⟨rfl,rfl,rfl⟩
def Body.wish(b:Body X)(E:T0):Body (X.wish E):=⟨b.stk,b.fr,b.ex⟩
def aFM{ev:Tz}(h:XS (oQ (CX1 P w) P w K mg base N qual scope f cd A outer s H E) (λ_=>E) ev s'):(oQ (CX1 P w) P w K mg base N qual scope f cd A outer s H E).xe ev s':=by
 let⟨e,c,dx,st,σ,H',B,rfl,I,k,F,b,q⟩:=h;refine aFR I.ok.frames rfl F b λh' d u=>?_;let⟨a,g⟩:=I.up WX k d.stays u;exact⟨e,c,dx,H',B,rfl,a.os,a.bare,a.base,a.hok,d,g.trk,g.ent,q⟩
def aNf{kV doc oc:Tz}{od:Th}
 {osl:Array (Tf)} {sp:Sp} (i:K.lookup f=Z ⟨oc,od,.func (PySem.W.fnOf c qual a b scope g kV doc pm an cdv ct),osl⟩) (e:PySem.W.codeIn K cdv qual=true) (S:aT N ps scope)
 (len:∀vs H Q E,sp vs H Q E->vs.length=ps.length)
 (d:∀(A:Uf)(outer:Tv Env)(s:Ub)(H:Hp)(vs:Td)(Q:VK)(E:XK),cM k (A.deeper<|envOfC qual scope s.heap.objs.size f cdv)->sp vs H Q E->
  ∃t,PSs ((oQ (CX1 P w) P w K mg base N qual scope f cdv A outer s H E).wish (XS (oQ (CX1 P w) P w K mg base N qual scope f cdv A outer s H E) λ_=>E)) b t/\t { nx:=λ_ H'=>Q .non H',rt:=Q } (start N vs) H):
 mE P w K mg base (CX1 P w) (k+1) f (PySem.W.fnOf c qual a b scope g kV doc pm an cdv ct) ps sp:=
 aJl i e S len λA outer s H vs Q E j h=>by
  let⟨t,ht,l⟩:=d A outer s H vs Q E j h;exact⟨t,λcp s' σ H' D I m=>C7 (ht cp s' σ H' D (I.wish _) m) (λ_ _ q=>q.unwish) λ_ _ z=>aFM z,l⟩
end
structure aFo(K:Fg)(C:Uc):Prop where
 ga:PySem.W.findIn K (.ref C) "__getattribute__"=Z (Z (.builtin "BaseException.__getattribute__"))
 gh:PySem.W.findIn K (.ref C) "__getattr__"=Z Y
 be:PySem.W.subIn K (.ref C) (.type "BaseException")=Z true
 cl:(PySem.W.clsIn K C).isSome=true
section
variable{prog:Ue}{w:World}{A:Uf}{E:T0}{s:Ub}{K:Fg}{x C:Uc}{ox:Obj}{od:Tx Obj}{name:Str}
def NZ{Q:T0}(X:K.In s.heap)(I:PySem.W.InstAt s.heap x ox C od)(c:aFo K C)
 (h:bz (bx prog w) A.in1 (Builtin.«object.__getattribute__» ⟨[.ref x,.str name j],[]⟩)
  (λa s'=>match a with|.done (.ret v)=>Q v s'|.done _=>False|.again c'=>c'.quiet=true/\cg (bx prog w) A c' (λr s'=>match r with|.ok (.ret v)=>Q v s'|.ok _=>False|.error e=>E e s') s') E s):
 bz (bx prog w) A (call (.builtin "BaseException.__getattribute__") [.ref x,.str name j]) Q E s:=by
 have k:=F.entry_bexc_ga;generalize Builtin.«object.__getattribute__»=b at k h;refine wpAny_call<|codeAny_call_builtin F.excAttr_ValueError.ga.plain k ?_;have n:builtinKind "BaseException.__getattribute__"=Z .slot:=by rfl
 have i:splitId "BaseException.__getattribute__"=Z ("BaseException","__getattribute__"):=by rfl
 have l:=I.type (M:=bx prog w);have m:=PySem.W.looks_subIn (M:=bx prog w) X c.be;let⟨o,g,d,t,os⟩:=s;refine A1 ?_;refine A1<|l.at<|m.at ?_
 repeat (first|assumption|wp_step)
 refine C7 h (λa s' z=>?_) λ_ _ z=>z;obtain(_|_|_|_)|c':=a
 .exact z
 .exact z
 .exact z
 .exact z
 .exact⟨z.1,A1d z.2 λr s' q=>by cases r with
   |error e=>exact q
   |ok f=>cases f<;>exact q⟩
def aAx{fill:Bool}(X:K.In s.heap)(I:PySem.W.InstAt s.heap x ox C od)(c:aFo K C)
 (h:bz (bx prog w) A.in1 (Builtin.«object.__getattribute__» ⟨[.ref x,.str name b],[]⟩)
  (λa s'=>match a with|.done (.ret v)=>bz (bx prog w) A (handedOut v) Q E s'|.done _=>False|.again c'=>c'.quiet=true/\cg (bx prog w) A c' (λr s'=>match r with|.ok (.ret v)=>bz (bx prog w) A (handedOut v) Q E s'|_=>False) s') 75 s):
 bz (bx prog w) A (getAttrBy (.ref x) (.str name b) fill ex) Q E s:=by
 have d:=I.type (M:=bx prog w);have g:=PySem.W.looks_findIn (M:=bx prog w) X c.ga;have L2:=PySem.W.looks_findIn (M:=bx prog w) X c.gh;refine E7<|A1<|d.here<|A1<|g.here ?_;have i:(Value.builtin "BaseException.__getattribute__"==Value.builtin "object.__getattribute__")=false:=by rfl
 have j:(onTheHeap (Value.ref C)&&Value.builtin "BaseException.__getattribute__"==Value.builtin "object.__getattribute__")=false:=by rfl
 refine A1<|L2.here<|A1<|A1j<|E7 ?_;unfold callGetattribute;rw[B7 (by cases ex<;>exact C4)];refine A1<|A4 ?_;refine C7 (NZ (E:=λ_ _=>False) X I c ?_) (λv s' z=>z) λ_ _ z=>z.elim;refine C7 h (λa s' z=>?_) λ_ _ z=>z;obtain(_|_|_|_)|c':=a
 .exact z
 .exact z
 .exact z
 .exact z
 .exact⟨z.1,A1d z.2 λr s' q=>by cases r with
   |error e=>exact q
   |ok f=>cases f<;>exact q⟩
def aBN{Q:Tf->Ub->Prop}(X:K.In s.heap)(I:PySem.W.InstAt s.heap x ox C od)(c:aFo K C)(ha:PySem.W.findIn K (.ref C) "__class__"=Z (Z (.builtin "object.__class__")))
 (hn:PySem.W.specialIn K (.builtin "object.__class__") "__get__"=Z (Z (.builtin "getset_descriptor.__get__"))) (htk:PySem.W.takesIn K (.builtin "object.__class__")=Z true) (hm:PySem.W.mroIn K C (.type "object")=Z true)
 (h:Q (Z (.ref C)) { s with toks:=s.toks+1 }):bz (bx prog w) A (getAttr? (.ref x) "__class__") Q E s:=by
 have a:PySem.W.findObj K C od "__class__"=Z (.bind (.builtin "getset_descriptor.__get__") (.builtin "object.__class__")):=by
  let⟨i,b⟩:=A1l.mp c.cl;unfold PySem.W.findObj;rw[b,A2,ha,A2];simp[hn,htk]
 refine A1<|wpAny_mkText<|A1<|A1j<|aAx X I c ?_;let⟨j,g,d,t,os⟩:=s;have e:=I.type (M:=bx prog w);have f:=PySem.W.looks_find (M:=bx prog w) X I a;refine A1<|A4<|A1<|A4<|A1<|e.at<|A1<|f.at ?_;refine A1<|E7<|wpAny_call<|PySem.W.class_get X I hm ?_;refine A4 ?_;exact A4<|A4 h
def aDt(c:aFo K C)(ha:PySem.W.findIn K (.ref C) "__class__"=Z (Z (.builtin "object.__class__")))
 (hn:PySem.W.specialIn K (.builtin "object.__class__") "__get__"=Z (Z (.builtin "getset_descriptor.__get__"))) (htk:PySem.W.takesIn K (.builtin "object.__class__")=Z true) (hm:PySem.W.mroIn K C (.type "object")=Z true):
 PySem.W.KitX K (.ref x) (.ref C) (λh=>∃ox od,PySem.W.InstAt h x ox C od) where
 ty:=λ_ _ _ ⟨_,_,I⟩=>I.type
 it:=λ_ _ X _=>by
  have hc:=c.cl;unfold PySem.W.clsIn at hc;split at hc
  .rename_i c' d' cd' sl' ho;intro A' Q' E' s' k q;exact A1<|wpAny_loadPart (k _ _<|X _ _ ho)<|A4 q
  .cases hc
 ne:=λh tp dd its n sl X htp=>by
  have hc:=c.cl;refine Bool.eq_false_iff.mpr λq=>?_;have e:=Value.ref.inj<|A0f.mp q;subst e;unfold PySem.W.clsIn at hc;split at hc
  .rename_i c' d' cd' sl' ho;have z:=(X _ _ ho).symm.trans htp;cases z
  .cases hc
 ca:=λX ⟨_,_,I⟩ k=>aBN X I c ha hn htk hm k
end
section
variable{X:Cx}{cp:T1}{σ:St}{H:Hp}{s:Ub}
noncomputable def LQ(sp:Sp)(EE:St->XK)(t:TA):TE:=λσ H Q=>t σ H λvs a=>sp vs a Q<|EE σ
structure nY(P:Ue)(w:World)(K:Fg)(mg:Str->Tf)(base:Heap)(k:Nat)(x:Str)(ps:Tc)(sp:Sp):Prop where
 ex:∃f fd,mE P w K mg base (CX1 P w) k f fd ps sp/\mg x=Z (.ref f)/\PySem.W.keepIn K (.ref f)=true/\Binds K fd ps []
structure XOk(X:Cx)(EE:St->XK):Prop where
 bd:Body X
 pass:∀ev s,XS X EE ev s->X.xe ev s
 own:PassesOwn (bx X.prog X.w) X.A X.env X.xe
def XOk.of{X:Cx}(bd:Body X)(EE:St->XK):XOk (X.wish<|XS X EE) EE:=⟨bd.wish _,λ_ _ h=>h.unwish,aEK bd⟩
def aIZ{EE:St->XK}(ok:XOk X EE)(F:mE X.prog X.w X.K X.mg X.base (CX1 X.prog X.w) k f fd ps sp)(c:cM k X.A)(d:Binds X.K fd ps [])
 (I:Inv X cp σ H s) (r:bE vs us) (h:sp vs H Q (EE σ)):bz (bx X.prog X.w) X.A (call (.ref f) us) (EP X cp σ Q) X.xe s:=by
 have i:us.length=ps.length:=by rw[<- r.length];exact F.len _ _ _ _ h
 have b:=d s us I.kIn 68;rw[J8]at b;refine wpAny_call (A1d (F.run X.A X.stack s H ⟨us,[]⟩ us vs Q (EE σ) c I.env0 b r h) λr s' a=>?_);cases r with
 |error e=>exact ok.pass _ _<|aKw ok.bd I a
 |ok g=>
  cases g with
  |ret u=>exact I.after a
  |next=>exact False.elim a
  |brk=>exact False.elim a
  |cont=>exact False.elim a
def aGr{EE:St->XK}{k:Nat}{x:Str}{ps:Tc}{sp:Sp}{p pos:Pos}{e:Ud}{es:T8}{t:TA}(ok:XOk X EE)(C:nY X.prog X.w X.K X.mg X.base k x ps sp)(g:cM k X.A)(ha:PA X (e::es) t)(i:Gl X x)
 (a:(x==("__debug__":Str))=false) (j:cb (e::es) X.env=(false,eval e X.env)::cb es X.env) (c:(backTo pos<|cb es X.env).any (·.1)=false):
 PE X (.Call (.Name x p) (e::es) [] pos) (LQ sp EE t):=by
 intro cp s σ H Q I h;let⟨f,fd,F,m,kp,b⟩:=C.ex;refine Z0<|vF I i m ?_ a;exact PySem.W.callWith_K I.ok.mod.kin kp (thn (ha pos cp s σ H _ I h) λus s1 ⟨vs,l,d,r,q⟩=>⟨d.kIn,aIZ ok F g b d r q⟩) j c
noncomputable abbrev bmV:T4:=[.type "ValueError",.type "Exception",.type "BaseException",.type "object"]
def aHl(X:K.In h)(q:PySem.W.excIn K C b c=true):
 ∃bm N nm j bs hd k sub m a o d e f g i p,h.get? C=Z (excClassObj nm j C N bs bm hd k sub m a o d e f g i c)/\h.Ns N p/\p "__init__"=Y/\OwnTail h b bm:=by
 unfold PySem.W.excIn at q;split at q
 case h_2=>cases q
 case h_1 o t sl u=>
  split at q
  case h_2=>cases q
  case h_1 D bm d e f g n i hm hs=>
   simp only[A9,A0f,Bool.not_eq_true']at q;let⟨⟨⟨⟨⟨v,w⟩,x⟩,y⟩,r⟩,z⟩:=q;subst v w;cases t with
   |mk nm bs A ns j hd k sub m a B=>
    cases hm;cases x
    have es:sl=#[d,e,f,g,Z (.builtin n),i]:=by
     cases sl with
     |mk l=>exact Z7 Array.mk hs
    cases es;exact⟨bm,ns,nm,j,bs,hd,k,sub,m,a,o,d,e,f,g,i,_,X _ _ u,.of_isNs (PySem.W.isNs_of_in X r),PySem.W.nsMap_none_of_in X r z,PySem.W.tail_of_in X y⟩
def NQ(EE:St->XK)(C:Uc):TS:=λ_ σ H=>EE σ (.ref C) Y H
def aBa{cpos:Pos}(ok:XOk X EE)(g:X.calm=true)(hm:X.mg x=Z (.ref C))(q:PySem.W.excIn X.K C bmV "ValueError.__new__"=true)(i:Gl X x)
 (a:(x==("__debug__":Str))=false):PS X (.Raise (Z (.Call (.Name x f) [] [] cpos)) Y pos) (NQ EE C):=by
 intro cp s σ H D I h;let⟨bm,N,nm,w,bs,hd,y,sub,A,j,B,E,G,J,L,O,P,k,l,m,b⟩:=aHl I.kIn q
 refine wpAny_Raise_call_subT
  F.excBase_ValueError (b.hasType F.excBase_ValueError.hasBase) (I.ok.hd g) rfl m (vF I i hm ⟨rfl,evalArgs_empty ⟨rfl,E6 _,k,l,b,λh' e mk=>ok.pass _ _ ?_⟩⟩ a)
 let⟨t,n,_,_⟩:=mk.there;have r:Inv X cp σ H { s with heap:=h' }:=I.kept mk.keeps
 have hn:H e=Y:=by
  cases z:H e with
  |none=>rfl
  |some u=>
   let⟨o,c⟩:=(I.hok e u z).there;rw[mk.new]at c;cases c
 refine aKU ok.bd r n hn ?_ (λp v z=>?_) rfl (show 1<6 by decide) rfl h
 .cases z:X.s₀.heap.get? e with
  |none=>rfl
  |some o=>
   let⟨Q,d⟩:=I.base.there e o z (by rw[ok.bd.ex];simp);rw[mk.new]at d;cases d
 .have:=(I.pin p<|E2 _ v).1;rw[z,mk.new]at this;cases this
end
def hCx(X:Cx)(e:Uc):Cx:={ X with A:=X.A.mark<|Z (.ref e),calm:=false,xe:=λ_ _=>False }
noncomputable def GI(X:Cx)(cp:T1):Cx:={ X with pn:=X.pn++cp }
section
variable{X:Cx}{cp:T1}{σ:St}{H:Hp}{s:Ub}
def Inv.toH(I:Inv X cp σ H s)(e:Uc):Inv (hCx X e) cp σ H s:=
 ⟨⟨I.ok.mod,I.ok.kind,I.ok.glob,I.ok.blt,I.ok.above,I.ok.inj,I.ok.has,I.ok.cab,λz=>(by cases z),I.ok.frames,I.ok.stk,I.ok.exf,I.ok.bs,I.ok.bsz,I.ok.noex,I.ok.exfs,I.ok.funs,I.ok.frf⟩,I.os,I.bare,I.base,I.loc,I.cell,I.free,I.freeC,I.pin,I.hok,I.len⟩
def Inv.ofH(I:Inv (hCx X e) cp σ H s)(ok:X.Ok):Inv X cp σ H s:=⟨ok,I.os,I.bare,I.base,I.loc,I.cell,I.free,I.freeC,I.pin,I.hok,I.len⟩
def Inv.toP(I:Inv X cp σ H s):Inv (GI X cp) [] σ H s:=
 ⟨⟨I.ok.mod,I.ok.kind,I.ok.glob,I.ok.blt,I.ok.above,I.ok.inj,I.ok.has,I.ok.cab,I.ok.hd,I.ok.frames,I.ok.stk,I.ok.exf,I.ok.bs,I.ok.bsz,I.ok.noex,I.ok.exfs,I.ok.funs,I.ok.frf⟩,I.os,I.bare,I.base,I.loc,I.cell,I.free,I.freeC,λp a=>I.pin p (by rw[J8]at a;exact a),I.hok,I.len⟩
def Inv.ofP(I:Inv (GI X cp) [] σ H s)(ok:X.Ok):Inv X cp σ H s:=⟨ok,I.os,I.bare,I.base,I.loc,I.cell,I.free,I.freeC,λp a=>I.pin p (by rw[J8];exact a),I.hok,I.len⟩
def Inv.track{e:Uc}{a:Obj}(I:Inv X cp σ H s)(d:s.heap.get? e=Z a)(f:a.data=.fields vs)(hn:H e=Y)(j:X.s₀.heap.get? e=Y)(l:∀p∈X.pn++cp,p.1≠e):
 Inv X cp σ (upd H e (.ext (OX e a.cls a.dict false))) s:=by
 have ne:∀b u,H b=Z u->b≠e:=λb u z=>aX z hn;refine⟨I.ok,I.os,I.bare,⟨I.base.keep,I.base.slot,λb o q n r=>?_,I.base.there,λb xs q=>?_,λb o u q=>?_,λb ps q=>?_⟩,I.loc,I.cell,?_,λx c q=>?_,λp h=>?_,λb u q=>?_,I.len⟩
 .rw[aO (λz=>by rw[z,j]at q;cases q)];exact I.base.free b o q n r
 .have:=I.base.tups b xs q;rw[aO (ne _ _ this)];exact this
 .have:=I.base.frzs b o u q;rw[aO (ne _ _ this)];exact this
 .let⟨more,this⟩:=I.base.tbls b ps q;exact⟨more,by rw[aO (ne _ _ this)];exact this⟩
 .let⟨m,⟨o,es,ep,g,hd,_⟩,_⟩:=I.loc;rw[aO (lR d f g λws z=>by rw[hd]at z;cases z)];exact I.free
 .let⟨v,o,g,hd⟩:=I.cell x c q;rw[aO (lR d f g λws z=>by rw[hd]at z;cases z)];exact I.freeC x c q
 .let⟨t,w,y⟩:=I.pin p h;exact⟨t,by rw[aO (l p h)];exact w,y⟩
 .by_cases i:b=e
  .subst i;rw[aS]at q;cases q;exact⟨⟨a,vs,d,rfl,rfl,f,λz=>by cases z⟩,⟨a,d⟩,λC D ⟨o,ws,A,B⟩ k=>⟨o,ws,k o A,B⟩⟩
  .rw[aO i]at q;exact(I.hok b u q).stay (λ_ _ _ z=>z) (λc z=>by rw[aO (ne _ _ z)];exact z) λc xs z=>by rw[aO (ne _ _ z)];exact z
def uX{M:Model}{i:Nat}{x:Str}{Q:Unit->Ub->Prop}(I:Inv X cp σ H s)(F:X.N.Nodup)(hi:X.N[i]?=Z x)(G:X.env.scope.names.lookup x=Z .local)
 (h:∀s',Inv X cp (σ.set i Y) H s'->Q () s'):bz M A (do bindName X.env x .none;unbindBehindTheSuite X.env x pos) Q E s:=by
 let⟨m,hn,J⟩:=id I.loc;have g:(X.env.scope.kind==.class || (X.env.scope.kind==.module&&X.env.locals != X.env.globals))=false:=by rw[I.ok.kind];rfl
 have l:i<σ.length:=by rw[I.len];exact(B9.mp hi).1
 let⟨V,_,_,L,_⟩:=id hn;refine wpAny_nameGoes_keeps G hn g λh' v w hs=>h _ ?_;have a:∀b o,X.s₀.heap.get? b=Z o->b≠X.env.locals:=λb o q=>C2<|C9 (B2 q) I.ok.above;refine⟨I.ok,I.os,I.bare,⟨λb o q n B r=>(hs.2 b<|a b o q).trans (I.base.keep b o q n B r),λb o q n B r=>?_,I.base.free,λb o q r=>?_,I.base.tups,I.base.frzs,I.base.tbls⟩,⟨_,w,λj y O f t P=>?_⟩,λy c q=>?_,I.free,I.freeC,λp R=>?_,λb u q=>?_,by simpa using I.len⟩
 .let⟨sl,f⟩:=I.base.slot b o q n B r;exact⟨sl,(hs.2 b<|a b o q).trans f⟩
 .let⟨o',f⟩:=I.base.there b o q r;exact⟨o',(hs.2 b<|a b o q).trans f⟩
 .have C:j≠i:=λz=>by
   subst z;rw[F0 l]at t;cases t
  rw[F6 (Y6 C)]at t;let⟨S,T,z⟩:=J j y O f t P;refine⟨S,T,?_⟩;obtain⟨k,e⟩|⟨k,c,e,z⟩:=z
  .have:y≠x:=λe=>C<|EA F f (e▸hi);exact .inl ⟨k,by simp[this,e]⟩
  .exact .inr ⟨k,c,e,z.sameBut hs<|I.cne y c e⟩
 .let⟨D,z⟩:=I.cell y c q;exact⟨D,z.sameBut hs<|I.cne y c q⟩
 .let⟨e,n,ne,U,d⟩:=I.pin p R;exact⟨(hs.2 p.1 ne).trans e,n,ne,U,d⟩
 .refine(I.hok b u q).stay (λc D hc z=>(hs.2 c ?_).trans z) (λ_ z=>z) λ_ _ z=>z;rintro rfl;obtain rfl|hc:=hc
  .rw[I.free]at q;cases q
  .rw[I.free]at hc;cases hc
structure HR where
 c:Tz
 n:Tg
 t:TS
def unbN:Tg->St->St
 |none,σ=>σ
 |some i,σ=>σ.set i Y
def setN:Tg->St->V->St
 |none,σ,_=>σ
 |some i,σ,v=>σ.set i<|Z v
def aFs(D:Ends)(n:Tg):Ends:={ nx:=λσ H=>D.nx (unbN n σ) H,rt:=D.rt,bk:=λσ H=>D.bk (unbN n σ) H,ct:=λσ H=>D.ct (unbN n σ) H }
def tHs(K:Fg)(D:Ends):Tv HR->St->XK
 |[],_,_,_,_=>False
 |h::r,σ,c,dx,H=>∃b,PySem.W.exmOne K c h.c=Z b/\(if b=true then ∀e,H e=Y->h.t (aFs D h.n) (setN h.n σ (.ref e)) (upd H e (.ext (OX e c dx false)))else tHs K D r σ c dx H)
def aEp(X:Cx)(hs:Tv ExceptHandler)(rs:Tv HR):Prop:=∀(cp:T1)(D:Ends)(e:Uc)(c:Tz)(dx:Th)(σ:St)(H:Hp)(s:Ub)(B:Heap)(E:T0),X.Ok->Inv (GI X cp) [] σ H s->Kp (GI X cp) H B s.heap->
 Fly B X.stack e c dx (Z .none) s.heap->tHs X.K D rs σ c dx H->bz (bx X.prog X.w) X.A (handleBy (.ref e) X.env hs) (SP X cp D) E s
def aLz:aEp X [] []:=λ_ _ _ _ _ _ _ _ _ _ _ _ _ _ h=>h.elim
def aCc(X:Cx)(x:Str)(c:Tz):Prop:=X.mg x=Z c\/(X.mg x=Y/\bootBuiltins x=Z c/\x≠"__name__")
def aLj{Q:T0}(n:aCc X x c)(I:Inv X cp σ H s)(a:Gl X x)(hd:(x==("__debug__":Str))=false)(h:Q c s):
 bz (bx X.prog X.w) X.A (eval (.Name x pos) X.env) Q E s:=by
 obtain m|⟨m,b,z⟩:=n
 .exact vF I a m h hd
 .exact iI I a m b h z hd
def Fly.fresh{B h:Heap}{st:_}(bd:Body X)(I:Inv X cp σ H s)(k:Kp X H B s.heap)(F:Fly B X.stack e c dx st s.heap):H e=Y/\X.s₀.heap.get? e=Y/\∀p∈X.pn,p.1≠e:=by
 let⟨d,vs,a,_,_,f⟩:=F.obj;refine⟨?_,?_,λp g z=>?_⟩
 .cases z:H e with
  |none=>rfl
  |some u=>
   have:=k.trk e u d z a;rw[F.new]at this;cases this
 .cases z:X.s₀.heap.get? e with
  |none=>rfl
  |some o=>
   by_cases b:e∈X.fs
   .let⟨_,j,i,hn⟩:=I.funs.mem b;exact absurd rfl<|lR a f i hn
   .let⟨⟨o',q⟩,_⟩:=k.ent e o z b;rw[F.new]at q;cases q
 .have:=k.pin p g;rw[z,F.new]at this;cases this
def aON(X:Cx):Tx Str->Tg->Prop
 |none,none=>True
 |some n,some i=>X.N.Nodup/\X.N[i]?=Z n/\X.env.scope.names.lookup n=Z .local
 |_,_=>False
def aFX{pos:Pos}{l:Stmt}{g:Ta}{h:HR}(bd:Body X)(V:aCc X x h.c)(hg:Gl X x)(hd:(x==("__debug__":Str))=false)
 (hn:aON X nm h.n)
 (hS:∀e,PSs (hCx X e) (l::g) h.t) (hR:aEp X hs rs):aEp X (.ExceptHandler (Z (.Name x U)) nm (l::g) pos::hs) (h::rs):=by
 intro cp D e c dx σ H s B E ok I k F y;let⟨b,hb,y⟩:=y;have J:Body (GI X cp):=⟨bd.stk,bd.fr,bd.ex⟩;let⟨oe,vs,he,L,_,hv⟩:=F.obj;have LT:PySem.W.Looks (bx X.prog X.w) s.heap (typeOf (.ref e)) c:=L▸(PySem.W.Looks.ld he).andThen .now;have IH:=(I.ofP ok).toH e;refine wpAny_handleBy_cons (codeAny_handlers_test<|aLj (X:=hCx X e) V IH hg hd ?_) (by intro z;cases z);refine(PySem.W.exm_one IH.kIn LT hb).here ?_;cases b with
 |false=>exact hR cp D e c dx σ H s B E ok I k F y
 |true=>
  have T:=F
  have go:∀(P:Ub->Prop),(∀s',Inv X cp σ (upd H e (.ext (OX e c dx false))) s'->P s')->bz (bx X.prog X.w) (X.A.mark<|Z (.ref e)) (setFlight (.ref e) Y) (λ_ s1=>P s1) (notedBy (bx X.prog X.w) (X.A.mark<|Z (.ref e)) X.env λx s'=>cameBackBy (bx X.prog X.w) X.A X.env E x s') s:=λP hP=>by
   refine DK T λh1 F1 u1=>hP _ ?_;let⟨o,k1⟩:=I.up J k F1.stays u1;let⟨n1,n2,n3⟩:=Fly.fresh (h:=h1) J o k1 F1;let⟨a0,a1,N,O,Q,R⟩:=F1.obj;have C:=Inv.track o N R n1 n2 λp hp=>n3 p 68;rw[O,Q]at C;exact C.ofP ok
  have S:=(Fly.fresh (h:=s.heap) J I k T).1;have G:=y e S;cases nm with
  |none=>
   cases j:h.n with
   |some i=>rw[j]at hn;exact False.elim hn
   |none=>
    rw[j]at G;refine codeAny_handlers_suite (go _ λs1 o=>?_);refine C7 (hS e cp s1 σ _ (aFs D Y) (o.toH e) G) (λf s2 z=>?_) λ_ _ z=>z.elim;cases f with
    |next=>let⟨a,H',d,q⟩:=z;exact⟨a,H',d.ofH ok,q⟩
    |brk=>let⟨a,H',d,q⟩:=z;exact⟨a,H',d.ofH ok,q⟩
    |cont=>let⟨a,H',d,q⟩:=z;exact⟨a,H',d.ofH ok,q⟩
    |ret u=>let⟨v,a,H',d,r,q⟩:=z;exact⟨v,a,H',d.ofH ok,r,q⟩
  |some n=>
   cases j:h.n with
   |none=>rw[j]at hn;exact False.elim hn
   |some i=>
    rw[j]at hn G;let⟨nd,hi,lo⟩:=hn;refine codeAny_handlers_suite_as (go _ λs1 o=>?_);refine tT o nd hi (.inl lo) (v:=.ref e) rfl (λs2 C=>?_) (.inr lo);refine C7 (hS e cp s2 _ _ (aFs D<|Z i) (C.toH e) G) (λf s3 z=>?_) λ_ _ z=>z.elim;cases f with
    |next=>let⟨a,H',d,q⟩:=z;exact uX (d.ofH ok) nd hi lo λs4 m=>⟨_,H',m,q⟩
    |brk=>let⟨a,H',d,q⟩:=z;exact uX (d.ofH ok) nd hi lo λs4 m=>⟨_,H',m,q⟩
    |cont=>let⟨a,H',d,q⟩:=z;exact uX (d.ofH ok) nd hi lo λs4 m=>⟨_,H',m,q⟩
    |ret u=>let⟨v,a,H',d,r,q⟩:=z;exact uX (d.ofH ok) nd hi lo λs4 m=>⟨v,_,H',m,r,q⟩
def aKO(K:Fg)(tb:(St->XK)->TS)(rs:Tv HR):TS:=λD σ H=>tb (tHs K D rs) D σ H
def aMs{b:Ta}{d:ExceptHandler}{hs:Tv ExceptHandler}{pos:Pos}{tb:(St->XK)->TS}(bd:Body X)
 (o:∀cp EE,PSs ((GI X cp).wish (XS (GI X cp) EE)) b<|tb EE) (p:aEp X (d::hs) rs):PS X (.Try b (d::hs) [] [] pos) (aKO X.K tb rs):=by
 intro cp s σ H D I h;have j:Body (GI X cp):=⟨bd.stk,bd.fr,bd.ex⟩;refine wpAny_Try_except (C7 (o cp (tHs X.K D rs) [] s σ H D (I.toP.wish _) h) (λf s1 z=>?_) λev s1 z=>?_)
 .cases f with
  |next=>let⟨a,H',g,q⟩:=z;exact A2v ⟨a,H',g.unwish.ofP I.ok,q⟩
  |brk=>let⟨a,H',g,q⟩:=z;exact⟨a,H',g.unwish.ofP I.ok,q⟩
  |cont=>let⟨a,H',g,q⟩:=z;exact⟨a,H',g.unwish.ofP I.ok,q⟩
  |ret u=>let⟨v,a,H',g,r,q⟩:=z;exact⟨v,a,H',g.unwish.ofP I.ok,r,q⟩
 .let⟨e,c,dx,st,k,t,B,rfl,m,w,F1,l,q⟩:=z;have n:=m.ok.frames;have i:=F1;rw[j.stk]at i n;refine NP n j.fr i l λG F2 x=>DK F2 λJ F3 y=>?_;let⟨A,C⟩:=m.up j w F2.stays x;let⟨E,F⟩:=A.up j C F3.stays y;exact p cp D e c dx k t _ B _ I.ok E F (by rw[bd.stk];exact F3) q
end
structure Exc where
 nm:Str
 fs:Tu
inductive Rs where
 |v (x:CD)|x (e:Exc)
inductive aPJ where
 |o (o:Out)|xc (γ:Ga) (e:Exc)
abbrev EX:=Ga->Sto->Option (Rs×Sto)
abbrev AX:=Ga->Sto->Option ((List CD ⊕ Exc)×Sto)
abbrev SFX:=Ga->Sto->Tx (aPJ×Sto)
abbrev FX:=T5->Sto->Tx (Rs×Sto)
section
variable(K:Fg)
def ExR(W:Wd)(ex:Exc)(c:Tz)(dx:Th):Prop:=c=.ref (bI K ex.nm)/\OH K W dx ex.fs
def aJR(E:XK)(Q:VK)(W:Wd)(H:Hp):Rs->Prop
 |.v x=>∀v,bW K W x v->Q v H
 |.x ex=>∀c dx,ExR K W ex c dx->E c dx H
def SEX(EE:St->XK)(t:TE)(f:EX):Prop:=∀a M r M',f a M=Z (r,M')->∀(W:Wd)(H:Hp)(σ:St)(Q:VK),Good K W M H->bX K W a σ->(∀W' H',W.Ext W'->Good K W' M' H'->aJR K (EE σ) Q W' H' r)->t σ H Q
def aOV(E:XK)(Q:Td->Hp->Prop)(W:Wd)(H:Hp):T5 ⊕ Exc->Prop
 |.inl xs=>∀vs,bQ K W xs vs->Q vs H
 |.inr ex=>∀c dx,ExR K W ex c dx->E c dx H
def SAX(EE:St->XK)(t:TA)(f:AX):Prop:=∀a M r M',f a M=Z (r,M')->∀(W:Wd)(H:Hp)(σ:St)(Q:Td->Hp->Prop),Good K W M H->bX K W a σ->(∀W' H',W.Ext W'->Good K W' M' H'->aOV K (EE σ) Q W' H' r)->t σ H Q
def aMe(EE:St->XK)(D:Ends)(W:Wd)(H:Hp):aPJ->Prop
 |.o o=>aFj K D W H o
 |.xc a ex=>∀σ c dx,bX K W a σ->ExR K W ex c dx->EE σ c dx H
def SSX(EE:St->XK)(t:TS)(f:SFX):Prop:=∀a M o M',f a M=Z (o,M')->∀(W:Wd)(H:Hp)(σ:St)(D:Ends),Good K W M H->bX K W a σ->(∀W' H',W.Ext W'->Good K W' M' H'->aMe K EE D W' H' o)->t D σ H
def spX(f:FX):Sp:=λvs H Q E=>∃xs M W r M',Good K W M H/\bQ K W xs vs/\f xs M=Z (r,M')/\∀W' H',W.Ext W'->Good K W' M' H'->aJR K E Q W' H' r
end
def liE(f:EF):EX:=λa M=>(f a M).bind λr=>Z (.v r.1,r.2)
def liA(f:AF):AX:=λa M=>(f a M).bind λr=>Z (.inl r.1,r.2)
def liS(f:SF):SFX:=λa M=>(f a M).bind λr=>Z (.o r.1,r.2)
def FU(f:EX)(g:AX):AX:=λa M=>(f a M).bind λr=>match r.1 with
 |.x e=>Z (.inr e,r.2)
 |.v x=>(g a r.2).bind λq=>match q.1 with
  |.inr e=>Z (.inr e,q.2)
  |.inl xs=>Z (.inl (x::xs),q.2)
def aPP(f:EX)(k:CD->Sto->Tx (Rs×Sto)):EX:=λa M=>(f a M).bind λr=>match r.1 with
 |.x e=>Z (.x e,r.2)
 |.v x=>k x r.2
def BY(f:AX)(k:T5->Sto->Tx (Rs×Sto)):EX:=λa M=>(f a M).bind λr=>match r.1 with
 |.inr e=>Z (.x e,r.2)
 |.inl xs=>k xs r.2
def okR(o:Tx (CD×Sto)):Tx (Rs×Sto):=o.bind λr=>Z (.v r.1,r.2)
def kM(h:FX)(f:AX):EX:=BY f h
def xCB(h:FN)(f:AX):EX:=BY f λxs M=>okR<|h xs M
def xX(f g:SFX):SFX:=λb M=>(f b M).bind λr=>match r.1 with
 |.o (.nx a)=>g a r.2
 |o=>Z (o,r.2)
def aOU(f:EX):SFX:=λa M=>(f a M).bind λr=>match r.1 with
 |.x e=>Z (.xc a e,r.2)
 |.v x=>Z (.o (.rt x),r.2)
def qZ(f:EX):SFX:=λa M=>(f a M).bind λr=>match r.1 with
 |.x e=>Z (.xc a e,r.2)
 |.v _=>Z (.o (.nx a),r.2)
def CB(f:EX)(g:GF):SFX:=λa M=>(f a M).bind λr=>match r.1 with
 |.x e=>Z (.xc a e,r.2)
 |.v x=>(g x a r.2).bind λq=>Z (.o (.nx q.1),q.2)
noncomputable def PZ(c:TF)(f g:SFX):SFX:=λa M=>(c a M).bind λr=>if r.1=true then f a r.2 else g a r.2
def DX(nm:Str):SFX:=λa M=>Z (.xc a ⟨nm,[]⟩,M)
def fnX(ps N:Nat)(b:SFX):FX:=λxs M=>if xs.length=ps then(b (xs.map Z++List.replicate (N-xs.length) Y) M).bind λr=>match r.1 with
 |.o (.rt x)=>Z (.v x,r.2)
 |.o (.nx _)=>Z (.v (.d .none),r.2)
 |.xc _ e=>Z (.x e,r.2)
 |_=>Y else Y
def aEr:Tg->Ga->Ga
 |none,a=>a
 |some i,a=>a.set i Y
def setG:Tg->Ga->CD->Ga
 |none,a,_=>a
 |some i,a,x=>a.set i<|Z x
def aQq(n:Tg):Out->Out
 |.nx a=>.nx (aEr n a)
 |.bk a=>.bk (aEr n a)
 |.ct a=>.ct (aEr n a)
 |.rt x=>.rt x
structure HMi where
 tab:Tv (Str×Bool)
 n:Tg
 f:SF
def NS:Tv HMi->Ga->Exc->Sto->Tx (Out×Sto)
 |[],_,_,_=>Y
 |h::r,a,ex,M=>match h.tab.lookup ex.nm with
  |some true=>(h.f (setG h.n a (.c M.length)) (M++[.exc false ex.nm ex.fs])).bind λq=>Z (aQq h.n q.1,q.2)
  |some false=>NS r a ex M
  |none=>Y
def ET(b:SFX)(hs:Tv HMi):SF:=λc M=>(b c M).bind λr=>match r.1 with
 |.o o=>Z (o,r.2)
 |.xc a ex=>NS hs a ex r.2
section
variable{K:Fg}{EE:St->XK}{ta tb:TE}{tA:TA}{t u:TS}{f g:EX}{fa:AX}{p q:SFX}{tt:TT}{ft:TF}{tg:TG}{hg:GF}
def aNW{f:AF}(a:SA K tA f):SAX K EE tA (liA f):=by
 intro i M r M' h W H σ Q G R k;let⟨⟨x,M1⟩,b,h⟩:=aH h;cases h;exact a _ _ _ _ b W H σ Q G R λv W' H' e c d=>k W' H' e c v d
def aLq{f:SF}(a:SS K t f):SSX K EE t (liS f):=by
 intro d M r M' h W H σ D G R k;let⟨⟨x,M1⟩,b,h⟩:=aH h;cases h;exact a _ _ _ _ b W H σ D G R λW' H' e c=>k W' H' e c
def aDP(a:SEX K EE ta f)(b:SAX K EE tA fa):SAX K EE (sW ta tA) (FU f fa):=by
 intro o M r M' h W H σ Q G R k;let⟨⟨x,M1⟩,s,h⟩:=aH h;refine a _ _ _ _ s W H σ _ G R λi j c l=>?_;cases x with
 |x e=>cases h;exact k i j c l
 |v x=>
  intro v w;let⟨⟨y,M2⟩,z,h⟩:=aH (show(fa o M1).bind _=_ from h);refine b _ _ _ _ z i j σ _ l (R.up c) λm n d G2=>?_;cases y with
  |inr e=>cases h;exact k m n (c.trans d) G2
  |inl xs=>cases h;exact λvs rs=>k m n (c.trans d) G2 _ (.cons (w.up d) rs)
def aDO{h:FX}(a:SAX K EE tA fa):SEX K EE (LQ (spX K h) EE tA) (kM h fa):=by
 intro s M r M' b W H σ Q G R k;let⟨⟨x,M1⟩,j,b⟩:=aH b;refine a _ _ _ _ j W H σ _ G R λc l d i=>?_;cases x with
 |inr e=>cases b;exact k c l d i
 |inl xs=>exact λvs rs=>⟨xs,M1,c,r,M',i,rs,b,λm n o G2=>k m n (d.trans o) G2⟩
def aNc(pn:PN K r h)(a:SAX K EE tA fa):SEX K EE (tCB r tA) (xCB h fa):=by
 intro z M A M' b W H σ Q G R k;let⟨⟨x,M1⟩,m,b⟩:=aH b;refine a _ _ _ _ m W H σ _ G R λd i j l=>?_;cases x with
 |inr e=>cases b;exact k d i j l
 |inl xs=>
  intro vs rs;let⟨⟨y,M2⟩,n,b⟩:=aH (show(h xs M1).bind _=_ from b);cases b;exact pn _ _ _ _ n d i vs Q l rs λw o s v G2 c=>k o s (j.trans v) G2 w c
def aIV(a:SSX K EE t p)(b:SSX K EE u q):SSX K EE (aLb t u) (xX p q):=by
 intro y M o M' c W H σ D G R k;let⟨⟨x,M1⟩,n,c⟩:=aH c;refine a _ _ _ _ n W H σ _ G R λh i j l=>?_;cases x with
 |xc d e=>cases c;exact k h i j l
 |o x=>
  cases x with
  |nx d=>exact λm r=>b _ _ _ _ c h i m D l r λs v w G2=>k s v (j.trans w) G2
  |bk d=>cases c;exact k h i j l
  |ct d=>cases c;exact k h i j l
  |rt x=>cases c;exact k h i j l
def aCm(a:SEX K EE ta f):SSX K EE (aEn ta) (qZ f):=by
 intro m M o M' b W H σ D G R k;let⟨⟨x,M1⟩,l,b⟩:=aH b;refine a _ _ _ _ l W H σ _ G R λh i d j=>?_;cases x with
 |x e=>cases b;exact λc dx z=>k h i d j σ c dx (R.up d) z
 |v x=>cases b;exact λv n=>k h i d j σ<|R.up d
def aGX(a:SEX K EE ta f)(b:SG K tg hg):SSX K EE (aAU ta tg) (CB f hg):=by
 intro n M o M' d W H σ D G R k;let⟨⟨x,M1⟩,r,d⟩:=aH d;refine a _ _ _ _ r W H σ _ G R λj l h m=>?_;cases x with
 |x e=>cases d;exact λc dx z=>k j l h m σ c dx (R.up h) z
 |v x=>
  intro v s;let⟨⟨w,M2⟩,y,d⟩:=aH (show(hg x n M1).bind _=_ from d);cases d;exact b _ _ _ _ _ y j l σ v _ m (R.up h) s λi A B C G2 R2=>k A B (h.trans C) G2 i R2
def aMw(c:STt K tt ft)(a:SSX K EE t p)(b:SSX K EE u q):SSX K EE (aIP tt t u) (PZ ft p q):=by
 intro s M o M' d W H σ D G R k;let⟨⟨x,M1⟩,r,d⟩:=aH d;refine c _ _ _ _ r W H σ _ G R λl m e n=>?_;cases x with
 |true=>rw[A8 rfl];rw[A8 rfl]at d;exact a _ _ _ _ d l m σ D n (R.up e) λh i j G2=>k h i (e.trans j) G2
 |false=>rw[B7 C4];rw[B7 C4]at d;exact b _ _ _ _ d l m σ D n (R.up e) λh i j G2=>k h i (e.trans j) G2
def aBV:SSX K EE (NQ EE<|bI K nm) (DX nm):=by
 intro b M o M' a W H σ D G R k;cases a;exact k W H (.refl _) G σ _ Y R ⟨rfl,rfl⟩
def bX.setN{γ:Ga}{n:Tg}{x:CD}{v:V}(R:bX K W γ σ)(r:bW K W x v):bX K W (setG n γ x) (setN n σ v):=by
 cases n with
 |none=>exact R
 |some i=>exact Paired.set (x:=Z x) (y:=Z v) r i R
def bX.unbN{γ:Ga}{n:Tg}(R:bX K W γ σ):bX K W (aEr n γ) (unbN n σ):=by
 cases n with
 |none=>exact R
 |some i=>exact Paired.set (x:=Y) (y:=Y) True.intro i R
inductive HsM(K:Fg):Tv HR->Tv HMi->Prop
 |nil:HsM K [] []
 |cons {h:HR} {m:HMi} {hs:Tv HR} {ms:Tv HMi} (hn:h.n=m.n) (ht:∀nm b,m.tab.lookup nm=Z b->PySem.W.exmOne K (.ref (bI K nm)) h.c=Z b) (hS:SS K h.t m.f) (r:HsM K hs ms):HsM K (h::hs) (m::ms)
theorem aCM{D:Ends}{W:Wd}{M M':Sto}{H:Hp}{γ:Ga}{σ:St}{ex:Exc}{c:Tz}{dx:Th}{o:Out}(G:Good K W M H)(R:bX K W γ σ)(E:ExR K W ex c dx):
 ∀{hs:Tv HR}{ms:Tv HMi},HsM K hs ms->NS ms γ ex M=Z (o,M')->(∀W' H',W.Ext W'->Good K W' M' H'->aFj K D W' H' o)->tHs K D hs σ c dx H
 |_,_,.nil=>λh _=>by cases h
 |_,_,@HsM.cons _ h m hs ms hn ht hS r=>λd k=>by
  let⟨rfl,v⟩:=E;unfold NS at d;cases e:m.tab.lookup ex.nm with
  |none=>rw[e]at d;cases d
  |some b=>
   rw[e]at d;refine⟨b,ht _ _ e,?_⟩;cases b with
   |false=>rw[B7 C4];exact aCM G R ⟨rfl,v⟩ r d k
   |true=>
    intro a ha;let⟨⟨y,M1⟩,z,d⟩:=aH d;have s:=d;cases s;have A:Good K (W.more a) (M++[.exc false ex.nm ex.fs]) (upd H a (.ext (OX a (.ref (bI K ex.nm)) dx false))):=G.new ha ⟨dx,rfl,v⟩;have w:=W.ext_more a;have B:bW K (W.more a) (.c M.length) (.ref a):=⟨by show M.length<W.n+1;rw[G.n];exact Y8 _,by show _=V.ref (if M.length=W.n then a else _);rw[A8 G.n.symm]⟩;rw[hn];refine hS _ _ _ _ z (W.more a) _ _ _ A ((R.up w).setN B) λC F I G2=>?_;have l:=k C F (w.trans I) G2;cases y with
    |nx i=>exact λj R2=>l _ R2.unbN
    |bk i=>exact λj R2=>l _ R2.unbN
    |ct i=>exact λj R2=>l _ R2.unbN
    |rt x=>exact l
def aNU{tb:(St->XK)->TS}{rs:Tv HR}{ms:Tv HMi}(b:∀EE,SSX K EE (tb EE) p)(h:HsM K rs ms):SS K (aKO K tb rs) (ET p ms):=by
 intro y M o M' a W H σ D G R k;let⟨⟨x,M1⟩,i,a⟩:=aH a;refine b _ _ _ _ _ i W H σ D G R λj l d e=>?_;cases x with
 |o x=>cases a;exact k j l d e
 |xc m ex=>exact λn c dx r E=>aCM e r E h a λs v w G2=>k s v (d.trans w) G2
end
section
variable{ι:Type}
structure MX(K:Fg)(X:ι->Cx)(EE:ι->St->XK)(e:Ud)(f:EX):Prop where
 ex:∃t:ι->TE,(∀i,PE (X i) e<|t i)/\∀i,SEX K (EE i) (t i) f
structure MAX(K:Fg)(X:ι->Cx)(EE:ι->St->XK)(es:T8)(f:AX):Prop where
 ex:∃t:ι->TA,(∀i,PA (X i) es<|t i)/\∀i,SAX K (EE i) (t i) f
 st:QU es
structure MSX(K:Fg)(X:ι->Cx)(EE:ι->St->XK)(st:Stmt)(f:SFX):Prop where
 ex:∃t:ι->TS,(∀i,PS (X i) st<|t i)/\∀i,SSX K (EE i) (t i) f
structure MLX(K:Fg)(X:ι->Cx)(EE:ι->St->XK)(st:Ta)(f:SFX):Prop where
 ex:∃t:ι->TS,(∀i,PSs (X i) st<|t i)/\∀i,SSX K (EE i) (t i) f
variable{K:Fg}{X:ι->Cx}{EE:ι->St->XK}{e a b c tg iter:Ud}{es:T8}{f g:EX}{fa:AX}{p q:SFX}{ft:TF}{gf:GF}{st:Stmt}{sts sts':Ta}{pos:Pos}
def HD{f:AF}(x:MA K X es f):MAX K X EE es (liA f):=by
 let⟨t,d,h⟩:=x.ex;exact⟨⟨λ_=>t,d,λ_=>aNW h⟩,x.st⟩
def KU{f:SF}(x:ML K X sts f):MLX K X EE sts (liS f):=by
 let⟨t,d,h⟩:=x.ex;exact⟨λ_=>t,d,λ_=>aLq h⟩
def max_cons(x:MX K X EE e f)(y:MAX K X EE es fa)(hs:aBI e es:=by intro _;rfl):MAX K X EE (e::es) (FU f fa):=by
 let⟨t,d,h⟩:=x.ex;let⟨u,j,k⟩:=y.ex;exact⟨⟨_,λi=>jV (d i) (j i)<|hs _,λi=>aDP (h i)<|k i⟩,hs,y.st⟩
def CZ{F:FX}{p:Pos}(ok:∀i,XOk (X i)<|EE i)(C:∀i,nY (X i).prog (X i).w (X i).K (X i).mg (X i).base k x ps (spX K F))(d:∀i,cM k (X i).A)(y:MAX K X EE (e::es) fa)(h:∀i,Gl (X i) x:=by intro _;rfl)(hd:(x==("__debug__":Str))=false:=by decide):
 MX K X EE (.Call (.Name x p) (e::es) [] pos) (kM F fa):=by
 let⟨u,j,l⟩:=y.ex;exact⟨_,λi=>aGr (ok i) (C i) (d i) (j i) (h i) hd (y.st.1 _)<|y.st.2.plain _ _,λi=>aDO<|l i⟩
def aEu{id:String}{F:FN}{p:Pos}(q:QN K X (.builtin id) F)(hm:∀i,(X i).mg x=Y)(d:bootBuiltins x=Z (.builtin id))(y:MAX K X EE (e::es) fa)(h:∀i,Gl (X i) x:=by intro _;rfl)(hn:x≠"__name__":=by decide)(hd:(x==("__debug__":Str))=false:=by decide):
 MX K X EE (.Call (.Name x p) (e::es) [] pos) (xCB F fa):=by
 let⟨r,j,k⟩:=q.ex;let⟨u,l,m⟩:=y.ex;exact⟨_,λi=>uH (j i) (h i) (hm i) d (l i) hn hd (y.st.1 _)<|y.st.2.plain _ _,λi=>aNc k<|m i⟩
def yE(x:MSX K X EE st p):MLX K X EE [st] p:=by
 let⟨t,d,h⟩:=x.ex;exact⟨t,λi=>XI<|d i,h⟩
def RN(x:MSX K X EE st p)(y:MLX K X EE sts q):MLX K X EE (st::sts) (xX p q):=by
 let⟨t,d,h⟩:=x.ex;let⟨u,j,k⟩:=y.ex;exact⟨_,λi=>OL (d i)<|j i,λi=>aIV (h i)<|k i⟩
def OU(x:MX K X EE e f)(hs:∀i,swapsWith e Y pos.line (X i).env=pure false:=by intro _;rfl):MSX K X EE (.Expr e pos) (qZ f):=by
 let⟨t,d,h⟩:=x.ex;exact⟨_,λi=>ZL (d i)<|hs i,λi=>aCm<|h i⟩
def aFY(i:Nat){d:Str}(h:∀j,(X j).N.Nodup)(x:MX K X EE e f)(hi:∀j,(X j).N[i]?=Z d:=by intro _;rfl)(k:∀j,Loc (X j).env.scope d:=by intro _;first|exact Or.inl rfl|exact Or.inr rfl)(hs:∀j,swapsWith e (Z (.Name d pos')) pos.line (X j).env=pure false:=by intro _;rfl)
 (l:∀j,(X j).fn d=true\/(X j).env.scope.names.lookup d=Z .local:=by intro _;first|exact .inl rfl|exact .inr rfl):MSX K X EE (.Assign [.Name d pos'] e pos) (CB f<|cq i):=by
 let⟨t,m,n⟩:=x.ex;exact⟨_,λj=>aFz (h j) (hi j) (k j) (m j) (hs j)<|l j,λj=>aGX (n j) yJ⟩
def aMP(x:MT K X c ft)(y:MLX K X EE sts p)(z:MLX K X EE sts' q):MSX K X EE (.If c sts sts' pos) (PZ ft p q):=by
 let⟨t,d,h⟩:=x.ex;let⟨u,j,k⟩:=y.ex;let⟨v,l,m⟩:=z.ex;exact⟨_,λi=>aFA (d i) (j i)<|l i,λi=>aMw h (k i)<|m i⟩
def EU{cpos:Pos}(ok:∀i,XOk (X i)<|EE i)(k:∀i,(X i).K=K)(h:∀i,(X i).calm=true)(hm:∀i,(X i).mg x=Z (.ref (bI K x)))(q:PySem.W.excIn K (bI K x) bmV "ValueError.__new__"=true)(j:∀i,Gl (X i) x:=by intro _;rfl)(hd:(x==("__debug__":Str))=false:=by decide):
 MSX K X EE (.Raise (Z (.Call (.Name x d) [] [] cpos)) Y pos) (DX x):=
 ⟨λi=>NQ (EE i)<|bI K x,λi=>aBa (ok i) (h i) (hm i) 68 (j i) hd,λ_=>aBV⟩
def aPz(X:ι->Cx):ι×T1×(St->XK)->Cx:=λj=>(GI (X j.1) j.2.1).wish (XS (GI (X j.1) j.2.1) j.2.2)
noncomputable def aQo:ι×T1×(St->XK)->St->XK:=λj=>j.2.2
def aQG(X:ι->Cx):ι×Uc->Cx:=λj=>hCx (X j.1) j.2
def aJX(bd:∀i,Body<|X i)(j:ι×T1×(St->XK)):XOk (aPz X j) (aQo (ι:=ι) j):=
 XOk.of (X:=GI (X j.1) j.2.1) ⟨(bd j.1).stk,(bd j.1).fr,(bd j.1).ex⟩ _
structure MH(K:Fg)(X:ι->Cx)(hs:Tv ExceptHandler)(ms:Tv HMi):Prop where
 ex:∃rs,(∀i,aEp (X i) hs rs)/\HsM K rs ms
def aDG:MH K X [] []:=⟨[],λ_=>aLz,.nil⟩
def LL{l:Pos}{h:Stmt}{d:Ta}{tab:Tv (Str×Bool)}{f:SF}(j:Tz)(bd:∀i,Body<|X i)(m:∀i,aCc (X i) x j)
 (hn:∀i,aON (X i) nm n)
 (ht:∀p∈tab,PySem.W.exmOne K (.ref (bI K p.1)) j=Z p.2) (hS:ML K (aQG X) (h::d) f) (r:MH K X hs ms) (o:∀i,Gl (X i) x:=by intro _;rfl) (hd:(x==("__debug__":Str))=false:=by decide):
 MH K X (.ExceptHandler (Z (.Name x k)) nm (h::d) l::hs) (⟨tab,n,f⟩::ms):=by
 let⟨t,s,u⟩:=hS.ex;let⟨rs,v,w⟩:=r.ex;refine⟨⟨j,n,t⟩::rs,λi=>aFX (bd i) (m i) (o i) hd (hn i) (λe=>s (i,e))<|v i,.cons rfl (λnm b z=>?_) u w⟩;exact ht (nm,b)<|O6 z
def aFa{d:ExceptHandler}{hs:Tv ExceptHandler}(bd:∀i,Body<|X i)(j:∀i,(X i).K=K)(x:MLX K (aPz X) (aQo (ι:=ι)) sts p)(h:MH K X (d::hs) ms):MS K X (.Try sts (d::hs) [] [] pos) (ET p ms):=by
 let⟨rs,l,m⟩:=h.ex;let⟨t,n,r⟩:=x.ex;refine⟨aKO K (λEE D σ H=>∀i cp,t (i,cp,EE) D σ H) rs,λi=>?_,aNU (λEE=>?_) m⟩
 .have:=aMs (tb:=λEE D σ H=>∀i cp,t (i,cp,EE) D σ H) (pos:=pos) (bd i) (λcp EE ps s σ H D I h=>n (i,cp,EE) ps s σ H D I<|h i cp)<|l i;rw[j i]at this;exact this
 .exact λu M o M' v W H σ D G R k i cp=>r (i,cp,EE) u M o M' v W H σ D G R k
section
variable{P:Ue}{w:World}{K:Fg}{mg:Str->Tf}{base:Heap}
abbrev aNP(P:Ue)(w:World)(K:Fg)(mg:Str->Tf)(base:Heap)(N:Tc)(x:Str)(st:Stmt)(f:Uc)(cdv:Tz)(A:Uf)(outer:Tv Env)(s:Ub)(H:Hp)(E:XK):Unit->Cx:=λ_=>
 (oQ (CX1 P w) P w K mg base N x (aI st) f cdv A outer s H E).wish (XS (oQ (CX1 P w) P w K mg base N x (aI st) f cdv A outer s H E) λ_=>E)
def YR{st:Stmt}{f:Uc}(i:Unit):XOk (aNP P w K mg base N x st f cdv A outer s H E i) ((λ_ _=>E:Unit->St->XK) i):=XOk.of WX _
def Fun.okXF{x qual:Str}{st:Stmt}{N ps:Tc}{k:Nat}{b:SFX}{f:Uc}{fd:FuncData}(Fu:Fun K x qual st f fd)(S:aT N ps (aI st))
 (i:∀(f:Uc)(cdv:Tz)(A:Uf)(outer:Tv Env)(s:Ub)(H:Hp)(E:XK),cM k (A.deeper<|envOfC qual (aI st) s.heap.objs.size f cdv)->
  MLX K (aNP P w K mg base N qual st f cdv A outer s H E) (λ_ _=>E) (bU st) b):mE P w K mg base (CX1 P w) (k+1) f fd ps (spX K (fnX ps.length N.length b)):=by
 let⟨oc,od,kV,doc,pm,an,cdv,ct,osl,rfl,F,l⟩:=Fu.ex
 have len:∀vs H Q E,spX K (fnX ps.length N.length b) vs H Q E->vs.length=ps.length:=λvs H Q E h=>by
  let⟨xs,M,W,y,M',G,R,d,_⟩:=h;by_cases j:xs.length=ps.length
  .rw[<- Paired.len R];exact j
  .unfold fnX at d;rw[B7 j]at d;cases d
 refine aNf F l S len λA outer s H vs Q E I h=>?_;let⟨t,J,L⟩:=(i f cdv A outer s H E I).ex;refine⟨t (),J (),?_⟩;let⟨xs,M,W,r,M',G,R,d,m⟩:=h
 have j:xs.length=ps.length:=by
  by_cases j:xs.length=ps.length
  .exact j
  .unfold fnX at d;rw[B7 j]at d;cases d
 unfold fnX at d;rw[A8 j]at d;let⟨⟨o,M1⟩,O,d⟩:=aH d
 have T:bX K W (xs.map Z++List.replicate (N.length-xs.length) Y) (start N vs):=by
  unfold start;rw[<- Paired.len R];exact Paired.app (bQ.some R)<|uI _
 refine L () _ _ _ _ O W H _ _ G T λn u B C=>?_;cases o with
 |xc D e=>cases d;exact λσ c dx _ z=>m n u B C c dx z
 |o o=>
  cases o with
  |rt x=>cases d;exact λv r=>m n u B C v r
  |nx D=>cases d;exact λσ r=>m n u B C .non rfl
  |bk D=>cases d
  |ct D=>cases d
def Def.okX{st:Stmt}{ps:Tc}{b:SFX}(D:Def K mg x st)(S:aT N ps (aI st))
 (h:∀(kV doc pm:Tz)(an:Th)(cdv ct:Tz)(us:T4),us.length=ps.length->bindArgs (PySem.W.fnOf x x (eK st) (bU st) (aI st) .none kV doc pm an cdv ct) ⟨us,[]⟩=pure (ps.zip us))
 (d:∀(f:Uc)(cdv:Tz)(A:Uf)(outer:Tv Env)(s:Ub)(H:Hp)(E:XK),cM k (A.deeper<|envOfC x (aI st) s.heap.objs.size f cdv)->
  MLX K (aNP P w K mg base N x st f cdv A outer s H E) (λ_ _=>E) (bU st) b):nY P w K mg base (k+1) x ps (spX K (fnX ps.length N.length b)):=by
 let⟨f,fd,Fu,m⟩:=D.ex;exact⟨f,fd,Fu.okXF S d,m,Fu.kp,Fu.binds h⟩
end
end
structure XC(K:Fg)(C:Uc):Prop where
 c:aFo K C
 ha:PySem.W.findIn K (.ref C) "__class__"=Z (Z (.builtin "object.__class__"))
 hn:PySem.W.specialIn K (.builtin "object.__class__") "__get__"=Z (Z (.builtin "getset_descriptor.__get__"))
 htk:PySem.W.takesIn K (.builtin "object.__class__")=Z true
 hm:PySem.W.mroIn K C (.type "object")=Z true
def aKB(H:Hp):Th->Prop
 |none=>True
 |some d=>∃us,H d=Z (.xd us)
inductive ClV:V->Tz->Prop
 |own (C:Uc):ClV (.ref C) (.ref C)
 |ty (T:String):ClV (.ty T) (.type T)
def ClV.is(h:ClV v c)(r:RelV v u):u=c:=by cases h<;>exact r
def aCh(K:Fg):Td->Hp->VK->Prop:=λxs H Q=>∃v d c b,xs=[v,d]/\ClV d c/\Q (.bl b) H /\
 ((v=.non/\PySem.W.kitOne K (.type "NoneType") c=Z b)\/∃a C dx fr,v=.ref a/\H a=Z (.ext (OX a (.ref C) dx fr))/\aKB H dx/\XC K C/\PySem.W.kitOne K (.ref C) c=Z b)
section
variable{X:Cx}{K:Fg}
def aCA(I:Inv X cp σ H s)(h:H a=Z (.ext (OX a (.ref C) dx fr)))(d:aKB H dx):∃c od,PySem.W.InstAt s.heap a c C od/\c.dict=dx:=by
 let⟨⟨o,vs,e,f,b,i,_⟩,_⟩:=I.hok a _ h
 have g:PySem.W.notCls o=true:=by
  let⟨_,_,dt,_⟩:=o;cases i;rfl
 cases dx with
 |none=>exact⟨o,Y,⟨e,f,g,by rw[b];exact True.intro⟩,b⟩
 |some j=>
  let⟨us,hd⟩:=d;let⟨od,q⟩:=(I.hok j _ hd).there;exact⟨o,Z od,⟨e,f,g,by rw[b];exact q⟩,b⟩
def aAD:dH X (.builtin "isinstance") (aCh X.K):=by
 intro cp s σ H vs us Q I r h;let⟨v,l,c,b,rfl,j,q,h⟩:=h;let⟨u,m,rfl,i,f⟩:=vals2 r;cases j.is f;obtain⟨rfl,e⟩|⟨a,C,dx,fr,rfl,ha,d,xc,e⟩:=h
 .cases i;exact PySem.W.kia_one PySem.W.kitx_none I.kIn True.intro e (λz=>nomatch z) λg=>⟨.bl _,H,I.tok g,rfl,q⟩
 .cases i;let⟨k,od,J,_⟩:=aCA I ha d;exact PySem.W.kia_one (aDt xc.c xc.ha xc.hn xc.htk xc.hm) I.kIn ⟨k,od,J⟩ e (λz=>nomatch z) λg=>⟨.bl _,H,I.tok g,rfl,q⟩
def aOP(h:X.K=K):dH X (.builtin "isinstance") (aCh K):=by subst h;exact aAD
def yU(tab:Tv (Str×Bool))(nn:Tx Bool)(f:EF):EF:=λa M=>(f a M).bind λr=>match r.1 with
 |.c i=>(match r.2[i]? with
  |some (.exc _ nm _)=>(tab.lookup nm).bind λb=>Z (.d (.bool b),r.2)
  |_=>Y)
 |.d .none=>nn.bind λb=>Z (.d (.bool b),r.2)
 |_=>Y
def OH.ok(r:OH K W dx fs)(s:jA W.F H):aKB H dx:=by
 cases dx with
 |none=>exact True.intro
 |some d=>let⟨_,us,h,_⟩:=r;exact⟨us,s _ _ h⟩
def Good.excAt{i:Nat}(G:Good K W M H)(h:M[i]?=Z (.exc fr nm fs)):∃dx,H (W.α i)=Z (.ext (OX (W.α i) (.ref (bI K nm)) dx fr))/\OH K W dx fs:=by
 let⟨_,o,b,a⟩:=G.cs i _ h 67;cases o with
 |ext c=>
  let⟨dx,rfl,r⟩:=a;exact⟨dx,b,r⟩
 |_=>exact False.elim a
def aHd{tab:Tv (Str×Bool)}{nn:Tx Bool}{n:TE}{f:EF}{j:V}{c:Tz}(o:ClV j c)(ht:∀p∈tab,XC K (bI K p.1)/\PySem.W.kitOne K (.ref (bI K p.1)) c=Z p.2)(hn:∀b,nn=Z b->PySem.W.kitOne K (.type "NoneType") c=Z b)
 (a:SE K n f):SE K (tCB (aCh K)<|sW n<|sW (tC j) aBf) (yU tab nn f):=by
 intro D M x M' h W H σ Q G R k;let⟨⟨y,M1⟩,w,h⟩:=aH h;refine a _ _ _ _ w W H σ _ G R λv q r s l u=>?_;cases y with
 |t _=>cases h
 |f _=>cases h
 |g _=>cases h
 |c i=>
  dsimp only at h;cases e:M1[i]? with
  |none=>rw[e]at h;cases h
  |some cl=>
   rw[e]at h;cases cl with
   |exc fr nm fs=>
    let⟨b,m,h⟩:=aH h;cases h;let⟨z,A⟩:=ht (nm,b)<|O6 m;let⟨dx,B,C⟩:=l.excAt e;exact⟨v,j,c,b,rfl,o,k _ q r s l rfl,.inr ⟨_,_,dx,fr,u.2,B,C.ok l.fh,z,A⟩⟩
   |_=>cases h
 |d y=>
  cases y with
  |none=>
   let⟨b,m,h⟩:=aH h;cases h;exact⟨v,j,c,b,rfl,o,k _ q r s l rfl,.inl ⟨u,hn b m⟩⟩
  |_=>cases h
end
section
variable{ι:Type}{K:Fg}{X:ι->Cx}{a:Ud}{f:EF}{pos:Pos}
def zS(hm:∀i,(X i).mg y=Z (.ref C))(b:∀i,Gl (X i) y:=by intro _;rfl)(hd:(y==("__debug__":Str))=false:=by decide):∀i p',PE (X i) (.Name y p') (tC (.ref C)):=λi _=>ZR (b i) (hm i) rfl hd
def vG{p p':Pos}{tab:Tv (Str×Bool)}{nn:Tx Bool}(e:∀i,(X i).K=K)(g:ClV d c)(h:∀i p',PE (X i) (.Name y p')<|tC d)(ht:∀p∈tab,XC K (bI K p.1)/\PySem.W.kitOne K (.ref (bI K p.1)) c=Z p.2)(hn:∀b,nn=Z b->PySem.W.kitOne K (.type "NoneType") c=Z b)
 (x:ME K X a f) (hs:aBI a [.Name y p']) (hm:∀i,(X i).mg "isinstance"=Y) (j:∀i,Gl (X i) "isinstance":=by intro _;rfl):ME K X (.Call (.Name "isinstance" p) [a,.Name y p'] [] pos) (yU tab nn f):=by
 let⟨t,k,l⟩:=x.ex;exact⟨_,λi=>uH (aOP<|e i) (j i) (hm i) boot_isinstance (jV (k i) (jV (h i _) FR bR)<|hs _) 66 66 (hs _)<|qH bR zU,aHd g ht hn l⟩
end
def tJ(h:FX)(f:AF):EF:=λa M=>(f a M).bind λr=>(h r.1 r.2).bind λq=>match q.1 with
 |.v x=>Z (x,q.2)
 |.x _=>Y
noncomputable def noX:St->XK:=λ_ _ _ _=>False
section
variable{X:Cx}{K:Fg}
def aDy{e:Ud}{es:T8}(C:nY X.prog X.w X.K X.mg X.base k x ps sp)(d:cM k X.A)(ha:PA X (e::es) t)(g:Gl X x)
 (a:(x==("__debug__":Str))=false) (i:cb (e::es) X.env=(false,eval e X.env)::cb es X.env) (c:(backTo pos<|cb es X.env).any (·.1)=false):
 PE X (.Call (.Name x p) (e::es) [] pos) (LQ sp noX t):=by
 let⟨f,fd,F,m,kp,b⟩:=C.ex
 exact XZ (E:=noX []) F d g m kp b .nil (λ_ _ _ _ _ _ _ h=>by let⟨_,_,_,_,_,_,_,_,_,_,_,_,_,z⟩:=h;exact z.elim) ha a i c |> λh cp s σ H Q I j=>h cp s σ H Q I (by
  show t σ H λvs l=>sp (vs++[]) l Q (noX []);simpa only[J8]using j)
def aAw{h:FX}{c:TA}{fa:AF}(a:SA K c fa):SE K (LQ (spX K h) noX c) (tJ h fa):=by
 intro q M x M' b W H σ Q G R k;let⟨⟨xs,M1⟩,d,b⟩:=aH b;let⟨⟨r,M2⟩,f,b⟩:=aH b;refine a _ _ _ _ d W H σ _ G R λvs g s i j l=>?_;refine⟨xs,M1,g,r,M2,j,l,f,λm n o G2=>?_⟩;cases r with
 |x e=>cases b
 |v y=>cases b;exact λv p=>k v m n (i.trans o) G2 p
end
def KH{ι:Type}{X:ι->Cx}{e:Ud}{es:T8}{pos:Pos}{F:FX}(C:∀i,nY (X i).prog (X i).w (X i).K (X i).mg (X i).base k x ps (spX K F))(a:∀i,cM k (X i).A)(y:MA K X (e::es) fa)(b:∀i,Gl (X i) x:=by intro _;rfl)(hd:(x==("__debug__":Str))=false:=by decide):
 ME K X (.Call (.Name x p) (e::es) [] pos) (tJ F fa):=by
 let⟨u,c,d⟩:=y.ex;exact⟨_,λi=>aDy (C i) (a i) (c i) (b i) hd (y.st.1 _)<|y.st.2.plain _ _,aAw d⟩
section
variable{K:Fg}{cv:Tz}{a:Str}{b:Bool}{l:Tv (Str×Bool)}
def EY:∀p∈([]:Tv (Str×Bool)),PySem.W.exmOne K (.ref (bI K p.1)) cv=Z p.2:=λ_ h=>absurd h 67
def lQ(h:PySem.W.exmOne K (.ref (bI K a)) cv=Z b)(r:∀p∈l,PySem.W.exmOne K (.ref (bI K p.1)) cv=Z p.2):∀p∈(a,b)::l,PySem.W.exmOne K (.ref (bI K p.1)) cv=Z p.2:=68
def vD{b:Bool}(h:PySem.W.kitOne K (.type "NoneType") cv=Z b):∀c,Z b=Z c->PySem.W.kitOne K (.type "NoneType") cv=Z c:=λc e=>by cases e;exact h
def DH(h:PySem.W.nsIn K ce nm=Z (Z (.ref C))):bI K nm=C:=by unfold bI;rw[h]
end
mutual
noncomputable def snap:Nat->Sto->CD->Tx Ua
 |_,_,.d x=>Z x
 |0,_,.c _=>Y
 |n+1,M,.c i=>match M[i]? with
  |some (.lst xs)=>(uB n M xs).bind λds=>Z (.list ds)
  |_=>Y
 |_,_,.f _=>Y
 |_,_,.g _=>Y
 |0,_,.t _=>Y
 |n+1,M,.t xs=>(uB n M<|xs.map cdA).bind λds=>Z (.tuple ds)
noncomputable def uB:Nat->Sto->T5->Tx (T3)
 |_,_,[]=>Z []
 |n,M,x::xs=>(snap n M x).bind λd=>(uB n M xs).bind λds=>Z (d::ds)
end
section
variable{K:Fg}{W:Wd}{M:Sto}{H:Hp}
def Good.lstAt'(G:Good K W M H){i:Nat}(h:M[i]?=Z (.lst xs)):∃vs,H (W.α i)=Z (.lst vs)/\bQ K W xs vs:=by
 let⟨_,o,b,a⟩:=G.cs i _ h (by intro z;cases z);cases o with
 |lst vs=>exact⟨vs,b,a⟩
 |_=>exact False.elim a
mutual
theorem xT(G:Good K W M H):∀(n:Nat)(x:CD)(d:Ua)(v:V),snap n M x=Z d->bW K W x v->Rep K H d v
 |0,.d x=>λd v h r=>by unfold snap at h;cases h;exact Rep.same G.fh _ _ r
 |n+1,.d x=>λd v h r=>by unfold snap at h;cases h;exact Rep.same G.fh _ _ r
 |0,.c i=>λd v h r=>by unfold snap at h;cases h
 |n+1,.c i=>λd v h r=>by
  unfold snap at h;cases e:M[i]? with
  |none=>rw[e]at h;cases h
  |some c=>
   rw[e]at h;cases c with
   |lst xs=>
    let⟨ds,b,h⟩:=aH (show(uB n M xs).bind _=_ from h);cases h;let⟨vs,j,l⟩:=G.lstAt' e;exact⟨W.α i,vs,r.2,SqL.of j,AV G n xs ds vs b l⟩
   |_=>cases h
 |0,.f xs=>λd v h r=>by unfold snap at h;cases h
 |n+1,.f xs=>λd v h r=>by unfold snap at h;cases h
 |0,.g xs=>λd v h r=>by unfold snap at h;cases h
 |n+1,.g xs=>λd v h r=>by unfold snap at h;cases h
 |0,.t xs=>λd v h r=>by unfold snap at h;cases h
 |n+1,.t xs=>λd v h r=>by
  unfold snap at h;let⟨ds,b,h⟩:=aH h;cases h;let⟨a,vs,rfl,j,l⟩:=r;exact⟨a,vs,rfl,SqT.of<|G.fh _ _ j,AV G n _ ds vs b<|ZP l⟩
theorem AV(G:Good K W M H):∀(n:Nat)(xs:T5)(ds:T3)(vs:Td),uB n M xs=Z ds->bQ K W xs vs->aL K H ds vs
 |_,[]=>λds vs h r=>by
  unfold uB at h;cases h;cases r;rfl
 |n,x::xs=>λds vs h r=>by
  unfold uB at h;let⟨d,b,h⟩:=aH h;let⟨es,j,h⟩:=aH h;cases h;cases r with
  |@cons _ v _ k m o=>exact⟨v,k,rfl,xT G n x d v b m,AV G n xs es k j o⟩
end
end
def pH:FN:=λxs M=>match xs with
 |[x]=>(snap 5 M x).bind λd=>if uY d=true then Z (.d (.str d.shown),M)else Y
 |_=>Y
def TU:snap n M (.d x)=Z x:=by cases n<;>simp only[snap]
def XN:pH [.d x] M=ZE [.d x] M:=by unfold pH ZE;dsimp only;rw[TU];rfl
def aEv:PN K (aJZ K) pH:=by
 intro xs M z M' h W H vs Q G r k;unfold pH at h;split at h
 .rename_i x;let⟨d,a,h⟩:=aH h;by_cases hs:uY d=true
  .rw[A8 hs]at h;cases h;obtain _|⟨b,_|_⟩:=r;have c:=hs;unfold uY at hs;rw[A9,A9]at hs;exact⟨_,d,rfl,xT G 5 x d _ a b,hs.1.1,C8 hs.1.2,C8 hs.2,k _ W H (.refl _) G rfl⟩
  .rw[B7 hs]at h;cases h
 .cases h
def DF{ι:Type}{X:ι->Cx}(a:∀i,(X i).K=K)(b:∀i,(X i).A.guards=Z [])(c:∀i,(X i).A.units+200<cLine):QN K X (.builtin "repr") pH:=⟨_,λi=>aPb (a i) (b i)<|c i,aEv⟩
open PySem PySem.Spec PyProof.Rows PySem.Builtin PySem.Builtin.ObjectAttr
end L2
namespace L2
variable{W:Wd}{M:Sto}{H:Hp}
open PySem PySem.Spec PyProof.Rows
section
variable{P:Ue}{w:World}{K:Fg}{mg:Str->Tf}{base:Heap}
def aIA{st:Stmt}{C:Uc}{oc:Tz}{od:Th}{osl:Array (Tf)}{kV doc:Tz}(a:bI K nm=C)(b:PySem.W.findIn K (.ref C) m=Z (Z (.ref f)))
 (l:K.lookup f=Z ⟨oc,od,.func (PySem.W.fnOf m qual (eK st) (bU st) (aI st) .none kV doc pm an cdv ct),osl⟩) (c:PySem.W.codeIn K cdv qual=true) (k:PySem.W.keepIn K (.ref f)=true) (fn:PySem.W.isFn K (.ref f)=true):aIf K nm m qual st:=
 ⟨f,_,aEZ l c k,by rw[a];exact b,fn⟩
end
section
variable{K:Fg}
def NK:F2:=λx y M=>(KB M x).bind λxs=>(KB M y).bind λa=>if xs.length+a.length<=bv then Z (.c M.length,M++[.lst (xs++a)])else Y
def aIH:P2 K (ZZ K) NK:=by
 intro x y M z M' h W H v u Q G c d k;let⟨xs,e,h⟩:=aH h;let⟨f,g,h⟩:=aH h;by_cases a:xs.length+f.length<=bv
 .rw[A8 a]at h;cases h;let⟨p,vs,rfl,i,b⟩:=vC G e c;let⟨q,us,rfl,j,hs⟩:=vC G g d;refine⟨p,q,vs,us,rfl,rfl,i,j,by rw[<- Paired.len b,<- Paired.len hs];exact a,λl a=>?_⟩;exact k _ (W.more l) _ (W.ext_more l) (G.new a<|Paired.app b hs) G.newV
 .rw[B7 a]at h;cases h
end
section
variable{K:Fg}
def EC(K:Fg)(c:Tz)(tab:Tv (Str×Bool)):Bool:=tab.all λp=>match PySem.W.kitOne K (.ref (bI K p.1)) c with
 |some b=>b==p.2
 |none=>false
def vB{ns:Tc}(a:∀nm∈ns,XC K<|bI K nm)(h:EC K c tab=true)(e:tab.map Prod.fst=ns):∀p∈tab,XC K (bI K p.1)/\PySem.W.kitOne K (.ref (bI K p.1)) c=Z p.2:=by
 intro p d;refine⟨a _ 68,?_⟩;have:=C3.mp h p d;split at this
 .rename_i b f;rw[f,eq_of_beq this]
 .cases this
def aGL:∀nm∈([]:Tc),XC K (bI K nm):=λ_ h=>absurd h 67
def OP{l:Tc}(x:XC K (bI K a))(r:∀nm∈l,XC K<|bI K nm):∀nm∈a::l,XC K (bI K nm):=68
end
abbrev KY:=Key ⊕ Tv Key
abbrev KF:=Ga->Sto->Tx (KY×Sto)
def aAG(W:Wd):KY->V->Prop
 |.inl k,v=>v=kV k
 |.inr ks,v=>∃b,v=.ref b/\W.F b=Z (.tup (ks.map kV))
def aAG.up(h:aAG W k v)(e:W.Ext W'):aAG W' k v:=by
 cases k with
 |inl k=>exact h
 |inr ks=>let⟨b,a,c⟩:=h;exact⟨b,a,e.ff _ _ c⟩
section
variable{K:Fg}
def SK(K:Fg)(t:TE)(f:KF):Prop:=∀a M k M',f a M=Z (k,M')->∀(W:Wd)(H:Hp)(b:St)(Q:VK),Good K W M H->bX K W a b->(∀v W' H',W.Ext W'->Good K W' M' H'->aAG W' k v->Q v H')->t b H Q
def IP(f:EF):KF:=λa M=>(f a M).bind λr=>(keyOf r.1).bind λk=>Z (.inl k,r.2)
def keysOf:T5->Tx (Tv Key)
 |[]=>Z []
 |x::xs=>(keyOf x).bind λk=>(keysOf xs).bind λks=>Z (k::ks)
def wX(fa:AF):KF:=λa M=>(fa a M).bind λr=>(keysOf r.1).bind λks=>if ks.length<=bv then Z (.inr ks,r.2)else Y
variable{t td ty tx tv:TE}{tA:TA}{f fo fx fv:EF}{fk:KF}{fa:AF}
def aKq(a:SE K t f):SK K t (IP f):=by
 intro n M k M' b W H d Q G R c;let⟨⟨x,M1⟩,e,b⟩:=aH b;let⟨o,g,b⟩:=aH b;cases b;exact a _ _ _ _ e W H d _ G R λv h i j l m=>c v h i j l<|zZ g m
theorem GU{W:Wd}:∀{xs:T5}{ks:Tv Key}{vs:Td},keysOf xs=Z ks->bQ K W xs vs->vs=ks.map kV
 |[],ks,vs=>λh r=>by cases h;cases r;rfl
 |x::xs,ks,vs=>λh r=>by
  let⟨k,a,h⟩:=aH h;let⟨b,c,h⟩:=aH h;cases h;cases r with
  |cons d e=>rw[zZ a d,GU c e];rfl
def aLt(b:SA K tA fa):SK K (aHu tA) (wX fa):=by
 intro q M k M' a W H e Q G R c;let⟨⟨r,M1⟩,g,a⟩:=aH a;let⟨ks,h,a⟩:=aH a;by_cases d:ks.length<=bv
 .rw[A8 d]at a;cases a;refine b _ _ _ _ g W H e _ G R λvs i s j l m=>?_;have ev:=GU h m;refine⟨by rw[ev,A6];exact d,λp n=>?_⟩;let⟨o,G2⟩:=l.lay n;exact c _ _ _ (j.trans o) G2 ⟨p,rfl,by show upd i.F p (.tup vs) p=_;rw[aS,ev]⟩
 .rw[B7 d]at a;cases a
section
variable{κ:Type}[DecidableEq κ]
noncomputable def lkC(kvs:Tv (κ×CD))(k:κ):Te:=(kvs.find? λa=>decide (a.1=k)).map (·.2)
noncomputable def putD(kvs:Tv (κ×CD))(k:κ)(v:CD):Tv (κ×CD):=
 if (kvs.any λa=>decide (a.1=k))=true then kvs.map (λa=>if a.1=k then(a.1,v)else a)else kvs++[(k,v)]
abbrev PKV(K:Fg)(W:Wd)(kvs:Tv (κ×CD))(us:Tv (κ×V)):Prop:=Paired (λp q=>p.1=q.1/\bW K W p.2 q.2) kvs us
theorem NN{W:Wd}:∀{kvs:Tv (κ×CD)}{us:Tv (κ×V)},PKV K W kvs us->UT K W (lkC kvs k) (jO us k)
 |_,_,.nil=>True.intro
 |_,_,.cons (a:=p) (b:=q) (l₁:=ps) (l₂:=qs) r1 r2=>by
  by_cases h:p.1=k
  .have h':=r1.1▸h;rw[show lkC (p::ps) k=Z p.2 by simp[lkC,O9,h],show jO (q::qs) k=Z q.2 by simp[jO,O9,h']];exact r1.2
  .have h':=r1.1▸h;rw[show lkC (p::ps) k=lkC ps k by simp[lkC,O9,h],show jO (q::qs) k=jO qs k by simp[jO,O9,h']];exact NN r2
theorem RS{W:Wd}{k:κ}:∀{kvs:Tv (κ×CD)}{us:Tv (κ×V)},PKV K W kvs us->(kvs.any λa=>decide (a.1=k))=us.any λa=>decide (a.1=k)
 |_,_,.nil=>rfl
 |_,_,.cons b c=>by rw[Z1,Z1,RS c,b.1]
theorem RE{W:Wd}{k:κ}(d:bW K W x v):∀{kvs:Tv (κ×CD)}{us:Tv (κ×V)},PKV K W kvs us->PKV K W (kvs.map λb=>if b.1=k then(b.1,x)else b) (us.map λb=>if b.1=k then(b.1,v)else b)
 |_,_,.nil=>.nil
 |_,_,.cons (a:=p) c r2=>by
  rw[C6,C6];refine .cons ?_ (RE d r2);by_cases h:p.1=k
  .rw[A8 h,A8 (c.1▸h)];exact⟨c.1,d⟩
  .rw[B7 h,B7 (c.1▸h)];exact c
def JO{k:κ}{x:CD}{v:V}{kvs:Tv (κ×CD)}{us:Tv (κ×V)}(r:PKV K W kvs us)(a:bW K W x v):PKV K W (putD kvs k x) (putK us k v):=by
 unfold putD putK;rw[RS r];split
 .exact RE a r
 .exact Paired.app r (.cons ⟨rfl,a⟩ .nil)
end
noncomputable def lkP(kvs:Tv (Tv Key×Ua))(k:Tv Key):Tx Ua:=(kvs.find? λa=>decide (a.1=k)).map (·.2)
theorem PF{W:Wd}:∀{kvs:Tv (Tv Key×Ua)}{us:Tv (Tv Key×V)},Paired (λp q=>p.1=q.1/\Rep K W.F p.2 q.2) kvs us->UT K W ((lkP kvs k).map .d) (jO us k)
 |_,_,.nil=>True.intro
 |_,_,.cons (a:=p) (b:=q) (l₁:=ps) (l₂:=qs) r1 r2=>by
  by_cases h:p.1=k
  .have h':=r1.1▸h;rw[show lkP (p::ps) k=Z p.2 by simp[lkP,O9,h],show jO (q::qs) k=Z q.2 by simp[jO,O9,h']];exact r1.2
  .have h':=r1.1▸h;rw[show lkP (p::ps) k=lkP ps k by simp[lkP,O9,h],show jO (q::qs) k=jO qs k by simp[jO,O9,h']];exact PF r2
def atD(M:Sto):CD->KY->Tx (Te)
 |.c i,.inl k=>match M[i]? with
  |some (.dk kvs)=>Z<|lkC kvs k
  |_=>Y
 |.c i,.inr ks=>match M[i]? with
  |some (.dt kvs)=>Z<|lkC kvs ks
  |_=>Y
 |.f kvs,.inr ks=>Z<|(lkP kvs ks).map .d
 |_,_=>Y
def AZ(M:Sto):CD->KY->CD->Tx Sto
 |.c i,.inl k,x=>match M[i]? with
  |some (.dk kvs)=>if kvs.length<bv then Z (M.set i (.dk (putD kvs k x)))else Y
  |_=>Y
 |.c i,.inr ks,x=>match M[i]? with
  |some (.dt kvs)=>if kvs.length<bv then Z (M.set i (.dt (putD kvs ks x)))else Y
  |_=>Y
 |_,_,_=>Y
def Good.dkAt{i:Nat}(G:Good K W M H)(h:M[i]?=Z (.dk kvs)):∃us,H (W.α i)=Z (.dK us)/\PKV K W kvs us:=by
 let⟨_,o,b,a⟩:=G.cs i _ h 67;cases o<;>first|exact⟨_,b,a⟩|exact False.elim a
def Good.dtAt{i:Nat}(G:Good K W M H)(h:M[i]?=Z (.dt kvs)):∃us,H (W.α i)=Z (.dT us)/\PKV K W kvs us:=by
 let⟨_,o,b,a⟩:=G.cs i _ h 67;cases o<;>first|exact⟨_,b,a⟩|exact False.elim a
def XJ{r:Te}(G:Good K W M H)(h:atD M x k=Z r)(e:bW K W x v)(g:aAG W k y):∃a o,v=.ref a/\CO H a y o/\UT K W r o:=by
 unfold atD at h;split at h
 .rename_i i m;split at h
  .rename_i kvs j;cases h;let⟨us,c,d⟩:=G.dkAt j;refine⟨_,_,e.2,?_,NN d⟩;rw[show y=kV m from g];exact CO.k c
  .cases h
 .rename_i i ks;split at h
  .rename_i kvs j;cases h;let⟨us,c,d⟩:=G.dtAt j;let⟨b,rfl,l⟩:=g;exact⟨_,_,e.2,CO.t c<|G.fh _ _ l,NN d⟩
  .cases h
 .rename_i kvs ks;cases h;let⟨a,o,us,rfl,c,d⟩:=e;let⟨b,rfl,l⟩:=g;exact⟨_,_,rfl,.inr ⟨us,ks,b,.inr ⟨o,G.fh _ _ c⟩,rfl,G.fh _ _ l,rfl⟩,PF d⟩
 .cases h
def HN{M':Sto}(G:Good K W M H)(h:AZ M x k z=Z M')(j:bW K W x v)(l:aAG W k y)(m:bW K W z u):∃a H',v=.ref a/\BB H a y u H'/\Good K W M' H':=by
 unfold AZ at h;split at h
 .rename_i o i n;split at h
  .rename_i kvs d;by_cases c:kvs.length<bv
   .rw[A8 c]at h;cases h;let⟨us,g,e⟩:=G.dkAt d;refine⟨_,_,j.2,?_,G.set d 67 (o':=.dK (putK us n u))<|JO e m⟩;rw[show y=kV n from l];exact BB.k g (by rw[<- Paired.len e];exact c)
   .rw[B7 c]at h;cases h
  .cases h
 .rename_i o i ks;split at h
  .rename_i kvs d;by_cases c:kvs.length<bv
   .rw[A8 c]at h;cases h;let⟨us,g,e⟩:=G.dtAt d;let⟨b,rfl,p⟩:=l;exact⟨_,_,j.2,BB.t g (G.fh _ _ p) (by rw[<- Paired.len e];exact c),G.set d 67<|JO e m⟩
   .rw[B7 c]at h;cases h
  .cases h
 .cases h
def AA:EF:=λ_ M=>Z (.c M.length,M++[.dt []])
def sF(fo:EF)(fk:KF):EF:=λa M=>(fo a M).bind λo=>(fk a o.2).bind λk=>(atD k.2 o.1 k.1).bind λr=>r.bind λx=>Z (x,k.2)
def aGV(neg:Bool)(fk:KF)(fo:EF):EF:=λa M=>(fk a M).bind λk=>(fo a k.2).bind λo=>(atD o.2 o.1 k.1).bind λr=>Z (.d (.bool (if neg then !r.isSome else r.isSome)),o.2)
def AQ(fo:EF)(fk:KF)(fv:EF):SF:=λa M=>(fv a M).bind λv=>(fo a v.2).bind λo=>(fk a o.2).bind λk=>(AZ k.2 o.1 k.1 v.1).bind λM'=>Z (.nx a,M')
def aEm:SE K aDK AA:=by
 intro c M x M' a W H d Q G R k;cases a;exact λp b=>k _ (W.more p) _ (W.ext_more p) (G.new b .nil) G.newV
def aGh(a:SE K td fo)(b:SK K ty fk):SE K (aJx td ty) (sF fo fk):=by
 intro F M x M' c W H d Q G R k;let⟨⟨o,M1⟩,j,c⟩:=aH c;let⟨⟨I,M2⟩,l,c⟩:=aH c;let⟨r,m,c⟩:=aH c;let⟨z,n,c⟩:=aH c;cases c;subst n;refine a _ _ _ _ j W H d _ G R λv q s e w A=>b _ _ _ _ l q s d _ w (R.up e) λy B C h G2 D=>?_;let⟨p,E,ev,g,i⟩:=XJ G2 m (A.up h) D;cases E with
 |none=>exact False.elim i
 |some u=>exact⟨p,u,ev,g,k u B C (e.trans h) G2 i⟩
def aBL(h:UT K W r o):o.isSome=r.isSome:=by
 cases r<;>cases o<;>first|rfl|exact False.elim h
def aKI(b:SK K ty fk)(a:SE K td fo):SE K (aQl ty td) (aGV false fk fo):=by
 intro C M x M' c W H d Q G R k;let⟨⟨D,M1⟩,i,c⟩:=aH c;let⟨⟨o,M2⟩,j,c⟩:=aH c;let⟨r,l,c⟩:=aH c;cases c;refine b _ _ _ _ i W H d _ G R λy m n e q s=>a _ _ _ _ j m n d _ q (R.up e) λv u w h G2 z=>?_;let⟨p,A,ev,g,B⟩:=XJ G2 l z<|s.up h;refine⟨p,A,ev,g,k _ u w (e.trans h) G2 ?_⟩;show _=V.bl r.isSome;rw[aBL B]
def aGk(a:SE K td fo)(b:SK K ty fk)(c:SE K tv fv):SS K (aJw td ty tv) (AQ fo fk fv):=by
 intro L M o M' d W H e D G R k;let⟨⟨z,M1⟩,m,d⟩:=aH d;let⟨⟨x,M2⟩,n,d⟩:=aH d;let⟨⟨N,O⟩,q,d⟩:=aH d;let⟨P,r,d⟩:=aH d;cases d;refine c _ _ _ _ m W H e _ G R λu s w h A B=>a _ _ _ _ n s w e _ A (R.up h) λv C E i G2 F=>b _ _ _ _ q C E e _ G2 (R.up<|h.trans i) λy I Q j G3 J=>?_;let⟨p,l,ev,g,G4⟩:=HN G3 r (F.up j) J<|(B.up i).up j;exact⟨p,l,ev,g,k I l ((h.trans i).trans j) G4 e<|R.up<|(h.trans i).trans j⟩
end
section
variable{ι:Type}
structure MK(K:Fg)(X:ι->Cx)(e:Ud)(f:KF):Prop where
 ex:∃t,(∀i,PE (X i) e t)/\SK K t f
variable{K:Fg}{X:ι->Cx}{e o i a b:Ud}{es:T8}{f g fx:EF}{fk:KF}{fa:AF}{pos:Pos}
def mk_one(x:ME K X e f):MK K X e (IP f):=by
 let⟨t,c,d⟩:=x.ex;exact⟨_,c,aKq d⟩
def zK(x:MA K X es fa):MK K X (.Tuple es k pos) (wX fa):=by
 let⟨t,c,d⟩:=x.ex;exact⟨_,λi=>UC<|c i,aLt d⟩
def RA:ME K X (.Dict [] [] pos) AA:=⟨_,λ_=>aFu,aEm⟩
def DB(c:∀j,(X j).A.units+1<cLine)(x:ME K X o f)(y:MK K X i fk)(hs:aMu i:=by intro _ _;rfl):ME K X (.Subscript o i pos) (sF f fk):=by
 let⟨t,d,h⟩:=x.ex;let⟨u,k,l⟩:=y.ex;exact⟨_,λj=>aGb (c j) (d j) (k j) hs,aGh h l⟩
def aNC(c:∀j,(X j).A.units+1<cLine)(y:MK K X i fk)(x:ME K X o f)(hm:behindInMarks .In o=false:=by rfl):MT K X (.Compare i [.In] [o] pos) (gB<|aGV false fk f):=by
 let⟨t,d,h⟩:=x.ex;let⟨u,k,l⟩:=y.ex;exact⟨_,λj=>aNp (aMo (c j) (k j)<|d j) hm,aKv<|aKI l h⟩
def YI(c:∀j,(X j).A.units+1<cLine)(x:ME K X o f)(y:MK K X i fk)(z:ME K X e g)(hs:∀j,swapsWith e (Z (.Subscript o i pos')) pos.line (X j).env=pure false:=by intro _;rfl):MS K X (.Assign [.Subscript o i pos'] e pos) (AQ f fk g):=by
 let⟨t,d,h⟩:=x.ex;let⟨u,k,l⟩:=y.ex;let⟨v,m,n⟩:=z.ex;exact⟨_,λj=>aGD (c j) (d j) (k j) (m j)<|hs j,aGk h l n⟩
end
end L2
namespace PySem
open Sem (wp)
open AutoSeq1 (wpAny_loadPart')
section
variable{prog:Ue}{w:World}{A:Uf}{E:T0}{s:Ub}
def IB{items}{x:Tz}{Q:T0}(a:s.heap.IsTupleIter it l i)(e:s.heap.IsTuple l items)(f:items[i]?=Z x)
 (g:∀h',h'.IsTupleIter it l (i+1)->Heap.SameBut it s.heap h'->Q x { s with heap:=h' }):bz (bx prog w) A (Builtin.SmallTypes.nextOf (.ref it)) Q E s:=by
 let⟨o,b,h,hd⟩:=id a;let⟨j,c,_,k,d⟩:=e;refine A1<|J9 a.typeIs A1n<|F7 A1n a.typeIs F.entry_tuple_iterator_next ?_<|F.args_tuple_iterator_next_1 _;show bz _ _ (field (.ref it) 0 >>= _) _ _ s;refine A1<|E8 b hd rfl ?_;refine A1<|E8 b hd rfl ?_;refine A1<|A0z c d ?_;simp only[U1,f];refine A1<|Z8 b hd 67<|A4 ⟨x,rfl,A4<|g _ ?_<|U3 ..⟩;exact⟨_,L6 _ b<|A0a<|S9 hd _,(A2b ..).trans h,by rw[S9 hd];simp[rawInt]⟩
def zR{items}{Q:T0}(f:A.handled=Y)(a:s.heap.IsTupleIter it l i)(g:s.heap.IsTuple l items)(h:items[i]?=Y)
 (j:∀h' e,Heap.ExtBut it s.heap h'->(∃o,h'.get? e=Z o/\o.cls=.type "StopIteration")->E (.ref e) { s with heap:=h' }):bz (bx prog w) A (Builtin.SmallTypes.nextOf (.ref it)) Q E s:=by
 let⟨o,b,k,hd⟩:=id a;let⟨m,c,_,n,d⟩:=g;refine A1<|J9 a.typeIs A1n<|F7 A1n a.typeIs F.entry_tuple_iterator_next ?_<|F.args_tuple_iterator_next_1 _;show bz _ _ (field (.ref it) 0 >>= _) _ _ s;refine A1<|E8 b hd rfl ?_;refine A1<|E8 b hd rfl ?_;refine A1<|A0z c d ?_;simp only[U1,h];refine A1<|A0v<|A1<|Z8 b hd 67 ?_;refine A1 ?_;refine A1<|D6 ?_ (by size_fits);refine A1<|A2r rfl ?_;refine D6 ?_ (by size_fits);refine A1<|wpAny_handled ?_
 first|rw[show A.in1.handled=Y from f]|rw[f]
 refine A1<|A4<|wpAny_throw ?_;exact j _ _ (((U3 ..).extBut.push _).push _) ⟨_,B5 _ rfl,rfl⟩
end
def KC{A:Uf}(hh:A.handled=Y)(it l:Uc)(hne:l≠it)(items:Ti):
 Draws prog w A it [it,l] items.size (λi v=>items[i]?=Z v) (λi h=>h.IsTupleIter it l i/\h.IsTuple l items) where
 live:=λ_ _ st=>let⟨o,ho,_⟩:=st.1;⟨o,ho⟩
 frame:=λ_ _ _ st hk=>⟨st.1.at λo e=>hk it 67 o e,let⟨o,ho,r⟩:=st.2;⟨o,hk l 67 o ho,r⟩⟩
 item:=λi s Q E hi st hQ=>by
  refine IB st.1 st.2 (x:=items[i]) (by simp[hi]) λh' hit' hs'=>?_;exact hQ _ h' s.toks (by simp[hi]) ⟨hit',let⟨o,ho,r⟩:=st.2;⟨o,(hs'.2 l hne).trans ho,r⟩⟩ hs'
 done:=λs Q E st hE=>zR hh st.1 st.2 67 hE
def FG(l:Uc)(items:Ti)(n:Nat)(b:Th)(sl:Array (Tf)):
 Meets (Builtin.«enumerate.__new__» ⟨[.type "enumerate",.ref l],[]⟩) (λ_ R s=>s.heap.get? l=Z { cls:=.type "tuple",dict:=b,data:=.seq items n,slots:=sl } /\
  R (.ok (.ret (.ref (s.heap.push { cls:=.type "tuple_iterator",data:=.fields #[.ref l,.int 0 0] }).objs.size)))
   { s with heap:=(s.heap.push { cls:=.type "tuple_iterator",data:=.fields #[.ref l,.int 0 0] }).push { cls:=.type "enumerate",data:=.fields #[.none,.bool false,.ref s.heap.objs.size,rawInt 0,.none,.none] } }):=
 .of_wp λprog w A R s h=>by
  let⟨i,g,d,j,os⟩:=s;let⟨a,h⟩:=h;have f:=sub_enumerate;have e:Heap.IsTuple (Shared.heap ⟨i,g,d,j,os⟩) l items:=⟨_,a,rfl,n,rfl⟩
  wp_walk using A1v a
  refine wpAny_stack_any λst=>A4 ?_;split
  .rename_i c _ _ _ _ _;cases (c==Value.type "enumerate")
   .wp_walk using A1v a,A1g e
    exact⟨_,rfl,h⟩
   .wp_walk using A1v a,A1g e
    exact⟨_,rfl,h⟩
  .wp_walk using A1v a,A1g e
   exact⟨_,rfl,h⟩
section
variable{prog:Ue}{w:World}{A:Uf}{E:T0}{s:Ub}
def HZ{Q:T0}(g:s.heap.IsTuple l items)
 (h:∀h',IsEnum h' (s.heap.objs.size+1) s.heap.objs.size 0 .none->h'.IsTupleIter s.heap.objs.size l 0->h'.objs.size=s.heap.objs.size+2->
  (∀b o,s.heap.get? b=Z o->h'.get? b=Z o)->Q (.ref (s.heap.objs.size+1)) { s with heap:=h' }):
 bz (bx prog w) A (call (.type "enumerate") [.ref l]) Q E s:=by
 let⟨⟨c,a,dt,sl⟩,i,d,n,hd⟩:=g
 replace d:c=.type "tuple":=d
 replace hd:dt=.seq items n:=hd
 subst d hd
 refine callType_new F.called_enumerate 66 (F.typeCall_enumerate_1 _) (F.newCall_enumerate_1 _) (λobj=>F.args_object_init_2 obj _) F.entry_enumerate_new
  (FG l items n a sl) ⟨i,?_⟩
 have e:(s.heap.push { cls:=.type "tuple_iterator",data:=.fields #[.ref l,.int 0 0] }).objs.size=s.heap.objs.size+1:=S3 ..;rw[e]
 have f:IsEnum ((s.heap.push { cls:=.type "tuple_iterator",data:=.fields #[.ref l,.int 0 0] }).push
  { cls:=.type "enumerate",data:=.fields #[.none,.bool false,.ref s.heap.objs.size,rawInt 0,.none,.none] }) (s.heap.objs.size+1) s.heap.objs.size 0 .none:=by
  have:=B5 (s.heap.push { cls:=.type "tuple_iterator",data:=.fields #[.ref l,.int 0 0] })
   (o:={ cls:=.type "enumerate",data:=.fields #[.none,.bool false,.ref s.heap.objs.size,rawInt 0,.none,.none] }) rfl
  rw[e]at this;exact this
 refine⟨⟨_,f,rfl⟩,h _ f ⟨_,A3 _<|B5 _ rfl,rfl,rfl⟩ 67 λb o x=>A3 _<|A3 _ x⟩
end
end PySem
namespace L2
open PySem PySem.Spec PyProof.Rows
section
variable{X:Cx}{cp:T1}{σ:St}{H:Hp}{s:Ub}{h':Heap}
def Inv.turnLay{fp:Tb}{a:Uc}{t':Nat}(I:Inv X cp σ H s)(g:∀b∈fp,nE X cp H b)(k:∀b u,b∉fp->s.heap.get? b=Z u->h'.get? b=Z u)(h:s.heap.objs.size<=a)(new:fA X.prog X.w (upd H a o) h' a o):
 Inv X cp σ (upd H a o) { s with heap:=h',toks:=t' }:=by
 have hn:=I.hok.fresh h;have i:∀b u,H b=Z u->b∉fp:=λb u e z=>by rw[(g b z).1]at e;cases e
 refine I.step (λb f=>?_) (λb o _ _ d e _=>k b o d e) (λb o _ _ d e _=>⟨o.slots,k b o d e⟩) (λb o _ e n=>?_) (λb o d e=>⟨o,k b o d e⟩)
  (λb xs e=>?_) (λb o u e=>?_) (λb ps e=>⟨#[],?_⟩) (λm hm=>?_) ?_ I.bare
 .let⟨_,f1,_,j,l,p⟩:=g b f;exact⟨j,f1,l,p⟩
 .rw[aO (λz=>by subst z;exact absurd (B2 e)<|Nat.not_lt.mpr h)];exact n
 .rw[aO (aX e hn)];exact e
 .rw[aO (aX e hn)];exact e
 .rw[aO (aX e hn)];simpa using e
 .let⟨o,es,ep,t,r⟩:=hm;exact⟨o,es,ep,k _ o (λz=>(g _ z).2.1 rfl) t,r⟩
 .intro b u e;by_cases f:b=a
  .subst f;rw[aS]at e;cases e;exact new
  .rw[aO f]at e;refine(I.hok b u e).stay (λc v d q=>k c v ?_ q) (λc q=>by rw[aO (aX q hn)];exact q) λc xs q=>by rw[aO (aX q hn)];exact q
   obtain z|z:=d
   .rw[z];exact i b _ e
   .exact i c _ z
def Inv.turnF{fp:Tb}{t':Nat}(I:Inv X cp σ H s)(d:∀b∈fp,nE X cp H b)(k:∀b u,b∉fp->s.heap.get? b=Z u->h'.get? b=Z u):Inv X cp σ H { s with heap:=h',toks:=t' }:=by
 have f:∀b u,H b=Z u->b∉fp:=λb u e z=>by rw[(d b z).1]at e;cases e
 refine I.step (λb g=>?_) (λb o _ _ a e _=>k b o a e) (λb o _ _ a e _=>⟨o.slots,k b o a e⟩) (λ_ _ _ _ n=>n) (λb o a e=>⟨o,k b o a e⟩)
  (λ_ _ e=>e) (λ_ _ _ e=>e) (λb ps e=>⟨#[],by simpa using e⟩) (λm hm=>?_) (λb u e=>?_) I.bare
 .let⟨_,f1,_,h,i,j⟩:=d b g;exact⟨h,f1,i,j⟩
 .let⟨o,es,ep,l,r⟩:=hm;exact⟨o,es,ep,k _ o (λz=>(d _ z).2.1 rfl) l,r⟩
 .refine(I.hok b u e).stay (λc v a q=>k c v ?_ q) (λ_ q=>q) λ_ _ q=>q;obtain z|z:=a
  .rw[z];exact f b _ e
  .exact f c _ z
end
def Ite(Sq:Hp->Td->Prop):It:=
 ⟨λi H=>∃xs x,Sq H xs/\xs[i]?=Z x,λi H v H'=>∃p x,H p=Y/\v=.ref p/\H'=upd H p (.tup [.int i,x])/\∀xs,Sq H xs->xs[i]?=Z x,λi H=>∃xs,Sq H xs/\xs.length=i⟩
def tnE(e it:Uc)(It:Heap->Nat->Prop)(i:Nat)(h:Heap):Prop:=(∃a,IsEnum h e it i a)/\It h i
section
variable{P:Ue}{w:World}{K:Fg}{elts:T8}{x1:Nat}{tpos:Pos}
def JQ{e it a:Uc}{Sq:Hp->Td->Prop}{It:Heap->Nat->Prop}(hei:e≠it)
 (hobj:∀h i,It h i->∃o vs,h.get? it=Z o/\o.data=.fields vs) (hkeep:∀h h' i,It h i->(∀o,h.get? it=Z o->h'.get? it=Z o)->It h' i)
 (hinj:∀(X:Cx),X.K=K->∀cp σ H s,Inv X cp σ H s->∀xs ys,Sq H xs->Sq H ys->xs=ys)
 (draw:∀(X:Cx),X.prog=P->X.w=w->X.K=K->X.calm=true->∀cp σ H s,Inv X cp σ H s->∀xs,Sq H xs->(∃o vs,s.heap.get? it=Z o/\o.data=.fields vs)->(∃o vs,s.heap.get? e=Z o/\o.data=.fields vs)->∃(its:T4)(fp:Tb)(S:Nat->Heap->Prop),bE xs its/\e∉fp /\
  Draws P w X.A.in1 it fp its.length (λi v=>its[i]?=Z v) S/\(∀i,It s.heap i->S i s.heap)/\∀i h,S i h->It h i):
 Turn P w K (.Tuple elts x1 tpos) (Ite Sq) [e,it] e (tnE e it It) where
 mem:=67
 obj:=λi h st b hb=>by
  let⟨⟨old,h1⟩,h2⟩:=st;obtain rfl|hb:=C1.mp hb
  .exact⟨_,h1,λv z=>by cases z⟩
  .let⟨o,vs,q1,q2⟩:=hobj _ _ h2;rw[B4.mp hb];exact⟨o,q1,λv z=>by rw[q2]at z;cases z⟩
 keep:=λi h h' st k=>by
  let⟨⟨old,h1⟩,h2⟩:=st;exact⟨⟨old,k e 67 _ h1⟩,hkeep _ _ _ h2 λo q=>k it 67 o q⟩
 item:=by
  intro X hP hw hK hc i cp s σ H E I hf st hg;let⟨xs,x,hq,hx⟩:=hg;let⟨⟨old,he⟩,hit⟩:=st;let⟨its,fp,S,rv,hef,D,s1,s2⟩:=draw X hP hw hK hc cp σ H s I xs hq (hobj _ _ hit) ⟨_,_,he,rfl⟩;subst hP hw hK;let⟨u,hu,ru⟩:=rv.get hx;have hlt:=(B9.mp hu).1;refine wpAny_pyNext_enum_itemD D he (s1 _ hit) hlt hei hef λv h1 tk hv ho st1 ht hsz hk=>⟨_,rfl,?_⟩;rw[hu]at hv;cases hv;refine wpAny_letOwnedTupleGo_enum ho λh2 he2 sb=>?_;have ne:=O1<|B2 he;have ht2:=(sb.2 _ ne).trans ht
  have I2:Inv X cp σ (upd H s.heap.objs.size (.tup [.int i,x])) { s with heap:=h2,toks:=tk+1 }:=by
   refine I.turnLay hf (λb o hb q=>(sb.2 b λz=>hb (by simp[z])).trans (hk b o (λz=>hb (by simp[z])) (λz=>hb (by simp[z])) q)) (B3 _) ⟨by show 2<=bv;rw[J7];decide,[.int i tk,u],.cons ⟨tk,rfl⟩ (.cons ru .nil),⟨_,ht2,rfl,_,rfl⟩⟩
  refine⟨.ref s.heap.objs.size,_,I2,rfl,⟨_,x,I.hok.fresh<|B3 _,rfl,rfl,λys hy=>by rw[hinj X rfl _ _ _ _ I ys xs hy hq];exact hx⟩,⟨⟨_,by have:=he2;push_cast;exact this⟩,?_⟩,λb hb=>?_⟩
  .exact hkeep _ _ _ (s2 _ _ st1) λo q=>(sb.2 it<|Y6 hei).trans q
  .have hb0:=(hf b hb).1;rw[aO λz=>?_]
   .exact hb0
   .subst z;obtain q|q:=C1.mp hb
    .exact ne q
    .let⟨o,vs,q1,_⟩:=hobj _ _ hit;rw[<- B4.mp q]at q1;exact absurd (B2 q1)<|Y5 _
 done:=by
  intro X hP hw hK hc i cp s σ H E I hf st hg;let⟨xs,hq,hx⟩:=hg;let⟨⟨old,he⟩,hit⟩:=st;let⟨its,fp,S,rv,hef,D,s1,s2⟩:=draw X hP hw hK hc cp σ H s I xs hq (hobj _ _ hit) ⟨_,_,he,rfl⟩;subst hP hw hK;have hl:=rv.length;rw[hl]at hx;subst hx;exact wpAny_pyNext_enum_endD D he (s1 _ hit) λh1 hx=>⟨rfl,I.turnF hf λb o hb q=>hx b o (λz=>hb (by simp[z])) q⟩
 self:=λA i s Q E st h=>by
  let⟨⟨old,he⟩,_⟩:=st;exact wpAny_pyIter_enum he h
def UQ{e it:Uc}(c:e≠it):Turn P w K (.Tuple elts x1 tpos) (Ite λH xs=>SqL K H a xs) [e,it] e (tnE e it λh i=>h.IsListIter it a i):=by
 refine JQ (a:=a) c (λh i st=>?_) (λh h' i st k=>st.at k) (λX f cp l H s I xs C m r=>?_) λX t u f v cp l H s I xs x hi y=>?_
 .let⟨o,q,_,d⟩:=st;exact⟨o,_,q,d⟩
 .subst f;exact I.list_inj m r
 .subst t u f;let⟨its,B,p,D⟩:=I.list x
  have ne:∀b,(∃o vs,s.heap.get? b=Z o/\o.data=.fields vs)->a≠b:=λb ⟨o,vs,q,d⟩ z=>by
   subst z;let⟨o',g,_,n,j⟩:=p.isList;rw[q]at g;cases g;rw[d]at j;cases j
  refine⟨its,[it,a],λi h=>h.IsListIter it a i/\h.IsList a its.toArray,B,?_,?_,λi st=>⟨st,p.isList⟩,λi h st=>st.1⟩
  .intro z;obtain z|z:=C1.mp z
   .exact c z
   .exact ne e y (B4.mp z).symm
  .have:=Draws.list (prog:=X.prog) (w:=X.w) (A:=X.A.in1) (I.ok.hd v) it a (ne it hi) its.toArray;simpa using this
def UU{e it:Uc}(c:e≠it):Turn P w K (.Tuple elts x1 tpos) (Ite λH xs=>SqT K H a xs) [e,it] e (tnE e it λh i=>h.IsTupleIter it a i):=by
 refine JQ (a:=a) c (λh i st=>?_) (λh h' i st k=>st.at k) (λX f cp l H s I xs C m r=>?_) λX t u f v cp l H s I xs x hi y=>?_
 .let⟨o,q,_,d⟩:=st;exact⟨o,_,q,d⟩
 .subst f;exact I.tuple_inj m r
 .subst t u f;let⟨its,B,p,D⟩:=I.tuple x;have pt:=p
  have ne:∀b,(∃o vs,s.heap.get? b=Z o/\o.data=.fields vs)->a≠b:=λb ⟨o,vs,q,d⟩ z=>by
   subst z;let⟨o',g,_,n,j⟩:=pt;rw[q]at g;cases g;rw[d]at j;cases j
  refine⟨its,[it,a],λi h=>h.IsTupleIter it a i/\h.IsTuple a its.toArray,B,?_,?_,λi st=>⟨st,pt⟩,λi h st=>st.1⟩
  .intro z;obtain z|z:=C1.mp z
   .exact c z
   .exact ne e y (B4.mp z).symm
  .have:=KC (prog:=X.prog) (w:=X.w) (A:=X.A.in1) (I.ok.hd v) it a (ne it hi) its.toArray;simpa using this
end
section
variable{X:Cx}{elts:T8}{x1:Nat}{tpos:Pos}
def aJC(K:Fg)(c:TA):TI:=λd H R=>c d H λvs b=>∃a,vs=[.ref a]/\((∃xs,SqL K b a xs/\R (Ite λH xs=>SqL K H a xs) b)\/(∃xs,SqT K b a xs/\R (Ite λH xs=>SqT K H a xs) b))
def aHb{a:Ud}{m:TA}{p pos:Pos}(n:Gl X "enumerate")(hm:X.mg "enumerate"=Y)(ha:PA X [a] m)(hs:cb [a] X.env=[(false,eval a X.env)]:=by rfl):PI X (.Tuple elts x1 tpos) (.Call (.Name "enumerate" p) [a] [] pos) (aJC X.K m):=by
 intro cp s o H R I h;refine Call_<|iI I n hm boot_enumerate<|F9 (thn (ha pos cp s o H _ I h) λus s1 ⟨vs,g,c,t,u⟩=>?_) hs rfl;let⟨l,e,q⟩:=u;subst e;cases t with
 |cons r v=>
  cases v;cases r
  have fp:∀b∈[s1.heap.objs.size+1,s1.heap.objs.size],nE X cp g b:=λb hb=>by
   obtain rfl|hb:=C1.mp hb
   .exact c.fpOk (A1i _)<|c.hok.fresh<|A1i _
   .rw[B4.mp hb];exact c.fpOk (B3 _)<|c.hok.fresh<|B3 _
  obtain⟨xs,i,q⟩|⟨xs,i,q⟩:=q
  .let⟨its,w,p,x⟩:=c.list i;refine call_enumerate_list p.isList λh' f d j k=>?_;refine wpAny_pyIter_enum f ?_;exact⟨_,_,_,_,g,rfl,c.kept k,UQ<|Nat.succ_ne_self _,⟨⟨_,f⟩,d⟩,fp,q⟩
  .let⟨its,w,p,x⟩:=c.tuple i;refine HZ p λh' f d j k=>?_;refine wpAny_pyIter_enum f ?_;exact⟨_,_,_,_,g,rfl,c.kept k,UU<|Nat.succ_ne_self _,⟨⟨_,f⟩,d⟩,fp,q⟩
end
noncomputable def IR(ds:T3):T5:=ds.zipIdx.map λp=>.d (.tuple [.int (p.2:Nat),p.1])
def nL(f:AF):AF:=λa M=>(f a M).bind λr=>match r.1 with
 |[.d x]=>(aR x).bind λds=>Z (IR ds,r.2)
 |_=>Y
def aBU{i:Nat}{x:CD}(h:(IR ds)[i]?=Z x):∃d,ds[i]?=Z d/\x=.d (.tuple [.int (i:Nat),d]):=by
 unfold IR at h;rw[D7,List.getElem?_zipIdx]at h;cases e:ds[i]? with
 |none=>rw[e]at h;cases h
 |some d=>
  rw[e]at h;exact⟨d,rfl,by simpa using h.symm⟩
def aHT{K:Fg}{m:TA}{fa:AF}(b:SA K m fa):SI K (aJC K m) (nL fa):=by
 intro L M xs M' a W H z R G Rs k;let⟨⟨N,M1⟩,A,a⟩:=aH a;refine b _ _ _ _ A W H z _ G Rs λvs g n o h B=>?_;revert a;dsimp only;split
 .rename_i y;intro a;let⟨ds,C,a⟩:=aH a;cases a;cases B with
  |cons r D=>
   cases D;let⟨p,us,rfl,hs,q⟩:=lN r C
   have s:∀Sq:Hp->Td->Prop,(∀c M2 e,g.Ext c->Good K c M2 e->Sq e us)->UA K (Ite Sq) (IR ds) g:=λSq hS c M2 e f G2=>by
    have j:=hS c M2 e f G2;refine⟨λi x E=>?_,us,j,by rw[show(IR ds).length=ds.length by simp[IR],q.length]⟩;let⟨d,hd,rfl⟩:=aBU E;let⟨u,t,F⟩:=Paired.get (kK q) (by rw[D7,hd];rfl);refine⟨⟨us,u,j,t⟩,λv O I=>?_⟩;let⟨J,P,hn,rfl,rfl,l⟩:=I;have:=l us j;rw[t]at this;cases this;let⟨w,G3⟩:=G2.lay hn;refine⟨_,w,G3,⟨J,_,rfl,SqT.of aS,?_⟩⟩;exact⟨_,_,rfl,rfl,_,_,rfl,Rep.same w.ff _ _<|(F.up f),rfl⟩
   refine⟨p,rfl,?_⟩;obtain hs|hs:=hs
   .exact .inl ⟨us,h.fh.seq hs,k _ g n o h (s _ λc M2 e f G2=>G2.fh.seq<|f.ff.seq hs)⟩
   .exact .inr ⟨us,h.fh.seqT hs,k _ g n o h (s _ λc M2 e f G2=>G2.fh.seqT<|f.ff.seqT hs)⟩
 .intro a;cases a
def DA{ι:Type}{K:Fg}{X:ι->Cx}{a:Ud}{fa:AF}{pos:Pos}{p:Pos}(c:∀i,(X i).K=K)(hm:∀i,(X i).mg "enumerate"=Y)(x:MA K X [a] fa)(d:∀i,Gl (X i) "enumerate":=by intro _;rfl):MI K X (.Tuple elts x1 tpos) (.Call (.Name "enumerate" p) [a] [] pos) (nL fa):=by
 let⟨t,b,e⟩:=x.ex;exact⟨_,λi=>by have:=aHb (elts:=elts) (x1:=x1) (tpos:=tpos) (p:=p) (pos:=pos) (d i) (hm i) (b i)<|x.st.1 _;rw[c i]at this;exact this,aHT e⟩
end L2
namespace PySem
open PySem.Calls PyProof.Rows
abbrev zV(x:Tz)(f:Bool)(d:Uc)(i n ep:Nat)(p q:Tz):Obj:=
 { cls:=.type "dict_itemiterator",dict:=Y,data:=.fields #[x,.bool f,.ref d,.int i 0,.int n 0,.int ep 0,p,q],slots:=#[] }
noncomputable abbrev duo(e:DictEntry):Obj:={ cls:=.type "tuple",data:=.seq #[e.key,e.val] }
def JU(h:Heap)(it d:Uc)(i n ep:Nat):Prop:=
 ∃x f p q,h.get? it=Z (zV x f d i n ep p q)/\(x=.none\/∃a o,x=rawInt (a:Nat)/\h.get? a=Z o)
def Raw(h:Heap)(d:Uc)(es:Array DictEntry)(ep:Nat):Prop:=∃o,h.get? d=Z o/\o.data=.dict es ep
def Raw.to{h':Heap}(r:Raw h d es ep)(k:∀o,h.get? d=Z o->h'.get? d=Z o):Raw h' d es ep:=let⟨o,e,x⟩:=r;⟨o,k o e,x⟩
section
variable{prog:Ue}{w:World}{A:Uf}{E:T0}{s:Ub}{it d v:Uc}{es:Array DictEntry}{i n ep:Nat}
def UI(d:Uc)(hd:(d==sysModules)=false):MeetsIn prog w (Builtin.«dict.items» ⟨[.ref d],[]⟩) λ_ R s=>s.TypeIs (.ref d) "dict" /\
 R (.ok (.ret (.ref s.heap.objs.size))) { s with heap:=s.heap.push { cls:=.type "dict_items",data:=.fields #[.ref d] } }:=
 .of_wp λA R s ⟨ty,h⟩=>by
  have q:Builtin.Dict.showsAll d=pure ():=by unfold Builtin.Dict.showsAll;rw[hd];rfl
  show bz _ _ (Builtin.Dict.noArgs _ _ >>= λ_=>_) _ _ s;refine A1<|A1<|wpAny_notOrdered_dict ty<|A4 (?_:bz _ _ (Builtin.Dict.showsAll d >>= _) _ _ s);rw[q];exact A1<|A4<|A1<|D6<|A4 ⟨_,rfl,h⟩
def VS{Q:T0}(a:s.heap.IsItemsView v d)(r:Raw s.heap d es ep)
 (h:Q (.ref s.heap.objs.size) { s with heap:=s.heap.push (zV .none false d 0 es.size ep .none .none) }):bz (bx prog w) A (pyIter (.ref v)) Q E s:=by
 let⟨g,e,j,f⟩:=id a;let⟨o,b,c⟩:=r;refine wpAny_pyIter_slot a.typeIs F.slot_dict_items_iter<|F7 F.slot_dict_items_iter a.typeIs F.entry_dict_items_iter (A1<|A4<|A1 (?_:bz _ _ (field (.ref v) 0 >>= _) _ _ s))<|F.args_dict_items_iter_1 _;refine A1<|E8 e f rfl<|A4<|A1 (?_:bz _ _ (Builtin.Dict_items.newIterator _ d) _ _ s);refine A1<|wpAny_dictEntries b c<|A1<|wpAny_dictEpoch b c ?_;rw[show Builtin.Dict_items.ownsTuple "dict_itemiterator"=true from by decide];refine D6 (A4 ⟨_,rfl,_,_,⟨_,B5 _ rfl,rfl⟩,F.slot_dict_itemiterator_next.lookup,?_⟩) (by simp[sizeOk,Builtin.Dict_items.ownedTupleFields,J7]);exact h
def aDE{Q:T0}(st:JU s.heap it d i n ep)
 (h:∀h',JU h' it d i n ep->h'.get? s.heap.objs.size=Z (duo e)->(∀b o,b≠it->s.heap.get? b=Z o->h'.get? b=Z o)->Q (.ref s.heap.objs.size) { s with heap:=h' }):
 bz (bx prog w) A (Builtin.Dict_items.pairFromOwner (.ref it) 6 e.key e.val) Q E s:=by
 let⟨H,g,J,K,os⟩:=s;let⟨x,f,p,q,D,L⟩:=st;have lt:=B2 D;have new:(H.push<|duo e).get? H.objs.size=Z (duo e):=B5 _ rfl;have j:∀b o,H.get? b=Z o->(H.push<|duo e).get? b=Z o:=λb o=>A3 _;refine A1<|wpAny_newTuple ?_;generalize H.push (duo e)=G at new j ⊢;have k:=j it _ D
 have l:∀h' r y z B,h'.get? it=Z (zV r y d i n ep z B)->(r=.none\/∃a o,r=rawInt (a:Nat)/\G.get? a=Z o)->Heap.SameBut it G h'->Q (.ref H.objs.size) ⟨h',g,J,K,os⟩:=by
  intro h' r y z B F t u;refine h h' ⟨r,y,z,B,F,t.imp id ?_⟩ (u.extBut _ _ (O1 lt) new) λb o M e=>u.extBut b o M<|j b o e;rintro⟨a,o,m,N⟩;by_cases c:a=it
  .exact⟨a,_,m,c▸F⟩
  .exact⟨a,o,m,u.extBut a o c N⟩
 refine A1<|A1<|E8 k rfl rfl ?_;obtain rfl|⟨a,o,rfl,m⟩:=L
 .refine A4<|A1<|E8 k rfl rfl<|A1<|E8 k rfl rfl<|A1 (O7 k 67 λI C t=>?_);refine A1 (O7 C 67 λV O u=>A1 (O7 O 67 λX P R=>A1 (O7 P 67 λS T U=>?_)));exact A1<|wpAny_letGo<|A4<|l S _ _ _ _ T (.inr ⟨_,_,rfl,new⟩)<|((t.trans u).trans R).trans U
 .have al:(loadIfAlive ((a:Int).toNat):Sem (Tx Obj))=loadIfAlive a:=by rfl
  show bz _ _ (loadIfAlive ((a:Int).toNat) >>= _) _ _ _;refine A1<|W.kdx_alive (j a o m) ?_;refine A1<|E8 k rfl rfl ?_;cases f
  .exact A1 (O7 k 67 λI C t=>A4<|A4<|l I _ _ _ _ C (.inr ⟨a,o,rfl,j a o m⟩) t)
  .exact A4<|A4<|l G _ _ _ _ k (.inr ⟨a,o,rfl,j a o m⟩)<|A2c _ _
def UL{Q:Tf->Ub->Prop}(J:A.handled=Y)(st:JU s.heap it d i es.size ep)(r:Raw s.heap d es ep)(ne:d≠it)
 (K:∀e,es[i]?=Z e->∀h',JU h' it d (i+1) es.size ep->h'.get? s.heap.objs.size=Z (duo e)->(∀b o,b≠it->s.heap.get? b=Z o->h'.get? b=Z o)->Q (Z (.ref s.heap.objs.size)) { s with heap:=h' })
 (L:es[i]?=Y->∀h',Heap.ExtBut it s.heap h'->Q Y { s with heap:=h' }):bz (bx prog w) A (pyNext (.ref it)) Q E s:=by
 let⟨H,g,z,B,os⟩:=s;let⟨x,f,p,q,j,M⟩:=st;let⟨od,C,D⟩:=r;have ty:Shared.TypeIs ⟨H,g,z,B,os⟩ (.ref it) "dict_itemiterator":=⟨_,j,rfl⟩;have own:Builtin.Dict_items.ownsTuple "dict_itemiterator"=true:=66
 refine A1<|A1j<|J9 ty F.slot_dict_itemiterator_next<|F7 F.slot_dict_itemiterator_next ty F.entry_dict_itemiterator_next (A1<|A4<|A1<|A1 ?_)<|F.args_dict_itemiterator_next_1 _;refine A1<|A2l ty<|A4<|A1<|wpAny_fieldsOf j rfl ?_;refine A1<|A4<|A1<|wpAny_dictEntries C D ?_;rw[B7 67];refine A1<|A4<|A1<|wpAny_dictEpoch C D ?_;rw[B7 67];refine A4 ?_;have N:(if (i:Int)<0 then Y else es[(i:Int).toNat]?)=es[i]?:=by rfl
 simp only[N];cases c:es[i]? with
 |some e=>
  refine A1<|A1<|A2l ty<|A4<|A1<|wpAny_isOneOf_itemiter ty ?_;refine A1 (O7 j (k:=3) 67 λh' l m=>A1<|E7 ?_)
  have t:JU h' it d (i+1) es.size ep:=by
   refine⟨x,f,p,q,l,M.imp id λ⟨a,o,G,O⟩=>?_⟩;by_cases c:a=it
   .exact⟨a,_,G,c▸l⟩
   .exact⟨a,o,G,m.extBut a o c O⟩
  have h:Shared.TypeIs ⟨h',g,z,B,os⟩ (.ref it) "dict_itemiterator":=⟨_,l,rfl⟩;refine A1<|wpAny_isOneOf_itemiter h<|A1<|wpAny_isOneOf_itemiter h (aDE t λu y t2 P=>?_);have sz:=m.1;refine A4 ⟨_,rfl,A4 ?_⟩;rw[sz]at t2 ⊢;exact K e c u y t2 λb o I R=>P b o I<|m.extBut b o I R
 |none=>
  refine A1<|A1<|A2l ty<|A4<|A1<|Z8 j (i:=2) rfl 67<|A1 ?_;refine A1<|D6 (A1<|A2r rfl<|D6 ?_ (by size_fits)) (by size_fits);refine A1<|wpAny_handled ?_;rw[show A.in1.handled=Y from J];refine A1<|A4<|wpAny_throw ?_;refine A1<|A1a ⟨_,B5 _ rfl,rfl⟩ isSubtype_stop ?_;exact A4<|L c _<|((U3 ..).extBut.push _).push _
end
structure Handed(es:Array DictEntry)(lo:Uc)(h:Heap)(as:Tb):Prop where
 rise:as.Pairwise (·<·)
 above:∀a∈as,lo<a
 duos:∀(j:Nat)(a:Uc),as[j]?=Z a->∃e,es[j]?=Z e/\h.get? a=Z (duo e)
def Handed.to{lo b:Uc}{h':Heap}(g:Handed es lo h as)(l:b<=lo)(k:∀a o,lo<a->h.get? a=Z o->h'.get? a=Z o):Handed es b h' as:=
 ⟨g.rise,λa ha=>Nat.lt_of_le_of_lt l<|g.above a ha,λj a ha=>let⟨e,x,y⟩:=g.duos j a ha;⟨e,x,k a _ (g.above a<|U7 ha) y⟩⟩
def Handed.more{lo a:Uc}{e:DictEntry}(g:Handed es lo h as)(up:∀b∈as,b<a)(i:lo<a)(k:es[as.length]?=Z e)(ha:h.get? a=Z (duo e)):Handed es lo h (as++[a]):=by
 refine⟨List.pairwise_append.mpr ⟨g.rise,List.pairwise_singleton _ _,λb f c l=>by rw[B4.mp l];exact up b f⟩,λb f=>?_,λj b d=>?_⟩
 .exact(D5.mp f).elim (g.above b) λq=>B4.mp q▸i
 .rw[List.getElem?_append]at d;split at d
  .exact g.duos j b d
  .have z:j-as.length=0:=by
    have:=(B9.mp d).1;simp at this;omega
   rw[z]at d;cases d;exact⟨e,by rw[show j=as.length by omega];exact k,ha⟩
abbrev rowOf(acc:Ti)(c:Nat):Obj:={ cls:=.type "list",dict:=Y,data:=.seq acc c,slots:=#[] }
section
variable{prog:Ue}{w:World}{A:Uf}{E:T0}{s:Ub}{S I d v:Uc}{es:Array DictEntry}{ep:Nat}{R:Result->Ub->Prop}{res:Tz}
def VI(W:A.handled=Y)(N:S<I)(X:d≠S)(O:d≠I)(hn:es.size<=bv):
 ∀(m i:Nat)(h:Heap)(l c:Nat)(acc:Ti)(as:Tb),i+m=es.size->JU h I d i es.size ep->Raw h d es ep->h.get? S=Z (rowOf acc c)->acc.toList=as.map Value.ref->as.length=i->Handed es I h as->I<h.objs.size->
  (∀h' l acc c as,(∀b o,b≠S->b≠I->h.get? b=Z o->h'.get? b=Z o)->h'.get? S=Z (rowOf acc c)->as.length=es.size->Handed es I h' as->acc.toList=as.map Value.ref->R (.ok (.ret res)) { s with heap:=h',toks:=l })->
  cg (bx prog w) A (.builtin "list.extend.loop" ⟨[.ref S,.ref I,res],[]⟩) R { s with heap:=h,toks:=l }:=by
 intro m
 induction m using Nat.strongRecOn with
 |_ m ih=>
  intro i h l c acc as em st r hS P el G Q t;have H:=C2 N;refine A0i F.entry_extend_loop ?_;refine A1 (UL W st r O (λe J B K t1 g=>?_) λJ B g=>?_)
  .have mi:=(A0j.mp J).1;have za:acc.size=i:=by rw[<- D4,P,A6,el]
   have lS:=B2 hS;have u:=g S _ H hS;have n:∀b o,b≠S->B.get? b=Z o->(B.update S (Obj.mapSeq (·.push (Value.ref h.objs.size)))).get? b=Z o:=λb o nb e=>(S8 _ _<|Y6 nb).trans e;have z:=L6 (Obj.mapSeq (·.push (Value.ref h.objs.size))) u rfl;have T:=n _ _ (O1 lS) t1;refine A1<|wpAny_updateSeq u rfl (A4 ⟨A1s F.plain_extend_loop _,?_⟩) 61 68
   refine ih (m-1) 61 (i+1) _ l _ (acc.push<|Value.ref h.objs.size) (as++[h.objs.size]) 61 ?_ (r.to λo e=>n d o X<|g d o O e) z 68 68
    ((G.to (B3 _) λa o C e=>n a o (O1<|A0p N C)<|g a o (O1 C) e).more (λb hb=>?_) Q 68 T) (A0p Q<|B2 T)
    λh' L acc' c' M k=>t h' L acc' c' M λb o U D e=>k b o U D<|n b o U<|g b o D e
   .let⟨x,f,p,q,w1,hx⟩:=K;refine⟨x,f,p,q,n _ _ (Y6 H) w1,hx.imp id λ⟨a,o,V,e2⟩=>?_⟩;by_cases q:a=S
    .subst q;exact⟨a,_,V,z⟩
    .exact⟨a,o,V,n a o q e2⟩
   .let⟨j,hj⟩:=List.mem_iff_getElem?.mp hb;let⟨_,_,y⟩:=G.duos j b hj;exact B2 y
  .have mi:=A2s.mp J;exact A4<|t B l acc c as (λb o _ D e=>g b o D e) (g S _ H hS) 61 (G.to (B3 _) λa o C e=>g a o (O1 C) e) P
def aAL{Q:T4->Ub->Prop}(K:A.handled=Y)(B:s.heap.IsItemsView v d)(r:Raw s.heap d es ep)(hn:es.size<=bv)
 (L:∀(h':Heap)(i:Nat)(as:Tb),(∀b o,s.heap.get? b=Z o->h'.get? b=Z o)->as.length=es.size->Handed es s.heap.objs.size h' as->Q (as.map Value.ref) { s with heap:=h',toks:=i }):
 bz (bx prog w) A (collect (.ref v)) Q E s:=by
 let⟨H,g,p,i,os⟩:=s;have M:=let⟨_,t,_⟩:=B;B2 t;have ld:=let⟨_,t,_⟩:=r;B2 t;refine A1<|wpAny_runValue<|A0i entry_proto_collect' ?_;refine A1<|D6<|A4 ⟨A1s PySem.F.plain_list_iadd _,A0i entry_list_iadd' ?_⟩;have m:∀b o,H.get? b=Z o->(H.push<|rowOf #[] 0).get? b=Z o:=λb o e=>A3 _ e;have C:=(B5 H (o:=rowOf #[] 0) rfl);have N:(H.push<|rowOf #[] 0).objs.size=H.objs.size+1:=S3 ..;show bz _ A.in1 (Builtin.List.listExtendWith (.ref H.objs.size) (.ref v) (.ref H.objs.size)) _ _ ⟨H.push<|rowOf #[] 0,g,p,i,os⟩;generalize H.push (rowOf #[] 0)=G at m C N ⊢;have l:H.objs.size<G.objs.size:=61
 have f:G.IsItemsView v d:=let⟨o,a,b⟩:=B;⟨o,m _ _ a,b⟩;refine A1<|A1e (f.typeIs) ?_;rw[show Builtin.List.listSameRef (.ref H.objs.size) (.ref v)=false from by simp[Builtin.List.listSameRef,O1 M]];refine A1<|VS f (r.to λo e=>m d o e)<|A1<|E7<|W.kdx_hint (let⟨o,a,b,_⟩:=f;⟨o,A3 _ a,b⟩) ?_;have n:∀b o,G.get? b=Z o->(G.push<|zV .none false d 0 es.size ep .none .none).get? b=Z o:=λb o e=>A3 _ e;have u:=B5 G (o:=zV .none false d 0 es.size ep .none .none) rfl;generalize G.push (zV .none false d 0 es.size ep .none .none)=F at n u ⊢
 have go:∀h c,(∀b o,b≠H.objs.size->F.get? b=Z o->h.get? b=Z o)->h.get? H.objs.size=Z (rowOf #[] c)->
  cg (bx prog w) A (.builtin "list.extend.loop" ⟨[.ref H.objs.size,.ref G.objs.size,.ref H.objs.size],[]⟩) (λr s'=>match r with|.ok (.ret v)=>bz (bx prog w) A (match v with|.ref a=>load a >>= λo=>(match o.data with|.seq xs _=>pure xs.toList|_=>unsupported "internal:collect")|_=>unsupported "internal:collect") Q E s'|.ok _=>False|.error e=>E e s') ⟨h,g,p,i,os⟩:=λh c k hS=>
  VI (s:=⟨H,g,p,i,os⟩) K l (C2 ld) (C2<|A0p ld l) hn es.size 0 h i c #[] [] (Nat.zero_add _) ⟨_,_,_,_,k _ _ (O1 l) u,.inl rfl⟩ (r.to λo e=>k _ _ (C2 ld)<|n _ _<|m _ _ e) hS rfl rfl
   ⟨.nil,(λ_ q=>nomatch q),λj a q=>by simp at q⟩ (B2<|k _ _ (O1 l) u) λh' x acc c as O y el P T=>A1 (wpAny_load y (A4 (by
    rw[T];exact L h' x as (λb o e=>O b o (C2 (B2 e)) (C2 (A0p (B2 e) l)) (k b o (C2 (B2 e)) (n b o (m b o e)))) el (P.to (A1r l) λ_ _ _ e=>e))))
 have z:=n _ _ C;have D:=L6 (Obj.mapSeq (·.push Value.none)) z rfl;refine wpAny_ite_split (λ_=>A1 (A0v (A1 (A1 (wpAny_updateSeq z rfl (wpAny_updateSeq D rfl (A4 ⟨A1s PySem.F.plain_extend_loop _,go _ _ (λb o J e=>?_) (L6 (Obj.mapSeq (·.pop)) D rfl)⟩))))))) λ_=>A4 ⟨A1s PySem.F.plain_extend_loop _,go _ _ (λ_ _ _ e=>e) z⟩;rw[S8 _ _ (Y6 J),S8 _ _<|Y6 J];exact e
end
end PySem
namespace PySem
open PySem.Calls PyProof.Rows
section
variable{prog:Ue}{w:World}{A:Uf}{E:T0}{s:Ub}{it d:Uc}{es:Array DictEntry}{i ep:Nat}
def JG{Q:T0}(hd:(d==sysModules)=false)(ty:s.TypeIs (.ref d) "dict")(r:Raw s.heap d es ep)
 (h:Q (.ref s.heap.objs.size) { s with heap:=s.heap.push { cls:=.type "dict_keyiterator",data:=.fields #[.ref d,.int 0 0,.int es.size 0,.int ep 0] } }):bz (bx prog w) A (pyIter (.ref d)) Q E s:=by
 let⟨o,a,b⟩:=r;have q:Builtin.Dict.showsAll d=pure ():=by unfold Builtin.Dict.showsAll;rw[hd];rfl
 refine wpAny_pyIter_slot ty F.slot_dict_iter<|F7 F.slot_dict_iter ty F.entry_dict_iter (A1<|A1<|wpAny_notOrdered_dict ty<|A4 (?_:bz _ _ (Builtin.Dict.showsAll d >>= _) _ _ s))<|F.args_dict_iter_1 _;rw[q];refine A1<|A4<|A1<|wpAny_dictEntries a b<|A1<|wpAny_dictEpoch a b<|A1<|D6<|A4 ⟨_,rfl,_,_,⟨_,B5 _ rfl,rfl⟩,F.slot_dict_keyiterator_next.lookup,?_⟩;exact h
def vE{Q:Tf->Ub->Prop}(h:A.handled=Y)(st:s.heap.IsKeyIter it d i es.size ep)(r:Raw s.heap d es ep)
 (j:∀e,es[i]?=Z e->∀h',h'.IsKeyIter it d (i+1) es.size ep->Heap.SameBut it s.heap h'->Q (Z e.key) { s with heap:=h' })
 (k:es[i]?=Y->∀h',Heap.ExtBut it s.heap h'->Q Y { s with heap:=h' }):bz (bx prog w) A (pyNext (.ref it)) Q E s:=by
 let⟨o,b,l,f0⟩:=id st;let⟨od,f,g⟩:=r;have ty:=st.typeIs;have own:Builtin.Dict_items.ownsTuple "dict_keyiterator"=false:=66
 refine A1<|A1j<|J9 ty F.slot_dict_keyiterator_next<|F7 F.slot_dict_keyiterator_next ty F.entry_dict_keyiterator_next (A1<|A4<|A1<|A1 ?_)<|F.args_dict_keyiterator_next_1 _;refine A1<|A2t ty<|A4<|A1<|wpAny_fieldsOf b f0 ?_;refine A1<|A4<|A1<|wpAny_dictEntries f g ?_;rw[B7 67];refine A1<|A4<|A1<|wpAny_dictEpoch f g ?_;rw[B7 67];refine A4 ?_;have m:(if (i:Int)<0 then Y else es[(i:Int).toNat]?)=es[i]?:=by rfl
 simp only[m];cases c:es[i]? with
 |some e=>
  refine A1<|A1<|A2t ty<|A4<|A1<|wpAny_isOneOf_keyiter ty ?_;refine A1<|Z8 b (i:=1) f0 67 ?_
  have a:(s.heap.update it (Obj.mapFields (·.setIfInBounds 1 (rawInt ((i:Int)+1))))).IsKeyIter it d (i+1) es.size ep:=
   ⟨_,L6 _ b<|A0a<|S9 f0 _,(A2b ..).trans l,by rw[S9 f0];simp[rawInt]⟩
  refine A1<|E7<|A1<|wpAny_isOneOf_keyiter a.typeIs ?_;exact A4<|A4 ⟨_,rfl,A4<|j e c _ a<|U3 ..⟩
 |none=>
  refine A1<|A1<|A2t ty<|A4<|A1<|Z8 b (i:=0) f0 67<|A1 ?_;refine A1<|D6 (A1<|A2r rfl<|D6 ?_ (by size_fits)) (by size_fits);refine A1<|wpAny_handled ?_;rw[show A.in1.handled=Y from h];refine A1<|A4<|wpAny_throw ?_;refine A1<|A1a ⟨_,B5 _ rfl,rfl⟩ isSubtype_stop ?_;exact A4<|k c _<|((U3 ..).extBut.push _).push _
def KQ{h h':Heap}{it d:Uc}{i ep:Nat}(x:h.IsKeyIter it d i n ep)(k:∀o,h.get? it=Z o->h'.get? it=Z o):h'.IsKeyIter it d i n ep:=let⟨o,a,r⟩:=x;⟨o,k o a,r⟩
def aAS(hh:A.handled=Y)(ne:d≠it):
 Walks prog w A it [it,d] [it] es.size (λi v=>(es[i]?).map (·.key)=Z v) (λi h=>h.IsKeyIter it d i es.size ep/\Raw h d es ep) where
 sub:=λb hb=>by simp at hb;simp[hb]
 frame:=λ_ _ _ st hk=>⟨KQ st.1 λo e=>hk it 67 o e,st.2.to λo e=>hk d 67 o e⟩
 item:=λi s Q E hi st hQ=>by
  have hx:=L8 hi;refine vE hh st.1 st.2 (λe he h' st' sb=>?_) λhn=>by rw[hx]at hn;cases hn
  exact hQ _ h' s.toks 68 ⟨st',st.2.to λo e=>sb.extBut d o ne e⟩ λb o hb e=>sb.extBut b o (λh=>hb (by simp[h])) e
 done:=λs Q E st hQ=>by
  have hx:es[es.size]?=Y:=A0x<|B3 _;refine vE hh st.1 st.2 (λe he=>by rw[hx]at he;cases he) λ_ h' sb=>hQ h' s.toks λb o hb e=>sb b o (λh=>hb (by simp[h])) e
 self:=λ_ _ _ _ st hQ=>wpAny_pyIter_keyiter st.1 hQ
def aCs{o:Obj}(hd:(d==sysModules)=false)(cl:o.cls=.type "dict")(dt:o.data=.dict es ep):W.KdlSrc prog w "dict" d d es.size (λi v=>(es[i]?).map (·.key)=Z v) (λh=>h.get? d=Z o) where
 type:=λs ho=>⟨o,ho,cl⟩
 there:=λh ho=>⟨B2 ho,B2 ho⟩
 keep:=λh h' ho k=>k d (.inl rfl) o ho
 notList:=66
 notTuple:=66
 hint:=λA E s Q ho q=>W.kdl_hint_dict ⟨o,ho,cl⟩ q
 iter:=λA s hh ho=>⟨_,λi h=>h.IsKeyIter s.heap.objs.size d i es.size ep/\Raw h d es ep,(λE Q q=>JG hd ⟨o,ho,cl⟩ ⟨o,ho,dt⟩ q),aAS hh<|C2<|B2 ho,⟨_,B5 _ rfl,rfl,rfl⟩,o,A3 _ ho,dt⟩
end
end PySem
namespace PySem.W
open PySem PySem.Calls PyProof.Rows PyProof.V PySem.Spec
section
variable{prog:Ue}{w:World}{A:Uf}{E:T0}{s:Ub}{h₀:Heap}{L:Uc}{m:Str->Tf}{news:T1}{vs:T4}
def l2_tail{Q:T0}(F:Fr h₀ L s.heap m)(N:News h₀ L s.heap news)(t:2<=vs.length)(e:vs.length<64)
 (h:∀D d h',Fr h₀ L h' m->News h₀ L h' ((D,seqObj "list" #[] d)::news)->(∀q∈news,q.1<D)->
  bz (bx prog w) A.in1 (keyKind' vs.toArray) (λk s'=>(kas_sort vs.length).kasWp (kas_ask prog w A.in1 k vs) (λp a=>KasFin h₀ L m D d (p.toList.map λi=>vs.getD i Value.none) (λs3=>Q (.ref D) s3) a) s') 75 { s with heap:=h' }):
 bz (bx prog w) A (do let l <- newList vs;let _ <- holding [l] (call (.builtin "list.sort") [l]);ret l) (λf s'=>∃v,f=.done (.ret v)/\Q v s') E s:=by
 refine A1<|wpAny_newList ?_ (by rw[J7];omega);have c:(s.heap.push<|seqObj "list" vs.toArray 0).get? s.heap.objs.size=Z (seqObj "list" vs.toArray 0):=B5 _ rfl;have keep:∀b o,s.heap.get? b=Z o->(s.heap.push<|seqObj "list" vs.toArray 0).get? b=Z o:=λb o q=>A3 _ q;have n:=F.ns.lt;refine A1<|E7<|F7 slot_list_sort ⟨_,c,rfl⟩ entry_list_sort ?body<|args_list_sort _
 case body=>
  refine kat_list_sort (F.kept keep) (N.grown keep) c (O1 n) (Heap.get?_none_of_le<|C5 F.above<|A1r n)
   (λp u=>C2<|B2 (N p u).1) t e λd h' y N'=>?_
  refine C7 (h _ d h' y N' λq g=>B2 (N q g).1) (λk s' r=>?_) λ_ _ x=>x;rw[kat_ask_eq rfl]at r ⊢;exact kas_wp_mono r λp a j=>j.mono λs3 g=>⟨_,rfl,A4 ⟨_,rfl,g⟩⟩
end
end PySem.W
namespace L2
variable{A:Uf}{H:Hp}{W:Wd}
open PySem PySem.Spec PyProof.Rows
section
variable{X:Cx}{cp:T1}{σ:St}{H:Hp}{s:Ub}{E:T0}
noncomputable def DW(its:T4):Sem PySem.Fin:=do let l <- newList its;let _ <- holding [l] (call (.builtin "list.sort") [l]);ret l
def UB(K:Fg)(vs:Td)(H:Hp)(Q:VK):Prop:=
 (∃a:Tv (T3),aL K H (a.map .tuple) vs/\2<=a.length/\a.length<64/\(∀r∈a,r.all cj=true/\mT r=true)/\(pE a=true\/rJ a=true)/\(∀i j,i<a.length->j<a.length->(nR (a.getD i [])<|a.getD j []).isSome=true) /\
  ∀l,H l=Y->Q (.ref l) (upd H l (.lst ((jK (vK a) a.length).map λi=>vs.getD i .non))))\/(vs.length<2/\∀l,H l=Y->Q (.ref l) (upd H l (.lst vs)))
def aKN{a:Tv (T3)}{Q:VK}(hu:A.in1.units+64<cLine)(I:Inv X cp σ H s)(rv:bE vs its)(g:aL X.K H (a.map .tuple) vs)(h2:2<=a.length)(T:a.length<64)
 (f:∀r∈a,r.all cj=true/\mT r=true) (h:pE a=true\/rJ a=true) (t:∀i j,i<a.length->j<a.length->(nR (a.getD i [])<|a.getD j []).isSome=true)
 (q:∀l,H l=Y->Q (.ref l) (upd H l (.lst ((jK (vK a) a.length).map λi=>vs.getD i .non)))):
 bz (bx X.prog X.w) A (DW its) (λU s'=>∃v,U=.done (.ret v)/\∃x H',Inv X cp σ H' s'/\RelV x v/\Q x H') E s:=by
 let⟨as,u⟩:=aL.reads I _ vs its g rv;have k:its.length=a.length:=by rw[ReadsAll.len u,A6]
 let⟨m,F⟩:=I.fr;have N:News X.base X.env.locals s.heap (qS X.base s.heap X.env.locals):=RB;refine PySem.W.l2_tail F N 61 61 λD e1 h' F' N' hD=>?_
 have kp:∀(R:Heap),Fr X.base X.env.locals R m->(∀q∈qS X.base s.heap X.env.locals,R.get? q.1=Z q.2)->∀b o,b≠X.env.locals->s.heap.get? b=Z o->R.get? b=Z o:=λR G1 M1 b o hb e=>by
  cases z:X.base.get? b with
  |some v=>
   have:=I.bk b v z;rw[e]at this;cases this;exact G1.keep b _ z
  |none=>exact M1 (b,o)<|nN hb z e
 have k':=kp h' F' λq B=>(N' q<|A7 _ B).1
 have G:s.heap.get? D=Y:=by
  have hN:=N' _ B0;cases e:s.heap.get? D with
  |none=>rfl
  |some o=>exact absurd (hD (D,o)<|nN hN.2.1 hN.2.2 e)<|Y5 _
 have J:∀b o vs n,s.heap.get? b=Z o->o.data=.seq vs n->b≠X.env.locals:=λb o vs n e d z=>by
  let⟨o',es,ep,x1,x2,_⟩:=F.ns;subst z;rw[e]at x1;cases x1;rw[d]at x2;cases x2
 have a0:mT (a.map .tuple)=true:=by
  clear g u k q h t h2 T
  induction a with
  |nil=>rfl
  |cons x r ih=>
   show(mT x&&mT (r.map .tuple))=true;rw[(f x B0).2,ih λy hy=>f y<|A7 _ hy];rfl
 have L:=aEA (λb o vs n e d=>k' b o (J b o vs n e d) e) _ _ _ a0 u;refine aAY L 61 h ?_;rw[k];refine KS.wp (λi j C hi S c=>?_) (λp a1=>?_)<|(aAp 61).ks (lt:=vK a)
 .have at_:∀i,i<a.length->∃bs,Reads h' (its.getD i .none) (.tuple (a.getD i [])) bs:=λi hi=>by
   let⟨bs,x⟩:=ReadsAll.at i L 68
   have:(a.map PyData.tuple).getD i .none=.tuple (a.getD i []):=by
    rw[D9,D7,D9,C0 hi];rfl
   rw[this]at x;exact⟨bs,x⟩
  let⟨b1,r1⟩:=at_ i hi;let⟨b2,r2⟩:=at_ j S
  have mem:∀i,i<a.length->a.getD i []∈a:=λi hi=>by
   rw[D9,C0 hi];exact U9 hi
  have hd:pE a=true->∀r∈a,r.head?.all isI=true:=λz r u=>by
   have:=C3.mp z r u;cases r with
   |nil=>rfl
   |cons d ds=>cases d<;>first|rfl|exact absurd this 67
  let⟨c0,M⟩:=A1l.mp<|t i j hi S;have hc:vK a i j=c0:=by unfold vK;rw[M];rfl
  rw[hc]at c;exact aNa hu r1 r2 (f _<|mem i hi).1 (f _<|mem j S).1 M (λz=>⟨hd z _<|mem i hi,hd z _<|mem j S⟩) c
 .let⟨e,_⟩:=a1;subst e;refine PySem.W.KasFin.intro F' N' (.head λq B=>C2<|hD q B) λa2 c O P=>?_;have a3:=kp a2 O (λq B=>(P q<|A7 _ B).1);refine⟨.ref D,upd H D (.lst ((jK (vK a) a.length).map λi=>vs.getD i .non)),?_,rfl,q D<|I.hok.none G⟩;refine I.laidL a3 (λm' a4=>?_) G ⟨?_,_,c,JX rv _,(P _ B0).1⟩
  .rw[<- YS F.ns a4];exact O.ns
  .rw[A6,(nX (vK a) 61).length_eq,O0];have:64<=bv:=66
   omega
def aKr{A:Uf}{Q:VK}(I:Inv X cp σ H s)(f:bE vs its)(n:vs.length<2)(q:∀l,H l=Y->Q (.ref l) (upd H l (.lst vs))):
 bz (bx X.prog X.w) A (DW its) (λa s'=>∃v,a=.done (.ret v)/\∃x H',Inv X cp σ H' s'/\RelV x v/\Q x H') E s:=by
 have p:=f.length;have h:its.length<=bv:=by rw[J7];omega
 refine A1<|wpAny_newList ?_ h;refine A1<|E7 ?_;have d:(s.heap.push { cls:=.type "list",data:=.seq its.toArray }).get? s.heap.objs.size=Z (seqObj "list" its.toArray 0):=B5 _ rfl;refine F7 slot_list_sort ⟨_,d,rfl⟩ entry_list_sort (CN d 61 ⟨_,rfl,?_⟩)<|args_list_sort _
 obtain⟨c,i⟩:∃c,(sortedHeap (s.heap.push { cls:=.type "list",data:=.seq its.toArray }) s.heap.objs.size its its.toArray).get? s.heap.objs.size=Z (seqObj "list" its.toArray c):=by
  have j:=A1p d (λ_=>#[]);have k:=A3 (seqObj "tuple" its.toArray 0) j;have m:=A3 (seqObj "list" #[] 0) k;exact⟨_,A1p m λ_=>its.toArray⟩
 refine A4 ⟨_,rfl,.ref s.heap.objs.size,upd H s.heap.objs.size (.lst vs),I.laid (λb o e=>?_) (B3 _) ⟨61,its,c,f,i⟩,rfl,q _<|I.hok.fresh<|B3 _⟩
 .have g:=C2<|B2 e;unfold sortedHeap;rw[A0k _ _ _ _ g];refine A3 _<|A3 _ ?_;rw[A0k _ _ _ _ g];exact A3 _ e
def aFm(l:A.in1.units+64<cLine)(I:Inv X cp σ H s)(j:bE vs its)(h:UB X.K vs H Q):
 bz (bx X.prog X.w) A (DW its) (λi s'=>∃v,i=.done (.ret v)/\∃x H',Inv X cp σ H' s'/\RelV x v/\Q x H') E s:=by
 obtain⟨k,a,b,c,d,e,f,g⟩|⟨a,b⟩:=h
 .exact aKN l I j a b c d e f g
 .exact aKr I j a b
def yK:Tv (V×V)->Hp->(Td->Hp->Prop)->Prop
 |[],H,k=>k [] H
 |(x,y)::r,H,k=>∀p,H p=Y->yK r (upd H p (.tup [x,y])) λvs a=>k (.ref p::vs) a
def Inv.trackT{e:Uc}{its:T4}(I:Inv X cp σ H s)(d:s.heap.get? e=Z { cls:=.type "tuple",data:=.seq its.toArray n })(g:bE vs its)(i:vs.length<=bv)(hn:H e=Y)(j:X.s₀.heap.get? e=Y)(k:∀p∈X.pn++cp,p.1≠e):
 Inv X cp σ (upd H e (.tup vs)) s:=by
 have ne:∀b u,H b=Z u->b≠e:=λb u z=>aX z hn
 have nd:∀b (o:Obj),s.heap.get? b=Z o->(∀vs n,o.data≠.seq vs n)->b≠e:=λb o q z w=>by
  subst w;rw[d]at q;cases q;exact z _ _ rfl
 refine⟨I.ok,I.os,I.bare,⟨I.base.keep,I.base.slot,λb o q n l=>?_,I.base.there,λb xs q=>?_,λb o u q=>?_,λb ps q=>?_⟩,I.loc,I.cell,?_,λx c q=>?_,λp h=>?_,λb u q=>?_,I.len⟩
 .rw[aO (λz=>by rw[z,j]at q;cases q)];exact I.base.free b o q n l
 .have:=I.base.tups b xs q;rw[aO (ne _ _ this)];exact this
 .have:=I.base.frzs b o u q;rw[aO (ne _ _ this)];exact this
 .let⟨more,this⟩:=I.base.tbls b ps q;exact⟨more,by rw[aO (ne _ _ this)];exact this⟩
 .let⟨m,⟨o,es,ep,a,hd,_⟩,_⟩:=I.loc;rw[aO (nd _ o a λvs n z=>by rw[hd]at z;cases z)];exact I.free
 .let⟨v,o,a,hd⟩:=I.cell x c q;rw[aO (nd _ o a λvs n z=>by rw[hd]at z;cases z)];exact I.freeC x c q
 .let⟨r,t,y⟩:=I.pin p h;exact⟨r,by rw[aO (k p h)];exact t,y⟩
 .by_cases f:b=e
  .subst f;rw[aS]at q;cases q;exact⟨i,its,g,⟨_,d,rfl,n,rfl⟩⟩
  .rw[aO f]at q;exact(I.hok b u q).stay (λ_ _ _ z=>z) (λc z=>by rw[aO (ne _ _ z)];exact z) λc xs z=>by rw[aO (ne _ _ z)];exact z
theorem YO:∀{ps:Tv (V×V)}{us:Tv (Tz×Tz)}{as:Tb}{H:Hp}{k:Td->Hp->Prop},Inv X cp σ H s->Paired (λp q=>RelV p.1 q.1/\RelV p.2 q.2) ps us->as.length=us.length->as.Pairwise (·<·)->(∀a∈as,H a=Y)->
 (∀(j:Nat)(a:Uc),as[j]?=Z a->∃p,us[j]?=Z p/\s.heap.get? a=Z { cls:=.type "tuple",data:=.seq #[p.1,p.2] })->(∀a∈as,X.s₀.heap.get? a=Y/\∀p∈X.pn++cp,p.1≠a)->yK ps H k->∃f,Inv X cp σ f s/\k (as.map .ref) f
 |[],us,as,H,k=>λI r d _ _ _ _ h=>by
  cases r;have:as=[]:=A2a d;subst this;exact⟨H,I,h⟩
 |(x,y)::ps,us,as,H,k=>λI r d i hn g e h=>by
  cases r with
  |@cons _ q _ n m o=>
   match as,d,i,hn,g,e with
   |a::t,d,i,hn,g,e=>
    let⟨p,u,v⟩:=g 0 a rfl;cases u;let⟨w,z⟩:=S6.mp i;have B:=I.trackT v (.cons m.1 (.cons m.2 .nil)) (by show 2<=bv;rw[J7];decide) (hn a B0) (e a B0).1 (e a B0).2;have l:=Nat.succ.inj d;let⟨f,C,D⟩:=YO B o l z (λb c=>by rw[aO (O1<|w b c)];exact hn b<|A7 _ c) (λj b c=>g (j+1) b c) (λb c=>e b<|A7 _ c)<|h a<|hn a B0;exact⟨f,C,D⟩
def aDC(K:Fg)(d:TE):TE:=λσ H Q=>d σ H λx c=>∃a kvs,x=.ref a/\c a=Z (.dT kvs) /\
 ∀bs:Tb,Paired (λ(b:Uc)(e:Tv Key×V)=>c b=Z (.tup (e.1.map kV))) bs kvs->yK ((bs.zip kvs).map λp=>(.ref p.1,p.2.2)) c λvs f=>UB K vs f Q
end
section
variable{X:Cx}{o:Ud}{td:TE}{pos apos cpos p:Pos}
theorem KT.addrs{H:Hp}:∀{kvs:Tv (Tv Key×V)}{xs:Tv (Tv Key×Uc×Tz)},KT H kvs xs->Paired (λ(b:Uc)(d:Tv Key×V)=>H b=Z (.tup (d.1.map kV))) (xs.map λx=>x.2.1) kvs /\
 Paired (λ(p:V×V)(q:Tz×Tz)=>RelV p.1 q.1/\RelV p.2 q.2) (((xs.map λx=>x.2.1).zip kvs).map λp=>(V.ref p.1,p.2.2)) (xs.map λx=>(Value.ref x.2.1,x.2.2))
 |_,_,.nil=>⟨.nil,.nil⟩
 |_,_,.cons a c=>⟨.cons a.2.1 (KT.addrs c).1,.cons ⟨rfl,a.2.2⟩ (KT.addrs c).2⟩
def aFU(G:X.A.in1.in1.units+64<cLine)(J:X.calm=true)(L:Gl X "sorted")(hm:X.mg "sorted"=Y)(M:PE X o td)(f:attributeBase o "items" X.env (eval o X.env)=eval o X.env)(g:(apos.endLine==cpos.line)=true):
 PE X (.Call (.Name "sorted" p) [.Call (.Attribute o "items" apos) [] [] cpos] [] pos) (aDC X.K td):=by
 intro cp s m H Q I h;refine Z0<|iI I L hm boot_sorted ?_ 66 66;refine A1y ?_ rfl rfl;refine A1w ?_;refine wpAny_Call_method f rfl g F.plainAttrs_dict F.slot_dict_items F.type_dict_items (thn (M cp s m H _ I h) λu s1 N=>?_);let⟨x,C,i,O,a,kvs,ex,P,q⟩:=N;subst ex;obtain rfl:=O;let⟨z,hs,xs,r,od,es,ep,n,D,R,E,h5⟩:=(i.hok a _ P);have hT:s1.TypeIs (.ref a) "dict":=⟨od,n,D.1⟩;refine⟨hT,λb e=>by cases e;exact⟨od,n,D.2.1⟩,?_⟩;refine method_meetsIn F.slot_dict_items F.entry_dict_items rfl<|PySem.evalArgs_none ⟨rfl,hT,F.args_dict_items_1 _,_,UI a hs,hT,?_⟩;refine A1z ?_;have S:Inv X cp m C { s1 with heap:=s1.heap.push { cls:=.type "dict_items",data:=.fields #[.ref a] } }:=i.kept λb o e=>A3 _ e;have T:(s1.heap.push { cls:=.type "dict_items",data:=.fields #[.ref a] }).IsItemsView s1.heap.objs.size a:=⟨_,B5 _ rfl,rfl,rfl⟩;have t:Raw (s1.heap.push { cls:=.type "dict_items",data:=.fields #[.ref a] }) a es ep:=⟨od,A3 _ n,R⟩;have U:es.size=xs.length:=by rw[<- D4,E,A6]
 have hl:=Paired.len r;refine Calls.call_function_entry kind_sorted plain_sorted entry_sorted (args_sorted1 _) ?_;refine A1<|A4 ?_;refine A1 (aAL (I.ok.hd J) T t 61 λh' V as hk v l=>?_);have I3:Inv X cp m C { s1 with heap:=h',toks:=V }:=S.kept hk;let⟨w,y⟩:=KT.addrs r;have d:=λb f=>A0p (by rw[S3];exact Y8 _)<|l.above b f
 let⟨H2,I4,k⟩:=YO I3 y 68 l.rise (λb f=>i.hok.fresh<|A1r<|d b f) (λj b hj=>by
  let⟨e,B,e2⟩:=l.duos j b hj;refine⟨(e.key,e.val),?_,e2⟩;rw[<- F8,E,D7]at B;rw[D7];cases c:xs[j]?<;>rw[c]at B<;>cases B;rfl) (λb f=>⟨Heap.get?_none_of_le (C5 i.sz (A1r (d b f))),λp hp=>C2 (A0p (B2 (i.pin p hp).1) (d b f))⟩) (q _ w)
 exact aFm G I4 (by
  clear k l v d
  induction as with
  |nil=>exact .nil
  |cons b as ih=>exact .cons rfl ih) k
end
section
variable{K:Fg}{td:TE}{fo:EF}
def Good.adopt(G:Good K W M H)(d:H b=Z (.tup us)):W.Ext { W with F:=upd W.F b (.tup us) }/\Good K { W with F:=upd W.F b (.tup us) } M H:=by
 have ff:jA W.F (upd W.F b (.tup us)):=λc o a=>by
  by_cases q:c=b
  .subst q;have:=G.fh _ _ a;rw[d]at this;cases this;exact aS
  .rw[aO q];exact a
 have e:W.Ext { W with F:=upd W.F b (.tup us) }:=⟨ff,B3 _,λ_ _=>rfl⟩;refine⟨e,λc o a=>?_,G.n,λi c hi a=>?_,G.inj,G.tb.updF λps e=>by rw[d]at e;cases e⟩
 .have a:upd W.F b (.tup us) c=Z o:=a;by_cases q:c=b
  .subst q;rw[aS]at a;cases a;exact d
  .rw[aO q]at a;exact G.fh c o a
 .let⟨h,o,f,g⟩:=G.cs i c hi a
  have ne:W.α i≠b:=λq=>by
   rw[q,d]at f;cases f;cases c<;>exact False.elim g
  exact⟨by show upd W.F b (.tup us) (W.α i)=Y;rw[aO ne];exact h,o,f,g.up e⟩
def aAO(a:Tv Key×Ua):T3:=[.tuple (a.1.map yS),a.2]
def vV:Tv (Tv Key×CD)->Tx (Tv (Tv Key×Ua))
 |[]=>Z []
 |(k,.d x)::r=>(vV r).bind λq=>Z ((k,x)::q)
 |_=>Y
def hV(a:Tv (T3)):Tx (T3):=if sortable a=true then Z (SX a)else if a.length<2 then Z (a.map .tuple)else Y
def AB(fo:EF):EF:=λa M=>(fo a M).bind λo=>match o.1 with
 |.c i=>match o.2[i]? with
  |some (.dt kvs)=>(vV kvs).bind λds=>(hV<|ds.map aAO).bind λr=>Z (.d (.list r),o.2)
  |_=>Y
 |_=>Y
theorem MU{H:Hp}:∀ks:Tv Key,aL K H (ks.map yS) (ks.map kV)
 |[]=>rfl
 |k::ks=>⟨_,_,rfl,by cases k<;>rfl,MU ks⟩
theorem yX{H:Hp}:∀{bs:Tb}{kvs:Tv (Tv Key×V)}{W:Wd},Good K W M H->Paired (λ(b:Uc)(a:Tv Key×V)=>H b=Z (.tup (a.1.map kV))) bs kvs->∃W',W.Ext W'/\Good K W' M H/\Paired (λ(b:Uc)(a:Tv Key×V)=>W'.F b=Z (.tup (a.1.map kV))) bs kvs
 |_,_,W,G,.nil=>⟨W,.refl _,G,.nil⟩
 |_,_,W,G,.cons d e=>by
  let⟨f,g⟩:=G.adopt d;let⟨h,c,G2,i⟩:=yX g e;exact⟨h,f.trans c,G2,.cons (c.ff _ _ aS) i⟩
theorem QY:∀{bs:Tb}{ds:Tv (Tv Key×Ua)}{kvs:Tv (Tv Key×V)}{W:Wd}{H:Hp}{k:Td->Hp->Prop},Good K W M H->Paired (λ(b:Uc)(f:Tv Key×V)=>W.F b=Z (.tup (f.1.map kV))) bs kvs->Paired (λ(p:Tv Key×Ua)(q:Tv Key×V)=>p.1=q.1/\Rep K W.F p.2 q.2) ds kvs->
 (∀vs W' H',W.Ext W'->Good K W' M H'->aL K W'.F ((ds.map aAO).map .tuple) vs->k vs H')->yK ((bs.zip kvs).map λp=>(.ref p.1,p.2.2)) H k
 |_,_,_,W,H,k,G,.nil,.nil=>λc=>c [] W H (.refl _) G rfl
 |b::bs,(ks,d)::ds,(g,v)::kvs,W,H,k,G,.cons h i,.cons j q2=>λc=>by
  let⟨rfl,l⟩:=j;intro p m;let⟨a,n⟩:=G.lay m;refine QY n (Paired.mapP i λ_ _ r=>a.ff _ _ r) (Paired.mapP q2 λ_ _ r=>⟨r.1,Rep.same a.ff _ _ r.2⟩) λvs o s e G2 t=>?_;refine c _ o s (a.trans e) G2 ⟨_,_,rfl,⟨p,_,rfl,SqT.of<|e.ff _ _ aS,?_⟩,t⟩;exact⟨_,_,rfl,⟨b,_,rfl,SqT.of<|(a.trans e).ff _ _ h,MU ks⟩,_,_,rfl,Rep.same (a.trans e).ff _ _ l,rfl⟩
theorem AH{W:Wd}:∀{kvs:Tv (Tv Key×CD)}{ds:Tv (Tv Key×Ua)}{us:Tv (Tv Key×V)},vV kvs=Z ds->PKV K W kvs us->Paired (λ(p:Tv Key×Ua)(q:Tv Key×V)=>p.1=q.1/\Rep K W.F p.2 q.2) ds us
 |[],_,_,h,.nil=>by cases h;exact .nil
 |(k,.d x)::r,_,_,h,.cons a b=>by
  let⟨q,e,h⟩:=aH h;cases h;exact .cons a (AH e b)
 |(k,.c _)::r,_,_,h,_=>by cases h
def aEO(a:SE K td fo):SE K (aDC K td) (AB fo):=by
 intro E M x M' b W H n Q G R k;let⟨⟨o,M1⟩,p,b⟩:=aH b;revert b;dsimp only;split
 .rename_i i;split
  .rename_i kvs q;intro b;let⟨ds,s,b⟩:=aH b;let⟨r,c,b⟩:=aH b;cases b;refine a _ _ _ _ p W H n _ G R λv F I t j u=>?_;let⟨us,w,y⟩:=j.dtAt q;refine⟨_,us,u.2,w,λbs z=>?_⟩;let⟨J,m,G2,B⟩:=yX j z;refine QY G2 B (Paired.mapP (AH s y) λ_ _ r=>⟨r.1,Rep.same m.ff _ _ r.2⟩) λvs L N C G3 g=>?_;have e:=(t.trans m).trans C;unfold hV at c;by_cases hs:sortable (ds.map aAO)=true
   .rw[A8 hs]at c;cases c;let⟨s1,s2,s3,s4,D⟩:=BH hs;refine .inl ⟨ds.map aAO,aL.same G3.fh _ _ g,s1,s2,s3,s4,D,λl h=>?_⟩;let⟨f,G4⟩:=G3.lay h;exact k _ _ _ (e.trans f) G4 ⟨l,_,rfl,SqL.of aS,aL.same f.ff _ _<|HJ g _<|aJS 61⟩
   .rw[B7 hs]at c;by_cases d:(ds.map aAO).length<2
    .rw[A8 d]at c;cases c;refine .inr ⟨by rw[<- g.length,A6];exact d,λl h=>?_⟩;let⟨f,G4⟩:=G3.lay h;exact k _ _ _ (e.trans f) G4 ⟨l,_,rfl,SqL.of aS,aL.same f.ff _ _ g⟩
    .rw[B7 d]at c;cases c
  .intro b;cases b
 .intro b;cases b
def aCI{ι:Type}{X:ι->Cx}{pos apos cpos p:Pos}(b:∀i,(X i).K=K)(c:∀i,(X i).A.in1.in1.units+64<cLine)(d:∀i,(X i).calm=true)(hm:∀i,(X i).mg "sorted"=Y)(x:ME K X o f)(e:∀i,Gl (X i) "sorted":=by intro _;rfl)
 (g:∀env:Env,attributeBase o "items" env (eval o env)=eval o env:=by intro _;rfl) (a:(apos.endLine==cpos.line)=true:=by rfl):ME K X (.Call (.Name "sorted" p) [.Call (.Attribute o "items" apos) [] [] cpos] [] pos) (AB f):=by
 let⟨t,h,j⟩:=x.ex;exact⟨_,λi=>by have:=aFU (p:=p) (pos:=pos) (c i) (d i) (e i) (hm i) (h i) (g _) a;rw[b i]at this;exact this,aEO j⟩
end
section
variable{K:Fg}
def Good.freezeL{i:Nat}{ds:T3}(G:Good K W M H)(hi:M[i]?=Z (.lst xs))(hd:kI xs=Z ds):
 ∃W',W.Ext W'/\Good K W' (M.set i .dead) H/\W'.α i=W.α i/\bW K W' (.d (.list ds)) (.ref (W.α i)):=by
 let⟨vs,f,r⟩:=G.lstAt hi;let⟨hn,_⟩:=G.cs i _ hi 67;have lt:=(B9.mp hi).1;have e:W.Ext { W with F:=upd W.F (W.α i) (.lst vs) }:=⟨jA.upd hn,B3 _,λ_ _=>rfl⟩
 have at_:∀j d,(M.set i .dead)[j]?=Z d->d≠.dead->j≠i/\M[j]?=Z d:=λj d h hd=>by
  by_cases q:i=j
  .subst q;rw[F0 lt]at h;exact absurd (E5 h).symm hd
  .rw[F6 q]at h;exact⟨λz=>q z.symm,h⟩
 refine⟨_,e,⟨λc o a=>?_,by show W.n=_;rw[G.n,Z6],λj d b hd=>?_,λj k g l b s m p t=>?_,G.tb.updF λps z=>by rw[f]at z;cases z⟩,rfl,⟨_,vs,rfl,SqL.of aS,aL.same e.ff _ _<|eT hd r⟩⟩
 .have a:upd W.F (W.α i) (.lst vs) c=Z o:=a;by_cases q:c=W.α i
  .subst q;rw[aS]at a;cases a;exact f
  .rw[aO q]at a;exact G.fh c o a
 .let⟨q,h⟩:=at_ j d b hd;let⟨v,u,w,x⟩:=G.cs j d h hd;have ne:=λz=>q<|G.inj j i d _ h hi hd 67 z;exact⟨by show upd W.F (W.α i) (.lst vs) (W.α j)=Y;rw[aO ne];exact v,u,w,x.up e⟩
 .exact G.inj j k g l (at_ j g b m).2 (at_ k l s p).2 m p t
def yF(f:EF):EF:=λa M=>(f a M).bind λr=>match r.1 with
 |.c i=>match r.2[i]? with
  |some (.lst xs)=>(kI xs).bind λds=>Z (.d (.list ds),r.2.set i .dead)
  |_=>Y
 |.d x=>Z (.d x,r.2)
 |_=>Y
def aBD{t:TE}{f:EF}(a:SE K t f):SE K t (yF f):=by
 intro r M x M' b W H c Q G R k;let⟨⟨o,M1⟩,d,b⟩:=aH b;revert b;dsimp only;split
 .rename_i i;split
  .rename_i xs e;intro b;let⟨ds,g,b⟩:=aH b;cases b;refine a _ _ _ _ d W H c _ G R λv s h j l m=>?_;let⟨n,p,G2,_,q⟩:=l.freezeL e g;rw[m.2];exact k _ n h (j.trans p) G2 q
  .intro b;cases b
 .intro b;cases b;exact a _ _ _ _ d W H c _ G R k
 .intro b;cases b
def aAQ{ι:Type}{X:ι->Cx}{e:Ud}{f:EF}(x:ME K X e f):ME K X e (yF f):=by
 let⟨t,a,b⟩:=x.ex;exact⟨t,a,aBD b⟩
def IT:FN:=λxs M=>match xs with
 |[.d a]=>(aR a).bind λds=>Z (.c M.length,M++[.lst (ds.map .d)])
 |[.c i]=>match M[i]? with
  |some (.lst b)=>Z (.c M.length,M++[.lst b])
  |_=>Y
 |_=>Y
def aFQ:PN K (WJ K) IT:=by
 intro xs M z M' h W H vs Q G r k;unfold IT at h;split at h
 .rename_i a;let⟨ds,e,h⟩:=aH h;cases h;obtain _|⟨b,_|_⟩:=r;let⟨p,us,rfl,hs,c⟩:=lN b e;refine⟨p,us,rfl,hs.elim (λq=>.inl (G.fh.seq q)) λq=>.inr (G.fh.seqT q),λl d=>?_⟩;exact k _ (W.more l) _ (W.ext_more l) (G.new d<|kK c) G.newV
 .rename_i i;split at h
  .rename_i j f;cases h;obtain _|⟨b,_|_⟩:=r;let⟨us,g,c⟩:=G.lstAt f;refine⟨_,us,by rw[b.2],.inl (SqL.of g),λl d=>?_⟩;exact k _ (W.more l) _ (W.ext_more l) (G.new d c) G.newV
  .cases h
 .cases h
def aHc{ι:Type}{X:ι->Cx}(a:∀i,(X i).K=K):QN K X (.type "list") IT:=⟨_,λi=>aJn<|a i,aFQ⟩
def eqC(neg:Bool):F2:=λx y M=>(snap 5 M x).bind λa=>(snap 5 M y).bind λb=>if (cj a&&cj b)=true then Z (.d (.bool (if neg then !cn a b else cn a b)),M)else Y
def aLZ{neg:Bool}:P2 K (aBt K neg) (eqC neg):=by
 intro x y M z M' h W H v u Q G c d k;let⟨a,e,h⟩:=aH h;let⟨b,f,h⟩:=aH h;by_cases hs:(cj a&&cj b)=true
 .rw[A8 hs]at h;cases h;rw[A9]at hs;exact⟨a,b,xT G 5 x a v e c,xT G 5 y b u f d,hs.1,hs.2,k _ W H (.refl _) G rfl⟩
 .rw[B7 hs]at h;cases h
def eqY(neg:Bool):F2:=QC (eqX neg)<|eqC neg
def aPY{ι:Type}{X:ι->Cx}(a:∀i,(X i).K=K)(b:∀i,(X i).A.units+64<cLine):Q2 K X (cf .Eq) (eqY false):=⟨_,λi=>(kEq (a i)<|b i).or (by have:=aEN<|b i;rw[a i]at this;exact this),P2.or aCC aLZ⟩
end
section
variable{X:Cx}{cp:T1}{σ:St}{H:Hp}{s:Ub}{a:Uc}{y v:V}{u r:Tz}{A:Uf}{E:T0}
def KJ{Q:Unit->Ub->Prop}(C:A.units<cLine)(I:Inv X cp σ H s)(g:BB H a y v H')(p:RelV y u)(t:RelV v r)(h:∀s',Inv X cp σ H' s'->Q () s'):
 bz (bx X.prog X.w) A (dictSet a u r) Q E s:=by
 obtain⟨kvs,k,e,j,l,m⟩|⟨kvs,k,b,e,j,x,l,m⟩:=g
 .subst j m;let⟨z,hd,vs,d,n⟩:=aED I.hok e;have D:vs.length<=bv:=by rw[<- d.length];exact z
  have o:(putK kvs k v).length<=bv:=by have:=kL kvs k v;omega
  refine wpAny_dictSet_pairs (KN p) n λh' f hs=>h _ ?_;have F:∃q,h'.get? a=Z q:=let⟨q,_,_,i,_⟩:=f;⟨q,i⟩;exact uU I (by rw[e];exact True.intro) hs F<|TN o hd (d.put k t) f
 .subst j m;cases p;let⟨z,hd,xs,d,n⟩:=aJq I.hok e;have D:xs.length<=bv:=by rw[<- A2o d];exact z
  have o:(putK kvs k v).length<=bv:=by have:=kL kvs k v;omega
  refine wpAny_dictSet_heap C (GS I.hok x) n λh' f hs=>h _ ?_;let⟨q,es,ep,i,G,J,K,_,L⟩:=f;refine uU I (by rw[e];exact True.intro) hs ⟨q,i⟩ ⟨o,hd,_,(d.put k x t).keeps λc M B=>?_,q,es,ep,i,G,J,K,L⟩;rw[aO (aJo B e λz=>nomatch z)];exact B
end
section
variable{prog:Ue}{w:World}{A:Uf}{R:Result->Ub->Prop}{s:Ub}
def aGd{iter:Ud}{scope:Scope}(I:Nat->Ub->Prop)
 (b:∀n s,I n s->bz (bx prog w) A (pyNext it) (λr s1=>(r=Y/\R (.ok .next) s1)\/∃v,r=Z v /\
  bz (bx prog w) A (ci a it v) (λ_ s2=>bz (bx prog w) A (assign a env v) (λ_ s3=>
   bz (bx prog w) A (forIn ifs true λc r=>if r=true then(do
    let ok <- isTrue c env (eval c env)
    pure (ForInStep.yield ok))else pure (ForInStep.yield r)) (λok s4=>
     (ok=true/\bz (bx prog w) A (eval kx env) (λg i=>bz (bx prog w) A (eval vx env) (λj k=>bz (bx prog w) A (dictSet D g j) (λ_ s7=>∃m,m<n/\I m s7) 75 k) 75 i) 75 s4) \/
     (ok=false/\∃m,m<n/\I m s4)) 75 s3) 75 s2) 75 s1) 75 s)
 (n:Nat) (h:I n s):cg (bx prog w) A (.compLoop (.DictComp kx vx [⟨a,iter,ifs,0⟩] scope pos) 0 it (.ref D) env) R s:=by
 refine A2w rfl I (λn s l=>?_) n h
 show bz _ A ((compTurn (.DictComp kx vx [⟨a,iter,ifs,0⟩] scope pos) 0 it (.ref D) env).onRaise λx=>do
  noteFrame x env
  theTreesLotGoes x) _ _ s
 refine wpAny_noted ?_;refine A1<|L9<|A1 (C7 (b n s l) (λr s1 d=>?_) λ_ _ f=>f.elim);obtain⟨rfl,d⟩|⟨v,rfl,d⟩:=d
 .exact A4 d
 .refine A1 (C7 d (λ_ s2 o=>?_) λ_ _ f=>f.elim);refine A1 (C7 o (λ_ s3 p=>?_) λ_ _ f=>f.elim);refine A1 (C7 p (λok s4 e=>?_) λ_ _ f=>f.elim);obtain⟨rfl,e⟩|⟨rfl,e⟩:=e
  .refine A1<|A1 (C7 e (λg i q=>?_) λ_ _ f=>f.elim);refine A1<|E7 (C7 q (λj k t=>?_) λ_ _ f=>f.elim);refine A1<|L9<|E7 (C7 t (λ_ s7 u=>A4 ⟨rfl,u⟩) λ_ _ f=>f.elim)
  .exact A4 ⟨rfl,e⟩
end
def tDc(l:HO)(cap:T2)(n:TI)(g:TG)(o:TT)(p q:TE):TE:=λe H Q=>n e H λJ f=>∀D,f D=Y->∃W:Nat->Nat->St->Hp->Prop,(∃m,W 0 m (xA cap e)<|upd f D l)/\∀i m c H',W i m c H'->
 (J.stop i H'/\Q (.ref D) H') \/
 (J.go i H'/\∃N:St->Hp->Prop,(∀a d,N a d->∃h,h<m/\W (i+1) h a d)/\∀x d,J.yld i H' x d->g x c d λa r=>o a r λb j=>(b=true/\p a j λy s=>q a s λv t=>∃k,BB t D y v k/\N a k)\/(b=false/\N a j))
def dcF(d:Nat)(g:GF)(c:TF)(f:KF)(e:EF):T5->Ga->Sto->Tx Sto
 |[],_,M=>Z M
 |x::xs,h,M=>(g x h M).bind λa=>(c a.1 a.2).bind λb=>if b.1=true then(f a.1 b.2).bind λk=>(e a.1 k.2).bind λv=>(AZ v.2 (.c d) k.1 v.1).bind λM'=>dcF d g c f e xs a.1 M' else dcF d g c f e xs a.1 b.2
def fDc(b:Cell)(cap:T2)(f:AF)(g:GF)(c:TF)(d:KF)(e:EF):EF:=λa M=>(f a M).bind λr=>(dcF r.2.length g c d e r.1 (qI cap a) (r.2++[b])).bind λM'=>Z (.c r.2.length,M')
section
variable{K:Fg}{tg:TG}{tt:TT}{hg:GF}{ft:TF}{fa:AF}
def aOj{L:HO}{N:Cell}(h0:(L=.dT []/\N=.dt [])\/(L=.dK []/\N=.dk [])){P:EF}(i:SI K wi fa)(a:SG K tg hg)(c:STt K tt ft)(b:SK K tk O)(e:SE K tv P):
 SE K (tDc L cap wi tg tt tk tv) (fDc N cap fa hg ft O P):=by
 intro γ M x M' t W H σ Q G R k;let⟨⟨h,M1⟩,h1,t⟩:=aH t;let⟨M9,h9,t⟩:=aH t;cases (t);refine i _ _ _ _ h1 W H σ _ G R λJ S H1 e1 G1 gv=>λD hD=>?_;have G2:Good K (S.more D) (M1++[N]) (upd H1 D L):=G1.new hD (by obtain⟨rfl,rfl⟩|⟨rfl,rfl⟩:=h0<;>exact .nil);have X:=S.ext_more D;have rD:bW K (S.more D) (.c M1.length) (.ref D):=G1.newV;refine⟨λj m l H'=>∃n T o,j<=h.length/\m=h.length-j/\(S.more D).Ext o/\Good K o T H'/\bX K o n l/\dcF M1.length hg ft O P (h.drop j) n T=Z M',⟨_,qI cap γ,_,_,E6 _,rfl,.refl _,G2,AD ((R.up e1).up X) cap,h9⟩,?_⟩;rintro j m l H' ⟨n,T,o,hj,rfl,u,G3,R3,d⟩;let⟨a0,a1⟩:=gv o T H' (X.trans u) G3;by_cases q:j<h.length
 .let⟨go,yl⟩:=a0 j h[j]<|C0 q;rw[S5 q]at d;refine .inr ⟨go,λw U=>∃f V B,o.Ext B/\Good K B V U/\bX K B f w/\dcF M1.length hg ft O P (h.drop (j+1)) f V=Z M',?_,λy U hy=>?_⟩
  .rintro w U ⟨f,V,B,e4,G4,R4,h4⟩;exact⟨_,61,f,V,B,q,rfl,u.trans e4,G4,R4,h4⟩
  .let⟨W8,e8,G8,ry⟩:=yl y U hy;let⟨⟨C,M5⟩,h5,d⟩:=aH d;let⟨⟨b6,M6⟩,h6,d⟩:=aH d;refine a _ _ _ _ _ h5 W8 _ l y _ G8 (R3.up e8) ry λr W5 H5 e5 G5 E=>?_;refine c _ _ _ _ h6 W5 H5 r _ G5 E λW6 H6 F G6=>?_;have I:=(e8.trans e5).trans F;cases b6 with
   |true=>
    let⟨⟨ky,M7⟩,h7,d⟩:=aH d;let⟨⟨z,ab⟩,a2,d⟩:=aH d;let⟨a3,a4,d⟩:=aH d;refine .inl ⟨rfl,b _ _ _ _ h7 W6 H6 r _ G6 (E.up F) λyv W7 H7 e7 G7 r7=>e _ _ _ _ a2 W7 H7 r _ G7 (E.up<|F.trans e7) λv a5 ac s a6 a7=>?_⟩;have g:=(I.trans e7).trans s;let⟨p,a8,ep,a9,aa⟩:=HN a6 a4 (rD.up<|u.trans g) (r7.up s) a7;cases ep;exact⟨a8,a9,C,a3,a5,g,aa,E.up<|(F.trans e7).trans s,d⟩
   |false=>
    exact .inr ⟨rfl,C,M6,W6,I,G6,E.up F,d⟩
 .have ej:j=h.length:=61
  subst ej;rw[A0s]at d;cases d;exact .inl ⟨a1,k _ o H' ((e1.trans X).trans u) G3<|rD.up u⟩
variable{ι:Type}{X:ι->Cx}{N':Tc}{cap:T2}{scope:Scope}{tg' iter kx vx:Ud}{ifs:T8}{gf:GF}{fk:KF}{f:EF}{pos:Pos}
end
def aFl(K:Fg):Td->Hp->VK->Prop:=λxs H Q=>∃a kvs,xs=[.ref a]/\H a=Z (.dT kvs)/\∀bs:Tb,Paired (λ(b:Uc)(c:Tv Key×V)=>H b=Z (.tup (c.1.map kV))) bs kvs->UB K (bs.map .ref) H Q
theorem JL:∀bs:Tb,bE (bs.map V.ref) (bs.map Value.ref)
 |[]=>.nil
 |_::bs=>.cons rfl (JL bs)
def MQ{X:Cx}(g:X.A.in1.in1.units+64<cLine)(i:X.calm=true):dH X (.builtin "sorted") (aFl X.K):=by
 intro cp s k H xs us Q I r h;let⟨a,kvs,rfl,l,q⟩:=h;let⟨u,rfl,m⟩:=vals1 r;cases m;let⟨z,hs,ks,rk,od,es,ep,n,o,p,d,C⟩:=(I.hok a _ l);have D:=Paired.len rk;have el:es.size=ks.length:=by rw[<- D4,d,A6]
 refine Calls.call_function_entry kind_sorted plain_sorted entry_sorted (args_sorted1 _) ?_;refine A1<|A4 ?_;refine A1 (PySem.W.kdu_collect (aCs hs o.1 p) (I.ok.hd i) n 61 λh' t acc y b=>?_);have B:Inv X cp k H { s with heap:=h',toks:=t }:=I.kept y
 have ev:acc.toList=(ks.map λx=>x.2.1).map Value.ref:=by
  refine A1t λj=>?_;rw[F8];cases e:acc[j]? with
  |none=>
   have:(ks.map λx=>x.2.1).length<=j:=by
    have E:=b.1;have:=A2s.mp e;rw[A6];omega
   rw[A0n 68]
  |some v=>
   have c:(es[j]?).map (·.key)=Z v:=b.2 j v e;rw[<- F8,d,D7]at c;rw[D7,D7];cases f:ks[j]? with
   |none=>rw[f]at c;cases c
   |some w=>rw[f]at c;cases c;rfl
 rw[ev];exact aFm g B (JL _)<|q _ (KT.addrs rk).1
section
variable{K:Fg}
def wN:FN:=λxs M=>match xs with
 |[.c i]=>match M[i]? with
  |some (.dt kvs)=>(hV (kvs.map λa=>a.1.map yS)).bind λr=>Z (.d (.list r),M)
  |_=>Y
 |_=>Y
theorem SM{W:Wd}:∀{bs:Tb}{kvs:Tv (Tv Key×V)},Paired (λ(b:Uc)(a:Tv Key×V)=>W.F b=Z (.tup (a.1.map kV))) bs kvs->aL K W.F ((kvs.map λa=>a.1.map yS).map .tuple) (bs.map .ref)
 |_,_,.nil=>rfl
 |_,_,.cons c d=>⟨_,_,rfl,⟨_,_,rfl,SqT.of c,MU _⟩,SM d⟩
theorem SH{W:Wd}:∀{kvs:Tv (Tv Key×CD)}{us:Tv (Tv Key×V)},PKV K W kvs us->(us.map λa=>a.1.map yS)=kvs.map λa=>a.1.map yS
 |_,_,.nil=>rfl
 |_,_,.cons b c=>by rw[C6,C6,SH c,b.1]
def aCo:PN K (aFl K) wN:=by
 intro xs M z M' h W H vs Q G r k;unfold wN at h;split at h
 .rename_i i;split at h
  .rename_i kvs j;let⟨ds,a,h⟩:=aH h;cases h;obtain _|⟨m,_|_⟩:=r;let⟨us,n,o⟩:=G.dtAt j;refine⟨_,us,by rw[m.2],n,λbs p=>?_⟩;let⟨t,g,G2,q⟩:=yX G p;have c:=SM (K:=K) q;rw[SH o]at c;unfold hV at a;by_cases hs:sortable (kvs.map λe=>e.1.map yS)=true
   .rw[A8 hs]at a;cases a;let⟨s1,s2,s3,s4,s⟩:=BH hs;refine .inl ⟨_,aL.same G2.fh _ _ c,s1,s2,s3,s4,s,λl f=>?_⟩;let⟨d,G4⟩:=G2.lay f;exact k _ _ _ (g.trans d) G4 ⟨l,_,rfl,SqL.of aS,aL.same d.ff _ _<|HJ c _<|aJS 61⟩
   .rw[B7 hs]at a;by_cases b:(kvs.map λe=>e.1.map yS).length<2
    .rw[A8 b]at a;cases a;refine .inr ⟨by rw[<- c.length,A6];exact b,λl f=>?_⟩;let⟨d,G4⟩:=G2.lay f;exact k _ _ _ (g.trans d) G4 ⟨l,_,rfl,SqL.of aS,aL.same d.ff _ _ c⟩
    .rw[B7 b]at a;cases a
  .cases h
 .cases h
def aIC{ι:Type}{X:ι->Cx}(a:∀i,(X i).K=K)(b:∀i,(X i).A.in1.in1.units+64<cLine)(c:∀i,(X i).calm=true):QN K X (.builtin "sorted") wN:=
 ⟨_,λi=>by have:=MQ (b i)<|c i;rw[a i]at this;exact this,aCo⟩
end
def cM.u1(r:cM k A):A.units+1<cLine:=by have:=r.un;omega
def cM.u0(r:cM k A):A.units<cLine:=by have:=r.un;omega
abbrev IPF:=Ga->Sto->Tx ((T5×(Sto->Prop))×Sto)
section
variable{X:Cx}{a b:Ud}{ta:TA}{p p' pos pos':Pos}
noncomputable def rR(lo:Int)(n:Nat):Td:=(List.range n).map λ(i:Nat)=>V.int (lo+(i:Nat))
def JY{lo:Int}{acc:Ti}(h:ItemsOf (λi v=>∃t,v=.int (lo+i*1) t) acc n):bE (rR lo n) acc.toList:=by
 have key:∀(k:Nat)(l:T4)(m:Nat),l.length=k->(∀j v,l[j]?=Z v->∃t,v=Value.int (lo+((m+j:Nat):Int)*1) t)->bE ((List.range' m k).map λ(i:Nat)=>V.int (lo+(i:Nat))) l:=by
  intro k
  induction k with
  |zero=>intro l m c _;rw[A2a c];exact .nil
  |succ k ih=>
   intro l m c d
   match l,c,d with
   |v::l,c,d=>
    let⟨t,rfl⟩:=d 0 v rfl;rw[List.range'_succ,C6];refine .cons ⟨t,67⟩ (ih l (m+1) (Nat.succ.inj c) λj v e=>?_);let⟨g,f⟩:=d (j+1) v e;exact⟨g,by rw[f];congr 2;omega⟩
 have:=key n acc.toList 0 (by rw[D4];exact h.1) λj v e=>by
  let⟨t,f⟩:=h.2 j v (by rw[<- F8];exact e);exact⟨t,by rw[f,Nat.zero_add]⟩
 unfold rR;rw[List.range_eq_range'];exact this
def aCk{Q:VK}{lo hi:Int}{t u v:Tok}{j:Nat}(m:X.calm=true)(I:Inv X cp f H s)(r:-(2 ^ 62)<=lo)(y:lo<2 ^ 62)(z:-(2 ^ 62)<=hi)(B:hi<2 ^ 62)(g:(hi-lo).toNat<=bv)
 (q:∀l,H l=Y->Q (.ref l) (upd H l (.lst (rR lo (hi-lo).toNat)))):
 bz (bx X.prog X.w) X.A (call (.type "list") [.ref s.heap.objs.size]) (λv s'=>∃x H',Inv X cp f H' s'/\RelV x v/\Q x H') X.xe { s with heap:=s.heap.push { cls:=.type "range",data:=.fields #[.int lo t,.int hi u,.int 1 v] },toks:=j }:=by
 have h:(hi-lo).toNat<=2 ^ 24:=by rw[J7]at g;exact g
 refine call_list_range (n:=(hi-lo).toNat) (I.ok.hd m) (IsRange.new ..) (small_one r y z B) (by rw[rangeSize_one];split<;>omega) h λh' i acc c C hS d=>?_;have k:Inv X cp f H { s with heap:=s.heap.push { cls:=.type "range",data:=.fields #[.int lo t,.int hi u,.int 1 v] },toks:=j }:=I.kept λb o e=>A3 _ e;refine⟨.ref _,upd H _ (.lst (rR lo (hi-lo).toNat)),k.laid (t':=i) C (B3 _) ⟨by rw[rR,A6,O0];exact g,acc.toList,c,JY d,by simpa using hS⟩,rfl,q _<|k.hok.fresh<|B3 _⟩
def aDa(ta:TA):TE:=λd H Q=>ta d H λvs c=>∃j:Int,vs=[.int j]/\-(2 ^ 62)<=j/\j<2 ^ 62/\j.toNat<=bv/\∀l,c l=Y->Q (.ref l) (upd c l (.lst (rR 0 j.toNat)))
def aFH(g:X.calm=true)(i:Gl X "range")(hm:X.mg "range"=Y)(c:Gl X "list")(d:X.mg "list"=Y)(ha:PA X [a] ta)(hs:cb [a] X.env=[(false,eval a X.env)]):
 PE X (.Call (.Name "list" p) [.Call (.Name "range" p') [a] [] pos'] [] pos) (aDa ta):=by
 intro cp s k H Q I h;refine Z0<|iI I c d boot_list ?_ 66 66;refine F9 ?_ pQ rfl;rw[pQ];show bz _ _ (spliced ((false,eval (.Call (.Name "range" p') [a] [] pos') X.env)::[])) _ _ s;refine A1w ?_;refine Call_<|iI I i hm boot_range<|F9 (thn (ha pos' cp s k H _ I h) λus s1 ⟨vs,v,l,m,f⟩=>?_) hs rfl;let⟨j,e,f,n,o,q⟩:=f;subst e;cases m with
 |cons r u=>
  cases u;let⟨t,rfl⟩:=r;refine call_range_1<|A1z ?_;exact aCk g l 61 61 f n (by simpa using o) (by simpa using q)
end
section
variable{K:Fg}{tA:TA}{fa:AF}
noncomputable def OG(lo:Int)(n:Nat):T3:=(List.range n).map λ(i:Nat)=>.int (lo+(i:Nat))
def HL(cell:Bool)(f:AF):EF:=λa M=>(f a M).bind λr=>match r.1 with
 |[.d (.int j)]=>if cW j=true/\j.toNat<=bv then(if cell=true then Z (.c r.2.length,r.2++[.lst (iB 0 j.toNat)])else Z (.d (.list (OG 0 j.toNat)),r.2))else Y
 |_=>Y
def ZD{lo:Int}:aL K H (OG lo n) (rR lo n):=by
 unfold OG rR;generalize List.range n=l
 induction l with
 |nil=>rfl
 |cons i l ih=>exact⟨_,_,rfl,rfl,ih⟩
def aAZ{lo:Int}:bQ K W (iB lo n) (rR lo n):=by
 unfold iB rR;generalize List.range n=l
 induction l with
 |nil=>exact .nil
 |cons i l ih=>exact .cons rfl ih
def aFe(b:SA K tA fa):SE K (aDa tA) (HL cell fa):=by
 intro q M x M' a W H h Q G R k;let⟨⟨s,M1⟩,i,a⟩:=aH a;refine b _ _ _ _ i W H h _ G R λvs e t f d m=>?_;revert a;dsimp only;split
 .rename_i j;intro a;by_cases hs:cW j=true/\j.toNat<=bv
  .rw[A8 hs]at a;cases m with
   |cons r n=>
    cases n;refine⟨j,by rw[show _=V.int j from r],(dZ hs.1).1,(dZ hs.1).2,hs.2,λl g=>?_⟩;cases cell with
    |true=>
     rw[A8 rfl]at a;cases a;exact k _ (e.more l) _ (f.trans<|e.ext_more l) (d.new g (c:=.lst (iB 0 j.toNat)) (o:=.lst (rR 0 j.toNat)) aAZ) d.newV
    |false=>
     rw[B7 C4]at a;cases a;let⟨p,G2⟩:=d.lay (o:=.lst (rR 0 j.toNat)) g;exact k _ _ _ (f.trans p) G2 ⟨l,_,rfl,SqL.of aS,ZD⟩
  .rw[B7 hs]at a;cases a
 .intro a;cases a
def aDn(cell:Bool){ι:Type}{X:ι->Cx}{a:Ud}{p p' pos pos':Pos}(d:∀i,(X i).calm=true)(hm:∀i,(X i).mg "range"=Y)(b:∀i,(X i).mg "list"=Y)(x:MA K X [a] fa)(e:∀i,Gl (X i) "range":=by intro _;rfl)(c:∀i,Gl (X i) "list":=by intro _;rfl):
 ME K X (.Call (.Name "list" p) [.Call (.Name "range" p') [a] [] pos'] [] pos) (HL cell fa):=by
 let⟨t,f,g⟩:=x.ex;exact⟨_,λi=>aFH (d i) (e i) (hm i) (c i) (b i) (f i)<|x.st.1 _,aFe g⟩
end
structure Apart5(z TI TO i1 i2:Uc):Prop where
 TIz:TI≠z
 TOz:TO≠z
 i1z:i1≠z
 i2z:i2≠z
 TITO:TI≠TO
 TIi1:TI≠i1
 TIi2:TI≠i2
 TOi1:TO≠i1
 TOi2:TO≠i2
 i12:i1≠i2
def aBe(n:Nat):Apart5 (n+4) (n+2) (n+3) n (n+1):=by
 have key:∀a b:Nat,¬a=b->(a:Uc)≠b:=λ_ _ h=>h;exact⟨key _ _ 61,key _ _ 61,key _ _ 61,key _ _ 61,key _ _ 61,key _ _ 61,key _ _ 61,key _ _ 61,key _ _ 61,key _ _ 61⟩
section
variable{X:Cx}{elts:T8}{x1:Nat}{tpos:Pos}
def boot_zip:bootBuiltins "zip"=Z (.type "zip"):=by decide +kernel
end
noncomputable def tF:T3->T3->T5
 |x::xs,y::a=>.d (.tuple [x,y])::tF xs a
 |_,_=>[]
theorem PQ:∀{xs ys:T3}{i:Nat}{x:CD},(tF xs ys)[i]?=Z x->∃a b,xs[i]?=Z a/\ys[i]?=Z b/\x=.d (.tuple [a,b])
 |[],_,i,x=>λh=>by unfold tF at h;cases i<;>cases h
 |_::_,[],i,x=>λh=>by unfold tF at h;cases i<;>cases h
 |a::xs,b::ys,0,x=>λh=>⟨a,b,rfl,rfl,by unfold tF at h;exact(E5 h).symm⟩
 |a::xs,b::ys,i+1,x=>λh=>by
  let⟨c,d,e,f,g⟩:=PQ (xs:=xs) (ys:=ys) (i:=i) (by unfold tF at h;exact h);exact⟨c,d,e,f,g⟩
end L2
namespace PySem
open Sem (wp)
namespace F
end F
end PySem
namespace L2
open PySem PySem.Spec PyProof.Rows
def cM.le{ι:Type}{j:Nat}(r:cM k A q)(h:j<=k:=by decide):ι->cM j A q:=λ_=>r.mono h
section
variable{X:Cx}
theorem JV:∀{vs:T4}{ns:T6},IntsAre vs ns->bE (ns.map V.int) vs
 |_,_,.nil=>.nil
 |_,_,.cons _ t h=>.cons ⟨t,rfl⟩ (JV h)
theorem XD:∀{ws:T4}{ns:T6},ws.length=ns.length->(∀(j:Nat) v i,ws[j]?=Z v->ns[j]?=Z i->∃t,v=Value.int i t)->IntsAre ws ns
 |[],[],_,_=>.nil
 |v::ws,n::ns,a,h=>by
  let⟨t,rfl⟩:=h 0 v n rfl rfl;exact .cons n t (XD (Nat.succ.inj a) λj=>h (j+1))
end
theorem lP:∀{xs ys:T6},xs.Pairwise (·<=·)->ys.Pairwise (·<=·)->xs.Perm ys->xs=ys
 |[],ys=>λ_ _ p=>(List.nil_perm.mp p).symm
 |x::xs,[]=>λ_ _ p=>by have:=p.length_eq;simp at this
 |x::xs,y::ys=>λf g p=>by
  have c:=S6.mp f;have d:=S6.mp g
  have e:x=y:=by
   have a:y<=x:=by
    obtain q|q:=C1.mp (p.mem_iff.mp B0)
    .exact Int.le_of_eq q.symm
    .exact d.1 x q
   have b:x<=y:=by
    obtain q|q:=C1.mp (p.mem_iff.mpr B0)
    .exact Int.le_of_eq q.symm
    .exact c.1 y q
   omega
  subst e;rw[lP c.2 d.2 (List.perm_cons x |>.mp p)]
noncomputable def bK(ns:T6):T6:=ns.mergeSort λa b=>decide (a<=b)
def cN(ns:T6):(bK ns).Perm ns:=List.mergeSort_perm _ _
def eL(ns:T6):(bK ns).Pairwise (·<=·):=by
 have:=List.pairwise_mergeSort (le:=λa b:Int=>decide (a<=b)) (λa b c d e=>B8<|Int.le_trans (C8 d)<|C8 e) (λa b=>by simp;omega) ns;exact this.imp λh=>C8 h
section
variable{K:Fg}
theorem aFc:∀ns:T6,aL K H (ns.map .int) (ns.map .int)
 |[]=>rfl
 |n::ns=>⟨_,_,rfl,rfl,aFc ns⟩
end
section
variable{K:Fg}
def aGv(k:Nat)(γ:Ga)(M:Sto):Tx (Ga×Sto):=match γ[k]? with
 |some (some (.c i))=>match M[i]? with
  |some (.lst xs)=>(kI xs).bind λds=>Z (γ.set k<|Z (.d (.list ds)),M.set i .dead)
  |_=>Y
 |_=>Y
def aEE(k:Nat)(f:SF):SF:=λb M=>(f b M).bind λr=>match r.1 with
 |.nx a=>(aGv k a r.2).bind λq=>Z (.nx q.1,q.2)
 |o=>Z (o,r.2)
theorem xD{a b:Type}{R:a->b->Prop}:∀{xs:Tv a}{ys:Tv b}{k:Nat}{x:a}{y:b},Paired R xs ys->ys[k]?=Z y->R x y->Paired R (xs.set k x) ys
 |_,_,0,x,y,.cons r t=>λe h=>by cases e;exact .cons h t
 |_,_,k+1,x,y,.cons r t=>λe h=>.cons r (xD t 68 h)
 |_,_,0,x,y,.nil=>λe h=>by cases e
 |_,_,k+1,x,y,.nil=>λe h=>by cases e
def aNd{t:TS}{f:SF}{k:Nat}(a:SS K t f):SS K t (aEE k f):=by
 intro F M o M' b W H r D G R c;let⟨⟨s,M1⟩,u,b⟩:=aH b;refine a _ _ _ _ u W H r D G R λg h j l=>?_;cases s with
 |nx e=>
  let⟨⟨w,M2⟩,d,b⟩:=aH b;cases b;unfold aGv at d;split at d
  .rename_i i hi;split at d
   .rename_i xs z;let⟨ds,A,d⟩:=aH d;cases d;intro m n;let⟨B,p,G2,_,C⟩:=l.freezeL z A;let⟨y,E,q⟩:=Paired.get n hi;refine c B h (j.trans p) G2 m ?_;cases y with
    |none=>exact False.elim q
    |some v=>
     refine xD (n.up p) E ?_;rw[show v=.ref (g.α i)from q.2];exact C
   .cases d
  .cases d
 |bk e=>cases b;exact c g h j l
 |ct e=>cases b;exact c g h j l
 |rt x=>cases b;exact c g h j l
def Itk(a:Uc)(o:Obj)(kvs:Tv (Tv Key×V)):It:=
 ⟨λi H=>H a=Z (.frz o (.dT kvs))/\i<kvs.length,λi H x H'=>H'=H/\∃c b,kvs[i]?=Z c/\x=.ref b/\H b=Z (.tup (c.1.map kV)),λi H=>H a=Z (.frz o (.dT kvs))/\kvs.length<=i⟩
def aJM(c:TE):TI:=λd H R=>c d H λx b=>∃a o kvs,x=.ref a/\b a=Z (.frz o (.dT kvs))/\R (Itk a o kvs) b
def ZN(I:Inv X cp n H s)(e:H a=Z (.frz o (.dT kvs)))(hd:o.data=.dict es ep):
 Raw s.heap a es ep/\es.size=kvs.length/\∀(i:Nat) f,es[i]?=Z f->∃g b,kvs[i]?=Z g/\f.key=.ref b/\H b=Z (.tup (g.1.map kV)):=by
 let⟨h,z,hs,xs,r,od,p,q,j,v,k,l,w⟩:=(I.hok a _ e);rw[h]at j;cases j;rw[hd]at k;cases k;have t:es.toList.length=kvs.length:=by rw[l,A6];exact(Paired.len r).symm
 refine⟨⟨o,h,hd⟩,by rw[<- D4];exact t,λi f d=>?_⟩;rw[<- F8,l,D7]at d;cases c:xs[i]? with
 |none=>rw[c]at d;cases d
 |some x=>
  rw[c]at d;cases d;have hi:i<kvs.length:=68
  let⟨y,m,A,u,B⟩:=Paired.get r<|C0 hi;rw[c]at m;cases m;exact⟨_,_,C0 hi,rfl,u⟩
def aAA{P:Ue}(a it:Uc)(o:Obj)(kvs:Tv (Tv Key×V))(es:Array DictEntry)(ep:Nat)(hd:o.data=.dict es ep):Turn P w K tg (Itk a o kvs) [it] it (λi h=>h.IsKeyIter it a i es.size ep) where
 mem:=67
 obj:=λi h st b hb=>by
  have e:b=it:=68
  subst e;let⟨o,e,c,d⟩:=st;exact⟨o,e,λv z=>by rw[d]at z;cases z⟩
 keep:=λi h h' st k=>st.at λo e=>k it 67 o e
 item:=by
  intro X hP hw hK hc i cp s σ H E I hf st hg;subst hP hw hK;let⟨f0,f1,f2,f3,f4,f5⟩:=hf it 67;let⟨raw,hl,hk⟩:=ZN I hg.1 hd;refine vE (I.ok.hd hc) st raw (λen he h' st' sb=>?_) λhe=>?_
  .have I1:=I.turned (t':=s.toks) (λb o hb e=>(sb.2 b hb).trans e) f0 f1 f3 f4 f5;let⟨kv,b,q1,q2,q3⟩:=hk i en he;let⟨o,e,c,d⟩:=id st';rw[q2];exact⟨_,rfl,WW e c d 66 ⟨.ref b,H,I1,rfl,⟨rfl,kv,b,q1,rfl,q3⟩,st',λb hb=>(hf b hb).1⟩⟩
  .have:=A2s.mp he;have:=hg.2;omega
 done:=by
  intro X hP hw hK hc i cp s σ H E I hf st hg;subst hP hw hK;let⟨f0,f1,f2,f3,f4,f5⟩:=hf it 67;let⟨raw,hl,hk⟩:=ZN I hg.1 hd;refine vE (I.ok.hd hc) st raw (λen he=>?_) λhe h' eb=>⟨rfl,I.turned (λb o hb e=>eb b o hb e) f0 f1 f3 f4 f5⟩;have:=(A0j.mp he).1;have:=hg.2;omega
 self:=λ_ _ _ _ _ st h=>wpAny_pyIter_keyiter st h
def aGA(j:PE X l f):PI X tg l (aJM f):=by
 intro cp s k H R I h;refine thn (j cp s k H _ I h) λv s1 m=>?_;let⟨x,n,c,p,a,o,kvs,e,ha,q⟩:=m;subst e;cases p;let⟨d,z,hs,xs,r,od,es,ep,g,t,i,w,y⟩:=(c.hok a _ ha);rw[d]at g;cases g;refine JG hs ⟨o,d,t.1⟩ ⟨o,d,i⟩ ?_
 have fp:∀b∈[s1.heap.objs.size],nE X cp n b:=λb u=>by
  have e:=B4.mp u;subst e;exact c.fpOk (B3 _)<|c.hok.fresh<|B3 _
 exact⟨s1.heap.objs.size,[s1.heap.objs.size],_,_,_,rfl,c.kept λb o e=>A3 _ e,aAA a _ o kvs es ep i,⟨_,B5 _ rfl,rfl,rfl⟩,fp,q⟩
def aHz(ks:Tv Key):CD:=.t (ks.map λk=>.inl (yS k))
def XH(f:EF):AF:=λa M=>(f a M).bind λr=>match r.1 with
 |.f kvs=>Z (kvs.map λb=>aHz b.1,r.2)
 |_=>Y
theorem QP{W:Wd}:∀ks:Tv Key,Paired (TQ K W) (ks.map λk=>.inl (yS k)) (ks.map kV)
 |[]=>.nil
 |k::ks=>.cons (by cases k<;>rfl) (QP ks)
def aIy(a:SE K j f):SI K (aJM j) (XH f):=by
 intro I M xs M' d W H s R G Rs k;let⟨⟨y,M1⟩,t,d⟩:=aH d;revert d;dsimp only;split
 .rename_i kvs;intro d;cases d;refine a _ _ _ _ t W H s _ G Rs λv u w z l A=>?_;let⟨p,o,us,rfl,m,h⟩:=A;refine⟨p,o,us,rfl,l.fh _ _ m,k _ u w z l λJ M2 L B G2=>?_⟩;have n:=G2.fh _ _<|B.ff _ _ m;refine⟨λi x g=>⟨⟨n,?_⟩,λy N C=>?_⟩,n,by rw[A6,Paired.len h];exact B3 _⟩
  .have:=(B9.mp g).1;rw[A6,Paired.len h]at this;exact this
  .let⟨rfl,O,b,D,rfl,E⟩:=C;let⟨F,G3⟩:=G2.adopt E;refine⟨_,F,G3,?_⟩;rw[D7]at g;cases c:kvs[i]? with
   |none=>rw[c]at g;cases g
   |some P=>
    rw[c]at g;cases g;let⟨q,r,e,_⟩:=Paired.get h c;rw[D]at r;cases r;exact⟨b,_,rfl,aS,e▸QP _⟩
 .intro d;cases d
def aJK(t:TS):TS:=λD d H=>t { D with nx:=λb c=>∃a kvs,c a=Z (.dT kvs)/\∀o,D.nx b (upd c a (.frz o (.dT kvs))) } d H
def aHO{st:Stmt}(h:PS X st t):PS X st (aJK t):=by
 intro cp s j H D I q;refine thn (h cp s j H _ I q) λf s1 z=>?_;cases f with
 |next=>
  let⟨c,g,i,a,kvs,ha,q⟩:=z;let⟨z,hs,xs,r,od,es,ep,d,k,l,m,n⟩:=(i.hok a _ ha)
  have up:∀b xs,g b=Z (.tup xs)->upd g a (.frz od (.dT kvs)) b=Z (.tup xs):=λb xs e=>by
   rw[aO (λz=>by rw[z,ha]at e;cases e)];exact e
  exact⟨c,_,uU (ob:=.frz od (.dT kvs)) i (by rw[ha];exact True.intro) (A2c _ _) ⟨od,d⟩ ⟨d,z,hs,xs,KT.keeps r up,od,es,ep,d,k,l,m,n⟩,q od⟩
 |brk=>exact z
 |cont=>exact z
 |ret v=>exact z
def XB(k:Nat)(γ:Ga)(M:Sto):Tx (Ga×Sto):=match γ[k]? with
 |some (some (.c i))=>match M[i]? with
  |some (.dt kvs)=>(vV kvs).bind λds=>Z (γ.set k<|Z (.f ds),M.set i .dead)
  |_=>Y
 |_=>Y
def RX(k:Nat)(f:SF):SF:=λb M=>(f b M).bind λr=>match r.1 with
 |.nx a=>(XB k a r.2).bind λq=>Z (.nx q.1,q.2)
 |o=>Z (o,r.2)
def aGO(a:SS K t f):SS K (aJK t) (RX k f):=by
 intro I M o M' b W H u D G R c;let⟨⟨w,M1⟩,z,b⟩:=aH b;refine a _ _ _ _ z W H u _ G R λh l j e=>?_;cases w with
 |nx g=>
  let⟨⟨A,M2⟩,d,b⟩:=aH b;cases b;unfold XB at d;split at d
  .rename_i i hi;split at d
   .rename_i kvs p;let⟨ds,B,d⟩:=aH d;cases d;intro m q;let⟨us,C,E⟩:=e.dtAt p;refine⟨_,us,C,λo=>?_⟩;let⟨n,G2⟩:=e.freeze p 67;let⟨y,F,s⟩:=Paired.get q hi;refine c _ _ (j.trans n) G2 m ?_;cases y with
    |none=>exact False.elim s
    |some v=>
     refine xD (q.up n) F ?_;exact⟨h.α i,o,us,s.2,aS,Paired.mapP (AH B E) λ_ _ r=>⟨r.1,Rep.same n.ff _ _ r.2⟩⟩
   .cases d
  .cases d
 |bk g=>cases b;exact c h l j e
 |ct g=>cases b;exact c h l j e
 |rt x=>cases b;exact c h l j e
end
section
variable{ι:Type}{K:Fg}{X:ι->Cx}{e a:Ud}{es:T8}{f:EF}{fa:AF}{sf:SF}{st:Stmt}{pos:Pos}
def aLe(k:Nat)(x:MS K X st sf):MS K X st (aEE k sf):=by
 let⟨t,b,c⟩:=x.ex;exact⟨_,b,aNd c⟩
def aHD(k:Nat)(x:MS K X st sf):MS K X st (RX k sf):=by
 let⟨t,b,c⟩:=x.ex;exact⟨_,λi=>aHO<|b i,aGO c⟩
def aHE(x:ME K X a f):MI K X tg a (XH f):=by
 let⟨t,b,c⟩:=x.ex;exact⟨_,λi=>aGA<|b i,aIy c⟩
end
section
variable{ι:Type}{K:Fg}{X:ι->Cx}{N':Tc}{cap:T2}{scope:Scope}{tg iter elt:Ud}{ifs:T8}{f fi:EF}{gf:GF}{ft:TF}{pos:Pos}
def FZ(a:∀i,(X i).K=K):Q2 K X (binaryOp .Add) NK:=⟨_,λi=>(by have:=op_catS (X:=X i);rw[a i]at this;exact this),aIH⟩
end
end L2
namespace HT
open PySem  PySem.Spec PyProof.Rows
theorem fm_congr{a b:Type}{f g:a->Tx b}:∀{l:Tv a},(∀x∈l,f x=g x)->l.filterMap f=l.filterMap g
 |[]=>65
 |x::l=>λh=>by
  rw[Z4,Z4,h x B0,fm_congr λy c=>h y<|A7 _ c]
def rev_pick{b:Type}(xs:Tv b):(List.range xs.length).filterMap (λm=>xs[xs.length-1-m]?)=xs.reverse:=by
 have e:∀m∈List.range xs.length,xs[xs.length-1-m]?=xs.reverse[m]?:=λm hm=>by
  rw[List.getElem?_reverse (E4.mp hm)]
 rw[fm_congr e];refine A1t λi=>?_;have l:xs.length=xs.reverse.length:=Y2.symm;rw[l];generalize xs.reverse=a
 have:(List.range a.length).filterMap (λm=>a[m]?)=a:=by
  induction a with
  |nil=>rfl
  |cons y a ih=>
   rw[D8,List.range_succ_eq_map,Z4];show y::_=_;rw[List.filterMap_map];congr 1
 rw[this]
section
variable{prog:Ue}{w:World}{A:Uf}{E:T0}{s:Ub}
def VU(n:Nat):Builtin.Slice.slicePlaces ((n:Int)-1) (-1) (-1)=n:=by
 unfold Builtin.Slice.slicePlaces;by_cases h:(n:Int)-1 > -1
 .rw[A8 h,show(-(-1:Int))=1 from rfl,Int.ediv_one];omega
 .rw[B7 h];omega
def AW{n:Nat}{Q:Int×Int×Nat->Ub->Prop}(hs:s.heap.IsSliceOf sl .none .none vs)(ps:IsPart vs (Z (-1)))
 (h:Q ((n:Int)-1,-1,n) s):bz (bx prog w) A (Builtin.Slice.sliceApplied (.ref sl)<|pure (n:Int)) Q E s:=by
 let⟨os,a,b,hds⟩:=id hs;refine A1<|A1<|E8 a hds rfl<|A1<|E8 a hds rfl<|A1<|E8 a hds rfl<|A4 ?_;refine A1<|xJ ps ?_;refine A1<|slicePart_none<|A1<|slicePart_none<|A1<|A4 ?_;show bz _ _ (pure ((n:Int)-1,(-1:Int),Builtin.Slice.slicePlaces ((n:Int)-1) (-1) (-1))) _ _ s;rw[VU];exact A4 h
def aCi(xs:Ti):((List.range xs.size).filterMap λ(m:Nat)=>xs[((xs.size:Int)-1+(m:Int)*(-1)).toNat]?).toArray=xs.toList.reverse.toArray:=by
 have l:xs.size=xs.toList.length:=D4.symm;rw[<- rev_pick xs.toList,l];congr 1;refine fm_congr λm hm=>?_;rw[show((xs.toList.length:Int)-1+(m:Int)*(-1)).toNat=xs.toList.length-1-m by omega,F8]
def getItem_tuple_rev{Q:T0}(ht:IsTup s.heap t items)(hs:s.heap.IsSliceOf sl .none .none vs)(ps:IsPart vs (Z (-1)))
 (h:Q (.ref s.heap.objs.size) { s with heap:=s.heap.push { cls:=.type "tuple",data:=.seq items.toList.reverse.toArray } })
 (b:items.size<=bv):bz (bx prog w) A (getItem (.ref t) (.ref sl)) Q E s:=by
 have a:sizeOk (.seq items.toList.reverse.toArray):=by
  show items.toList.reverse.toArray.size<=bv;rw[F4,Y2,D4];exact b
 let⟨os,c,d,hds⟩:=id hs;have e:s.TypeIs (.ref sl) "slice":=⟨os,c,d⟩;unfold getItem
 try with_reducible refine E7 ?_
 first|refine A1 (A4 ?_)|skip
 refine A1<|wpAny_sequenceKey ht.typeIs 66 ?_
 refine A1 (J9 ht.typeIs U6
  (F7 U6 ht.typeIs entry_tuple_getitem ?_ (args_tuple_getitem _ _)))
 show bz _ _ (Builtin.Tuple.tupleItemsOf (.ref t) >>= _) _ _ s;refine A1<|tupleItemsOf_ ht ?_;refine A1<|A1e e ?_;refine A1<|AW hs ps ?_;show bz _ _ (if (((items.size:Int)-1)==0&&(-1:Int)==1&&items.size==items.size)=true then _ else _) _ _ s;rw[B7 67,aCi]
 first
  |exact A1<|D6 (A4 ⟨_,rfl,A4 h⟩) a
  |exact A1<|D6 (A1<|A4<|A4 ⟨_,rfl,A4 h⟩) a
  |exact A1<|A1<|D6 (A4<|A4 ⟨_,rfl,A4 h⟩) a
  |exact A1<|A1<|D6 (A4 ⟨_,rfl,A4 h⟩) a
end
end HT
namespace L2
variable{s:Ub}{H:Hp}{K:Fg}{σ:St}
open PySem PySem.Spec PyProof.Rows
theorem bE.rev:∀{xs:Td}{us:T4},bE xs us->bE xs.reverse us.reverse
 |_,_,.nil=>.nil
 |_,_,.cons r t=>by
  rw[A0b,A0b];exact(bE.rev t).append (.cons r .nil)
def aNk(K:Fg):V->Hp->VK->Prop:=λx H Q=>(∃a xs,x=.ref a/\SqL K H a xs/\∀p,H p=Y->Q (.ref p) (upd H p (.lst xs.reverse)))\/∃a xs,x=.ref a/\SqT K H a xs/\∀p,H p=Y->Q (.ref p) (upd H p (.tup xs.reverse))
def IG(its:T4):slicePick its.toArray Y Y (Z (-1))=its.reverse.toArray:=by
 have b:sliceBounds Y Y (Z (-1)) its.toArray.size=((its.length:Int)-1,-1,-1):=by
  rfl
 unfold slicePick;rw[b];congr 1;rw[<- HT.rev_pick its];unfold sliceRange;dsimp only;rw[B7 66]
 have c:(if (its.length:Int)-1 > -1 then((its.length:Int)-1 - -1 - -1-1) / -(-1)else 0).toNat=its.length:=by
  by_cases h:(its.length:Int)-1 > -1
  .rw[A8 h,show(-(-1:Int))=1 from rfl,Int.ediv_one];omega
  .rw[B7 h];omega
 rw[c,List.filterMap_map];refine HT.fm_congr λm hm=>?_;show its.toArray[((its.length:Int)-1+-1*(m:Int)).toNat]?=_;rw[show((its.length:Int)-1+-1*(m:Int)).toNat=its.length-1-m by omega,A0m]
section
variable{X:Cx}{e st:Ud}{te:TE}{th:TO}{pos p2:Pos}
def aGQ(I:Inv X cp σ H s)(g:RelV x v)(hs:s.heap.IsSliceOf sl .none .none vs)(ps:IsPart vs (Z (-1)))(h:aNk X.K x H Q):
 ∃T id,typeLookup (.type T) "__getitem__"=pure (Z (.builtin id))/\s.TypeIs v T/\bz (bx X.prog X.w) X.A (getItem v (.ref sl)) (EP X cp σ Q) X.xe s:=by
 obtain⟨a,xs,rfl,d,q⟩|⟨a,xs,rfl,d,q⟩:=h
 .cases g;let⟨its,r,ht,f⟩:=I.list d;have c:=r.length;refine⟨"list",_,slot_list_getitem.lookup,ht.isList.typeIs,?_⟩;refine wpAny_getItem_list_slice ht.isList hs .none .none ps 66 ?_ 68;rw[IG];refine⟨.ref s.heap.objs.size,_,I.laid (λb ob q=>A3 _ q) (B3 _) ?_,rfl,q _<|I.hok.fresh<|B3 _⟩;exact⟨by rw[Y2];exact f,_,0,r.rev,B5 _ rfl⟩
 .cases g;let⟨its,r,ht,f⟩:=I.tuple d;have c:its.toArray.size=xs.length:=by rw[F4];exact r.length.symm
  refine⟨"tuple",_,PyProof.Rows.slot_tuple_getitem.lookup,ht.typeIs,?_⟩;refine HT.getItem_tuple_rev ht hs ps ?_ 61;refine⟨.ref s.heap.objs.size,_,I.laid (λb ob q=>A3 _ q) (B3 _) ?_,rfl,q _<|I.hok.fresh<|B3 _⟩;exact⟨by rw[Y2];exact f,_,r.rev,IsTup.new _ _⟩
def aQd(K:Fg)(te:TE)(th:TO):TE:=λσ H Q=>te σ H λx a=>th σ a λu b=>u=Z (-1)/\aNk K x b Q
def aLh(a:PE X e te)(c:PO X (Z st) th):PE X (.Subscript e (.Slice Y Y (Z st) p2) pos) (aQd X.K te th):=by
 intro cp s σ H Q I h;refine Subscript_ (thn (a cp s σ H _ I h) λv s1 ⟨x,d,f,g,i⟩=>?_);refine wpAny_Slice ?_;refine A4<|A4 ?_;refine thn (c cp s1 σ d _ f i) λj s3 ⟨u,k,l,m,n⟩=>?_;let⟨rfl,q⟩:=n;have o:Inv X cp σ k { s3 with heap:=s3.heap.push { cls:=.type "slice",data:=.fields #[.none,.none,j] } }:=l.kept λb ob q=>A3 _ q;let⟨T,id,hT,ht,p⟩:=aGQ o g (Heap.IsSliceOf.new ..) m q;exact tail_any ht hT p rfl
end
def aLQ:CD->Sto->Tx (CD×Sto)
 |.d (.list ds),M=>Z (.d (.list ds.reverse),M)
 |.d (.tuple ds),M=>Z (.d (.tuple ds.reverse),M)
 |_,_=>Y
def OR(f:EF)(u:OF):EF:=λa M=>(f a M).bind λr=>(u a r.2).bind λq=>if q.1=Z (-1)then aLQ r.1 q.2 else Y
section
variable{K:Fg}
theorem aL.rev{H:Hp}:∀{ds:T3}{vs:Td},aL K H ds vs->aL K H ds.reverse vs.reverse
 |[],vs=>λh=>by rw[show vs=[]from h];rfl
 |d::ds,vs=>λh=>by
  let⟨v,r,rfl,a,b⟩:=h;rw[A0b,A0b];exact aL.app (aL.rev b) ⟨v,[],rfl,a,rfl⟩
def aAJ{z:CD}{M':Sto}(h:aLQ x M=Z (z,M')){W:Wd}{Q:VK}(G:Good K W M H)(e:bW K W x v)(k:∀w W' H',W.Ext W'->Good K W' M' H'->bW K W' z w->Q w H'):aNk K v H Q:=by
 unfold aLQ at h;split at h
 .rename_i ds;cases h;let⟨p,us,rfl,b,c⟩:=e;refine .inl ⟨p,us,rfl,G.fh.seq b,λl d=>?_⟩;let⟨a,G2⟩:=G.lay d;exact k _ _ _ a G2 ⟨l,_,rfl,SqL.of aS,aL.same a.ff _ _ c.rev⟩
 .rename_i ds;cases h;let⟨p,us,rfl,b,c⟩:=e;refine .inr ⟨p,us,rfl,G.fh.seqT b,λl d=>?_⟩;let⟨a,G2⟩:=G.lay d;exact k _ _ _ a G2 ⟨l,_,rfl,SqT.of aS,aL.same a.ff _ _ c.rev⟩
 .cases h
def aMQ{e:TE}{f:EF}{th:TO}{u:OF}(a:SE K e f)(c:SO K th u):SE K (aQd K e th) (OR f u):=by
 intro A M x M' b W H σ Q G R k;let⟨⟨y,M1⟩,i,b⟩:=aH b;let⟨⟨q,B⟩,j,b⟩:=aH b;refine a _ _ _ _ i W H σ _ G R λv l m g n o=>?_;refine c _ _ _ _ j l m σ _ n (R.up g) λC D h G3=>?_;by_cases d:q=Z (-1)
 .rw[A8 d]at b;exact⟨d,aAJ b G3 (o.up h) λw p r t G4 z=>k w p r ((g.trans h).trans t) G4 z⟩
 .rw[B7 d]at b;cases b
end
section
variable{ι:Type}{K:Fg}{X:ι->Cx}{a st:Ud}{f:EF}{u:OF}{pos p2:Pos}
def aCV(b:∀i,(X i).K=K)(x:ME K X a f)(z:MO K X (Z st) u):ME K X (.Subscript a (.Slice Y Y (Z st) p2) pos) (OR f u):=by
 let⟨t,c,d⟩:=x.ex;let⟨h,e,g⟩:=z.ex;exact⟨_,λi=>by have:=aLh (p2:=p2) (pos:=pos) (c i)<|e i;rw[b i]at this;exact this,aMQ d g⟩
end
section
variable{prog:Ue}{w:World}{A:Uf}{E:T0}{s:Ub}
def RC{a b:Int}{t v:Tok}{n:Nat}{Q:T4->Ub->Prop}(p:A.handled=Y)(q:IsRange s.heap r a b c t u v)(hs:Builtin.Range.small a b c=true)(hn:Builtin.Range.rangeSize a b c=(n:Nat))(h:n<=2 ^ 24)
 (x:∀(h':Heap)(f:Nat)(acc:Ti),(∀b o,s.heap.get? b=Z o->h'.get? b=Z o)->ItemsOf (λi v=>∃t,v=Value.int (a+(i:Nat)*c) t) acc n->Q acc.toList { s with heap:=h',toks:=f }):bz (bx prog w) A (collect (.ref r)) Q E s:=by
 let⟨H,g,k,f,os⟩:=s;refine A1<|wpAny_runValue<|A0i entry_proto_collect' ?_;rw[Around.under_plainId F.plain_proto_collect _];refine A1 (m:=newList [])<|D6<|A4 ⟨A1s F.plain_list_iadd _,A0i entry_list_iadd' ?_⟩;rw[Around.under_plainId F.plain_list_iadd _];have l:∀b o,H.get? b=Z o->(H.push { cls:=.type "list",data:=.seq #[] }).get? b=Z o:=λb o e=>A3 _ e;have y:=(B5 H (o:={ cls:=.type "list",data:=.seq #[] }) rfl);show bz _ A.in1 (Builtin.List.listExtendWith (.ref H.objs.size) (.ref r) (.ref H.objs.size)) _ _ ⟨H.push { cls:=.type "list",data:=.seq #[] },g,k,f,os⟩;refine wpAny_extend_range (R:=λr s'=>match r with|.ok (.ret v)=>bz (bx prog w) A (match v with|.ref a=>load a >>= λo=>(match o.data with|.seq xs _=>pure xs.toList|_=>unsupported "internal:collect")|_=>unsupported "internal:collect") Q E s'|.ok _=>False|.error e=>E e s') (s:=⟨H.push { cls:=.type "list",data:=.seq #[] },g,k,f,os⟩) p (l _ _ q) hs hn h H.objs.size (.ref H.objs.size) 0 y λh' j acc c' z hS d=>?_;exact A1<|wpAny_load hS<|A4<|x h' j acc (λb o e=>z b o (C2<|B2 e)<|l b o e) d
end
def CQ(r:Uc)(a b c:Int)(t u v:Tok)(n:Nat)(hs:Builtin.Range.small a b c=true)(hn:Builtin.Range.rangeSize a b c=(n:Nat))(f:n<=2 ^ 24):
 Meets (Builtin.«tuple.__new__» ⟨[.type "tuple",.ref r],[]⟩) (λA R s=>A.in1.handled=Y/\IsRange s.heap r a b c t u v /\
  ∀(h':Heap)(j:Nat)(acc:Ti),(∀b o,s.heap.get? b=Z o->h'.get? b=Z o)->ItemsOf (λi v=>∃t,v=Value.int (a+(i:Nat)*c) t) acc n->R (.ok (.ret (.ref h'.objs.size))) { s with heap:=h'.push { cls:=.type "tuple",data:=.seq acc },toks:=j }):=
 .of_wp λprog w A R s h=>by
  let⟨p,g,d,j,os⟩:=s;let⟨q,l,h⟩:=h;have f1:=sub_tuple_self;have f2:=init_tuple_lookup;have z:=madeHere_tuple;have ht:Shared.TypeIs ⟨p,g,d,j,os⟩ (.ref r) "range":=⟨_,l,rfl⟩
  wp_walk using A1e ht,RC q l hs hn f
  intro h' k acc x e
  have y:acc.toList.toArray.size<=bv:=by
   have:=e.1;rw[J7];simp only[Array.toArray_toList];omega
  refine A1<|A4 ?_;refine A1 (m:=Builtin.Tuple.tupleExact _)<|D6 ?_ y;refine A4 ⟨_,rfl,?_⟩;simpa using h h' k acc x e
section
variable{X:Cx}{a b:Ud}{ta:TA}{p p' pos pos':Pos}
def aAy{Q:VK}{lo hi:Int}{t u v:Tok}{h:Nat}(m:X.calm=true)(I:Inv X cp σ H s)(n:-(2 ^ 62)<=lo)(r:lo<2 ^ 62)(y:-(2 ^ 62)<=hi)(z:hi<2 ^ 62)(d:(hi-lo).toNat<=bv)
 (q:∀l,H l=Y->Q (.ref l) (upd H l (.tup (rR lo (hi-lo).toNat)))):
 bz (bx X.prog X.w) X.A (call (.type "tuple") [.ref s.heap.objs.size]) (λv s'=>∃x H',Inv X cp σ H' s'/\RelV x v/\Q x H') X.xe { s with heap:=s.heap.push { cls:=.type "range",data:=.fields #[.int lo t,.int hi u,.int 1 v] },toks:=h }:=by
 have f:(hi-lo).toNat<=2 ^ 24:=by rw[J7]at d;exact d
 have i:Inv X cp σ H { s with heap:=s.heap.push { cls:=.type "range",data:=.fields #[.int lo t,.int hi u,.int 1 v] },toks:=h }:=I.kept λb o e=>A3 _ e;have j:IsRange (s.heap.push { cls:=.type "range",data:=.fields #[.int lo t,.int hi u,.int 1 v] }) s.heap.objs.size lo hi 1 t u v:=IsRange.new ..;refine callType_new F.called_tuple 66 (F.typeCall_tuple_1 _) (F.newCall_tuple_1 _) (λobj=>F.args_object_init_2 _ _) F.entry_tuple_new (CQ _ lo hi 1 t u v (hi-lo).toNat (small_one n r y z) (by rw[rangeSize_one];split<;>omega) f) ⟨I.ok.hd m,j,λh' g acc k c=>?_⟩
 have sz:(s.heap.push { cls:=.type "range",data:=.fields #[.int lo t,.int hi u,.int 1 v] }).objs.size<=h'.objs.size:=by
  rw[S3];exact B2<|k _ _ j
 refine⟨⟨_,B5 _ rfl,rfl⟩,.ref h'.objs.size,upd H h'.objs.size (.tup (rR lo (hi-lo).toNat)),i.laid (t':=g) (o:=.tup (rR lo (hi-lo).toNat)) (λb o e=>A3 _<|k b o e) sz ?_,rfl,q _<|i.hok.fresh sz⟩;exact⟨by rw[rR,A6,O0];exact d,acc.toList,JY c,IsTup.new _ _⟩
def aCu(ta:TA):TE:=λσ H Q=>ta σ H λvs c=>∃j:Int,vs=[.int j]/\-(2 ^ 62)<=j/\j<2 ^ 62/\j.toNat<=bv/\∀l,c l=Y->Q (.ref l) (upd c l (.tup (rR 0 j.toNat)))
def aFi(g:X.calm=true)(i:Gl X "range")(hm:X.mg "range"=Y)(c:Gl X "tuple")(d:X.mg "tuple"=Y)(ha:PA X [a] ta)(hs:cb [a] X.env=[(false,eval a X.env)]):
 PE X (.Call (.Name "tuple" p) [.Call (.Name "range" p') [a] [] pos'] [] pos) (aCu ta):=by
 intro cp s σ H Q I h;refine Z0<|iI I c d A1c ?_ 66 66;refine F9 ?_ pQ rfl;rw[pQ];show bz _ _ (spliced ((false,eval (.Call (.Name "range" p') [a] [] pos') X.env)::[])) _ _ s;refine A1w ?_;refine Call_<|iI I i hm boot_range<|F9 (thn (ha pos' cp s σ H _ I h) λus s1 ⟨vs,u,k,l,f⟩=>?_) hs rfl;let⟨j,e,f,m,n,q⟩:=f;subst e;cases l with
 |cons r o=>
  cases o;let⟨t,rfl⟩:=r;refine call_range_1<|A1z ?_;exact aAy g k 61 61 f m (by simpa using n) (by simpa using q)
end
section
variable{K:Fg}{tA:TA}{fa:AF}
def wQ(f:AF):EF:=λa M=>(f a M).bind λr=>match r.1 with
 |[.d (.int j)]=>if cW j=true/\j.toNat<=bv then Z (.d (.tuple (OG 0 j.toNat)),r.2)else Y
 |_=>Y
def aEF(b:SA K tA fa):SE K (aCu tA) (wQ fa):=by
 intro m M x M' a W H σ Q G R k;let⟨⟨n,M1⟩,c,a⟩:=aH a;refine b _ _ _ _ c W H σ _ G R λvs p q d e f=>?_;revert a;dsimp only;split
 .rename_i j;intro a;by_cases hs:cW j=true/\j.toNat<=bv
  .rw[A8 hs]at a;cases a;cases f with
   |cons r g=>
    cases g;refine⟨j,by rw[show _=V.int j from r],(dZ hs.1).1,(dZ hs.1).2,hs.2,λl h=>?_⟩;let⟨i,G2⟩:=e.lay (o:=.tup (rR 0 j.toNat)) h;exact k _ _ _ (d.trans i) G2 ⟨l,_,rfl,SqT.of aS,ZD⟩
  .rw[B7 hs]at a;cases a
 .intro a;cases a
def RJ{ι:Type}{X:ι->Cx}{a:Ud}{p p' pos pos':Pos}(d:∀i,(X i).calm=true)(hm:∀i,(X i).mg "range"=Y)(b:∀i,(X i).mg "tuple"=Y)(x:MA K X [a] fa)(e:∀i,Gl (X i) "range":=by intro _;rfl)(c:∀i,Gl (X i) "tuple":=by intro _;rfl):
 ME K X (.Call (.Name "tuple" p) [.Call (.Name "range" p') [a] [] pos'] [] pos) (wQ fa):=by
 let⟨t,f,g⟩:=x.ex;exact⟨_,λi=>aFi (d i) (e i) (hm i) (c i) (b i) (f i)<|x.st.1 _,aEF g⟩
end
def NM(h:Heap)(vs:T4)(a:Ti):(∀b o,h.get? b=Z o->(sortedAll h vs a).get? b=Z o)/\∃c,(sortedAll h vs a).get? (h.objs.size+1)=Z (seqObj "list" a c):=by
 unfold sortedAll
 have g:((h.push<|seqObj "list" #[] 0).update h.objs.size (Obj.mapSeq λx=>x++vs.toArray)).objs.size=h.objs.size+1:=by
  rw[Heap.size_update,S3]
 have d:∀b o,h.get? b=Z o->((h.push<|seqObj "list" #[] 0).update h.objs.size (Obj.mapSeq λx=>x++vs.toArray)).get? b=Z o:=λb o e=>by
  rw[A0k _ _ _ _ (C2<|B2 e)];exact A3 _ e
 generalize (h.push<|seqObj "list" #[] 0).update h.objs.size (Obj.mapSeq λx=>x++vs.toArray)=f at g d;rw[<- g];have j:(f.push<|seqObj "list" vs.toArray 0).get? f.objs.size=Z (seqObj "list" vs.toArray 0):=B5 _ rfl;constructor
 .intro b o e;have i:b≠f.objs.size:=C2<|B2<|d b o e;unfold sortedHeap;rw[A0k _ _ _ _ i];refine A3 _<|A3 _ ?_;rw[A0k _ _ _ _ i];exact A3 _<|d b o e
 .unfold sortedHeap;have k:=A1p j (λ_=>#[]);have l:=A3 (seqObj "tuple" vs.toArray 0) k;have m:=A3 (seqObj "list" #[] 0) l;exact⟨_,A1p m λ_=>a⟩
theorem wV:∀{ns:T6}{us:T4},IntsAre us ns->bE (ns.map .int) us
 |[],_,.nil=>.nil
 |_::_,_,.cons _ t h=>.cons ⟨t,rfl⟩ (wV h)
def VG(K:Fg):Td->Hp->VK->Prop:=λxs H Q=>∃(p:Uc)(ns:T6),xs=[.ref p]/\SqL K H p (ns.map .int)/\ns.length<64/\∀l,H l=Y->Q (.ref l) (upd H l (.lst ((bK ns).map .int)))
def UK:dH X (.builtin "sorted") (VG X.K):=by
 intro cp s σ H xs us Q I r h;let⟨p,ns,rfl,i,j,q⟩:=h;let⟨u,rfl,k⟩:=vals1 r;cases k;let⟨its,f,l,g⟩:=I.list i;have m:=f.length;rw[A6]at m g;refine sorted_ints l.isList (intsAre_of f) 61 λa b hi pm n=>?_;have e:b=bK ns:=lP n (eL ns)<|pm.trans (cN ns).symm;subst e;let⟨kp,c,o⟩:=NM s.heap its a;have d:((bK ns).map V.int).length<=bv:=by rw[A6,pm.length_eq];exact g
 exact⟨.ref (s.heap.objs.size+1),upd H (s.heap.objs.size+1) (.lst ((bK ns).map .int)),I.laid (t':=s.toks) kp (A1i _) ⟨d,a.toList,c,wV hi,by simpa using o⟩,rfl,q _<|I.hok.fresh<|A1i _⟩
def aKP{X:Cx}(h:X.K=K):dH X (.builtin "sorted") (VG K):=by subst h;exact UK
theorem uG:∀{ds:T3}{ns:T6},mC ds=Z ns->ds=ns.map .int
 |[],_=>λh=>by cases h;rfl
 |d::ds,ns=>λh=>by
  cases d with
  |int n=>
   let⟨ms,a,b⟩:=A1q.mp h;cases b;rw[uG a];rfl
  |_=>cases h
theorem kF{K:Fg}{H:Hp}:∀{ns:T6}{us:Td},aL K H (ns.map .int) us->us=ns.map .int
 |[],_=>λh=>h
 |n::ns,_=>λh=>by
  let⟨v,r,rfl,a,b⟩:=h;rw[kF b,show v=V.int n from a];rfl
def aFE(K:Fg):Td->Hp->VK->Prop:=λxs H Q=>∃(p:Uc)(ns:T6),xs=[.ref p]/\SqL K H p (ns.map .int)/\Q (.int ns.sum) H
def aAP{X:Cx}(c:X.calm=true):dH X (.builtin "sum") (aFE X.K):=by
 intro cp s σ H xs us Q I r h;let⟨p,ns,rfl,d,q⟩:=h;let⟨u,rfl,f⟩:=vals1 r;cases f;let⟨its,g,i,l⟩:=I.list d;have hi:=intsAre_of g;let⟨m,e⟩:=hi.allInts.items;have a:=i.isList;have b:=hi.numsOf;rw[show its=its.toArray.toList from rfl,e,nums_intItems]at b;rw[e]at a;refine sum_intListG (I.ok.hd c) a λh' j t' k=>?_;refine⟨.int _,H,I.kept (h':=h') (t':=j) k,⟨t',rfl⟩,?_⟩;rw[preSum_eq,List.take_of_length_le 67,b];exact q
def aQy{X:Cx}(h:X.K=K)(a:X.calm=true):dH X (.builtin "sum") (aFE K):=by subst h;exact aAP a
def sumF:FN:=λxs M=>match xs with
 |[.d (.list ds)]=>(mC ds).bind λns=>Z (.d (.int ns.sum),M)
 |_=>Y
def aHt:PN K (aFE K) sumF:=by
 intro xs M z M' h W H vs Q G r k;unfold sumF at h;split at h
 .rename_i ds;let⟨ns,c,h⟩:=aH h;cases h;obtain _|⟨d,_|_⟩:=r;let⟨p,us,rfl,f,b⟩:=(show ∃a us,_=V.ref a/\SqL K W.F a us/\aL K W.F ds us from d);rw[uG c]at b;have e:=kF b;subst e;exact⟨p,ns,rfl,G.fh.seq f,k _ W H (.refl _) G rfl⟩
 .cases h
def aMV{ι:Type}{X:ι->Cx}(a:∀i,(X i).K=K)(b:∀i,(X i).calm=true):QN K X (.builtin "sum") sumF:=⟨_,λi=>aQy (a i)<|b i,aHt⟩
def Rsg(xs:Tj):Prop:=∀i k:Nat,i<k->k<xs.size->xs.getD i 0<xs.getD k 0
structure Cut(xs:Tj)(j r:Nat):Prop where
 le:r<=xs.size
 lo:∀i,i<r->xs.getD i 0<j
 hi:∀i,r<=i->i<xs.size->j<=xs.getD i 0
def aDv{xs:Tj}{i:Nat}(h:i<xs.size):xs.getD i a=xs.getD i b:=68
theorem HM{j:Nat}(R:Rsg xs):∀(fuel lo hi:Nat),hi<=lo+fuel->lo<=hi->hi<=xs.size->(∀i,i<lo->xs.getD i 0<j)->(∀i,hi<=i->i<xs.size->j<=xs.getD i 0)->Cut xs j (SetTable.below.go xs j fuel lo hi)
 |0=>λlo hi f g a b d=>by
  have:lo=hi:=61
  subst this;exact⟨a,b,d⟩
 |fuel+1=>λlo hi f g a b d=>by
  unfold SetTable.below.go;by_cases h:lo<hi
  .rw[A8 h];dsimp only;have k:(lo+hi) / 2<hi:=61
   have mg:lo<=(lo+hi) / 2:=61
   generalize (lo+hi) / 2=m at k mg;rw[aDv 61];by_cases c:xs.getD m 0<j
   .rw[A8 c];refine HM R fuel (m+1) hi 61 61 a (λi l=>?_) d;by_cases e:i=m
    .rw[e];exact c
    .have:=R i m 61 61;omega
   .rw[B7 c];refine HM R fuel lo m 61 mg 61 b (λi o n=>?_);by_cases e:i=m
    .rw[e];omega
    .have:=R m i 61 n;omega
  .rw[B7 h];have:lo=hi:=61
   subst this;exact⟨a,b,d⟩
def pN(j:Nat)(R:Rsg xs):Cut xs j (cm xs j):=
 HM R xs.size 0 xs.size 61 (E6 _) (B3 _) (λi h=>absurd h<|Nat.not_lt_zero _) λi h h'=>61
def WE{i:Nat}(R:Rsg xs)(h:i<xs.size):cm xs (xs.getD i 0+1)=i+1:=by
 have c:=pN (xs.getD i 0+1) R;by_cases d:cm xs (xs.getD i 0+1)<=i
 .have:=c.hi i d h;omega
 .by_cases e:i+1<cm xs (xs.getD i 0+1)
  .have a:=c.lo (i+1) e;have b:=R i (i+1) 61 (by have:=c.le;omega);omega
  .omega
def WI(R:Rsg xs):cm xs 0=0:=by
 have c:=pN 0 R;by_cases h:cm xs 0=0
 .exact h
 .have:=c.lo 0 61;omega
def EI{xs:Tj}{p:Nat}(h:p<=xs.size):(ck xs p x).size=xs.size+1:=by
 unfold ck;simp;omega
def UR{xs:Tj}{p:Nat}(h:p<=xs.size):(ck xs p x).getD i 0=if i<p then xs.getD i 0 else if i=p then x else xs.getD (i-1) 0:=by
 unfold ck;rw[E1,Array.getElem?_append];have sz:((xs.extract 0 p).push x).size=p+1:=68
 rw[sz];by_cases a:i<p
 .rw[A8 61,A8 a,Array.getElem?_push,B7 68,Array.getElem?_extract,E1];simp;rw[A8 61]
 .rw[B7 a];by_cases b:i=p
  .rw[A8 61,A8 b,Array.getElem?_push,A8 68];rfl
  .rw[B7 61,B7 b,Array.getElem?_extract,E1];by_cases c:i-1<xs.size
   .rw[A8 61,show p+(i-(p+1))=i-1 by omega]
   .rw[B7 61,A0x 61]
def WQ(R:Rsg xs)(f:SetTable.has xs j=false):Rsg (ck xs (cm xs j) j):=by
 have c:=pN j R
 have f:∀i,i<xs.size->i=cm xs j->xs.getD i 0≠j:=λi hi e q=>by
  unfold SetTable.has at f;rw[<- e,L8 hi]at f;rw[E1,L8 hi]at q;have q:xs[i]=j:=q;rw[q]at f;simp at f
 generalize cm xs j=p at c f;have cl:=c.le;intro i k m o;rw[EI c.le]at o;rw[UR c.le,UR c.le]
 have n:∀i,p<=i->i<xs.size->j<xs.getD i 0:=λi h g=>by
  have a:=c.hi i h g;by_cases e:i=p
  .have:=f i g e;omega
  .have b:=c.hi p (B3 _) 61;have d:=R p i 61 g;omega
 by_cases h:i<p
 .rw[A8 h];have:=c.lo i h;by_cases g:k<p
  .rw[A8 g];exact R i k m 61
  .rw[B7 g];by_cases l:k=p
   .rw[A8 l];exact this
   .rw[B7 l];have:=n (k-1) 61 61;omega
 .rw[B7 h,B7 (by omega:¬k<p),B7 (by omega:¬k=p)];by_cases l:i=p
  .rw[A8 l];exact n (k-1) 61 61
  .rw[B7 l];exact R (i-1) (k-1) 61 61
theorem xG{t:SetTable}:∀(fuel:Nat)(p:SetTable.Probe)(j:Nat)(d:Tg),(∀x,p.dummy=Z x->SetTable.has t.place x=false)->SetTable.probe.go t f h fuel p=Z (.empty j d)->SetTable.has t.place j=false/\∀x,d=Z x->SetTable.has t.place x=false
 |0=>λp j d b e=>by cases e
 |fuel+1=>λp j d b e=>by
  unfold SetTable.probe.go at e
  have c:∀x,(∀i,t.slot x≠.live i)->SetTable.has t.place x=false:=λx a=>by
   unfold SetTable.slot at a;unfold SetTable.has;dsimp only at a;cases q:(t.place[cm t.place x]?==Z x)with
   |false=>rfl
   |true=>rw[q]at a;exact absurd rfl<|a _
  cases sl:t.slot p.j with
  |empty=>
   rw[sl]at e;cases e;exact⟨c _ (λi=>by rw[sl];exact nofun),b⟩
  |dummy=>
   rw[sl]at e;refine xG fuel _ j d (λx a=>?_) e
   have:(t.advance { p with dummy:=Z p.j }).dummy=Z p.j:=by
    unfold SetTable.advance;split<;>rfl
   rw[this]at a;cases a;exact c _ (λi=>by rw[sl];exact nofun)
  |live i=>
   rw[sl]at e;dsimp only at e;split at e
   .cases e
   .refine xG fuel _ j d (λx a=>b x ?_) e;rw[<- a];unfold SetTable.advance;split<;>rfl
def aBr{t:SetTable}{j:Nat}{b:Bool}(e:t.freeSlot h=Z (j,b)):SetTable.has t.place j=false:=by
 unfold SetTable.freeSlot at e;split at e
 .rename_i k d a;cases e;let⟨c,f⟩:=xG _ _ _ _ (λx g=>by cases g) a;cases d with
  |none=>exact c
  |some x=>exact f x rfl
 .cases e
def aDf{l:Tv (Nat×Nat)}(h:(l.map (·.1)).Pairwise (·<·)):Rsg (l.map (·.1)).toArray:=by
 intro i k a b;rw[F4]at b;have:=List.pairwise_iff_getElem.mp h i k 61 b a;rw[E1,E1,A0m,A0m,C0 61,C0 b];exact this
theorem aAb{f:Nat->Tg}:∀(l:Tv Nat),l.Pairwise (·<·)->((l.filterMap λj=>(f j).map (j,·)).map (·.1)).Pairwise (·<·)
 |[]=>λ_=>List.Pairwise.nil
 |a::l=>λh=>by
  let⟨d,g⟩:=S6.mp h;have ih:=aAb (f:=f) l g;rw[Z4];cases e:f a with
  |none=>exact ih
  |some b=>
   refine S6.mpr ⟨λx i=>?_,ih⟩;let⟨y,c,rfl⟩:=D3.mp i;let⟨j,k,c⟩:=Z9.mp c;let⟨z,_,rfl⟩:=A0w.mp c;exact d j k
noncomputable abbrev t7(b:Bool)(p:Tj):SetTable:=⟨7,p,#[],0,b,0,true⟩
noncomputable abbrev t31(b:Bool)(p:Tj):SetTable:=⟨31,p,#[],0,b,1,true⟩
def okF(p:Tj):Bool:=[true,false].all λb=>(List.range 9).all λv=>match SetTable.freeSlot (t7 b p) ((v:Nat):Int)with
 |some (j,false)=>decide (j<=7)
 |_=>false
def aPh:Bool:=okF #[]&&(List.range 8).all λa=>okF #[a]&&(List.range 8).all λb=>!(decide (a<b)) || (okF #[a,b]&&(List.range 8).all λc=>!(decide (b<c)) || (okF #[a,b,c]&&(List.range 8).all λd=>!(decide (c<d)) || okF #[a,b,c,d]))
def WL:aPh=true:=by decide +kernel
def IC(h:(List.range 8).all f=true){a:Nat}(ha:a<=7):f a=true:=C3.mp h a<|E4.mpr 61
def aMM(R:Rsg p)(le:∀i,i<p.size->p.getD i 0<=7)(f:p.size<=4):okF p=true:=by
 have A:=WL;let⟨h,A⟩:=S4.mp A;let⟨l⟩:=p
 match l,R,le,f with
 |[],_,_,_=>exact h
 |[a],R,le,_=>exact(S4.mp<|IC A<|le 0 67).1
 |[a,b],R,le,_=>
  have A:=IC (S4.mp<|IC A<|le 0 67).2 (le 1 67);have e:=R 0 1 61 67;obtain A|A:=A0q.mp A
  .exact absurd e 68
  .exact(S4.mp A).1
 |[a,b,c],R,le,_=>
  have A:=IC (S4.mp<|IC A<|le 0 67).2 (le 1 67);have e:=R 0 1 61 67;have g:=R 1 2 61 67;obtain A|A:=A0q.mp A
  .exact absurd e 68
  .have A:=IC (S4.mp A).2 (le 2 67);obtain A|A:=A0q.mp A
   .exact absurd g 68
   .exact(S4.mp A).1
 |[a,b,c,d],R,le,_=>
  have A:=IC (S4.mp<|IC A<|le 0 67).2 (le 1 67);have e:=R 0 1 61 67;have g:=R 1 2 61 67;have j:=R 2 3 61 67;obtain A|A:=A0q.mp A
  .exact absurd e 68
  .have A:=IC (S4.mp A).2 (le 2 67);obtain A|A:=A0q.mp A
   .exact absurd g 68
   .have A:=IC (S4.mp A).2 (le 3 67);obtain A|A:=A0q.mp A
    .exact absurd j 68
    .exact A
 |_::_::_::_::_::_,_,_,f=>simp at f
def aPw{h:Int}(c:0<=h)(d:h<9)(R:Rsg p)(le:∀i,i<p.size->p.getD i 0<=7)(a:p.size<=4):∃j,SetTable.freeSlot (t7 b p) h=Z (j,false)/\j<=7:=by
 have A:=aMM R le a;have A:=C3.mp (C3.mp A b 67) h.toNat<|E4.mpr 61;rw[show((h.toNat:Nat):Int)=h by omega]at A;revert A;split
 .rename_i j e;intro A;exact⟨j,e,by simpa using A⟩
 .intro A;cases A
def YF{h:Int}(a:0<=h)(b:h<9):SetTable.bits h=h.toNat:=by
 unfold SetTable.bits;rw[Int.emod_eq_of_lt a 61]
def aIU(h:SetTable.has xs j=true):∃i:Nat,xs[i]?=Z j:=by
 unfold SetTable.has at h;exact⟨_,by simpa using h⟩
def aMf{h:Int}(c:0<=h)(d:h<9)(a:SetTable.has p h.toNat=false):SetTable.freeSlot (t31 b p) h=Z (h.toNat,false):=by
 have hm:h.toNat % (31+1)=h.toNat:=Nat.mod_eq_of_lt 61
 have sl:(t31 b p).slot h.toNat=.empty:=by
  unfold SetTable.slot;unfold SetTable.has at a;dsimp only;rw[a];rfl
 have e:(t31 b p).probe (λ_=>h+1) h ((t31 b p).probeStart h)=Z (.empty h.toNat Y):=by
  unfold SetTable.probe SetTable.probeStart;show SetTable.probe.go (t31 b p) _ h (459+1) _=_;unfold SetTable.probe.go;rw[YF c d,hm,sl]
 unfold SetTable.freeSlot;rw[e];rfl
def aLG(acc:Tx (Array (Tg)×Nat))(h:Int):Tx (Array (Tg)×Nat):=acc.bind λx=>(SetTable.layClean.free 31 x.1 (SetTable.turns 31) (SetTable.bits h % (31+1))<|SetTable.bits h).bind λj=>Z (x.1.setIfInBounds j<|Z x.2,x.2+1)
def aGZ{a:Array (Tg)}{i f:Nat}(hi:i<9)(hn:a.getD i (Z 0)=Y):SetTable.layClean.free 31 a (f+1) i pt=Z i:=by
 unfold SetTable.layClean.free
 have e:SetTable.runEnd 31 i+1-i=9+1:=by
  unfold SetTable.runEnd;rw[A8 61];omega
 rw[e,List.range_succ_eq_map,List.find?_cons_of_pos 68];rfl
theorem ON:∀(hs:T6)(a:Array (Tg))(k:Nat),a.size=32->(∀h∈hs,0<=h/\h<9/\a.getD h.toNat (Z 0)=Y)->hs.Nodup->
 ∃c,hs.foldl aLG (Z (a,k))=Z (c,k+hs.length)/\∀j i:Nat,c.getD j Y=Z i↔(a.getD j Y=Z i\/(k<=i/\hs[i-k]?=Z (j:Int)))
 |[]=>λa k sz H nd=>⟨a,rfl,λj i=>67⟩
 |h::hs=>λa k sz H nd=>by
  let⟨y,z,hn⟩:=H h B0;let⟨f,p⟩:=A0o.mp nd
  have st:aLG (Z (a,k)) h=Z (a.setIfInBounds h.toNat<|Z k,k+1):=by
   show(SetTable.layClean.free 31 a (45+1) (SetTable.bits h % (31+1))<|SetTable.bits h).bind _=_;rw[YF y z,Nat.mod_eq_of_lt 61,aGZ 61 hn];rfl
  have ga:∀(j:Nat)(d:Tg),j<32->(a.setIfInBounds h.toNat<|Z k).getD j d=if j=h.toNat then Z k else a.getD j d:=λj d t=>by
   rw[E1,Array.getElem?_setIfInBounds,E1];by_cases e:h.toNat=j
   .rw[A8 e,A8 e.symm,A8 61];rfl
   .rw[B7 e,B7 λq=>e q.symm]
  let⟨c,A,B⟩:=ON hs (a.setIfInBounds h.toNat<|Z k) (k+1) 68 (λg m=>by
   let⟨C,D,E⟩:=H g (A7 _ m);refine⟨C,D,?_⟩;rw[ga _ _ 61,B7 λq=>f 68];exact E) p
  refine⟨c,by rw[List.foldl_cons,st,A,D8];congr 2;omega,λj i=>?_⟩;rw[B];by_cases t:j<32
  .rw[ga _ _ t];by_cases e:j=h.toNat
   .rw[A8 e]
    have F:a.getD j Y=Y:=by
     rw[E1]at hn ⊢;rw[e];cases q:a[h.toNat]? with
     |none=>rfl
     |some v=>rw[q]at hn;exact hn
    rw[F];constructor
    .rintro(q|⟨n,b⟩)
     .cases q;exact .inr ⟨B3 _,by rw[A1u];simp;omega⟩
     .refine absurd (U7 b) ?_;rw[show((j:Nat):Int)=h by omega];exact f
    .rintro(q|⟨n,b⟩)
     .cases q
     .by_cases r:i=k
      .exact .inl (by rw[r])
      .refine .inr ⟨61,?_⟩;rw[show i-k=(i-(k+1))+1 by omega,A0c]at b;exact b
   .rw[B7 e];constructor
    .rintro(q|⟨n,b⟩)
     .exact .inl q
     .refine .inr ⟨61,?_⟩;rw[show i-k=(i-(k+1))+1 by omega,A0c];exact b
    .rintro(q|⟨n,b⟩)
     .exact .inl q
     .refine .inr ?_;by_cases r:i=k
      .rw[r,A1u,A0t]at b;cases b;exact absurd (U1 j).symm e
      .refine⟨61,?_⟩;rw[show i-k=(i-(k+1))+1 by omega,A0c]at b;exact b
  .have u:∀o:Array (Tg),o.size=32->o.getD j Y=Y:=λo I=>by
    rw[E1,A0x 61];rfl
   rw[u _ sz,u _ 68]
   have w:∀(l:T6)(x:Nat),(∀g∈l,g<9)->l[x]?≠Z (j:Int):=λl x G q=>by
    have:=G _<|U7 q;omega
   constructor
   .rintro(q|⟨n,b⟩)
    .cases q
    .exact absurd b (w _ _ λg m=>(H g<|A7 _ m).2.1)
   .rintro(q|⟨n,b⟩)
    .cases q
    .exact absurd b (w _ _ λg m=>(H g m).2.1)
def aQp{hs:Array Int}(H:∀h∈hs.toList,0<=h/\h<9)(nd:hs.toList.Nodup):∃a,SetTable.layClean 31 hs=Z a/\∀j i:Nat,a.getD j Y=Z i↔hs.toList[i]?=Z (j:Int):=by
 have b:∀(j:Nat)(d:Tg),(Array.replicate (31+1) (Y:Tg)).getD j d=if j<32 then Y else d:=λj d=>by
  rw[E1,Array.getElem?_replicate];by_cases h:j<32
  .rw[A8 h,A8 h];rfl
  .rw[B7 h,B7 h];rfl
 let⟨a,e,f⟩:=ON hs.toList (Array.replicate (31+1) Y) 0 rfl (λh c=>⟨(H h c).1,(H h c).2,by rw[b,A8 68]⟩) nd;refine⟨a,?_,λj i=>?_⟩
 .unfold SetTable.layClean;rw[<- Array.foldl_toList];show Option.map (λx=>x.1) (List.foldl aLG (Z (Array.replicate (31+1) Y,0)) hs.toList)=Z a;rw[e];rfl
 .rw[f,b];simp
theorem aEz{es:Array (Int×Tz)}:∀(l:Tv (Nat×Nat)),(∀q∈l,∃e,es[q.2]?=Z e/\e.1.toNat=q.1)->((l.map (·.2)).filterMap (es[·]?)).map (λe=>e.1.toNat)=l.map (·.1)
 |[]=>65
 |q::l=>λH=>by
  let⟨e,a,b⟩:=H q B0;have ih:=aEz l λp c=>H p<|A7 _ c;rw[C6,Z4,a,C6,ih,b];rfl
def aHV{es:Array (Int×Tz)}(y:SetTable.sizeAbove w=32)(H:∀h∈(es.map (·.1)).toList,0<=h/\h<9)(nd:(es.map (·.1)).toList.Nodup)(F:es.size<=31):
 ∃q,(relayAll (t7 b p) es w).2.1=t31 b q/\Rsg q/\q.toList=(relayAll (t7 b p) es w).1.toList.map λe=>e.1.toNat:=by
 let⟨c,z,g⟩:=aQp H nd;have sz:(es.map (·.1)).toList.length=es.size:=67
 have a:∀q∈(List.range (31+1)).filterMap λj=>(c.getD j Y).map (j,·),(es.map (·.1)).toList[q.2]?=Z (q.1:Int)/\q.1<32:=λq d=>by
  let⟨j,A,h⟩:=Z9.mp d;let⟨i,hi,rfl⟩:=A0w.mp h;exact⟨(g j i).mp hi,E4.mp A⟩
 have k:(t7 b p).relaid (es.map (·.1)) w=Z (t31 b (((List.range (31+1)).filterMap λj=>(c.getD j Y).map (j,·)).map (·.1)).toArray,(((List.range (31+1)).filterMap λj=>(c.getD j Y).map (j,·)).map (·.2)).toArray):=by
  unfold SetTable.relaid SetTable.laid;rw[y,show 32-1=31 from rfl,z];rfl
 have pm:((((List.range (31+1)).filterMap λj=>(c.getD j Y).map (j,·)).map (·.2))).Perm (List.range es.size):=by
  refine(List.perm_ext_iff_of_nodup ?_ List.nodup_range).mpr λi=>?_
  .rw[List.map_filterMap];refine List.Pairwise.filterMap _ (λj B l i hi G f q=>?_) List.nodup_range;subst q;rw[Option.map_map]at hi f;let⟨x,m,e⟩:=A0w.mp hi;let⟨C,n,o⟩:=A0w.mp f;have o:C=i:=o;subst e;subst o;have D:=(g _ _).mp m;have E:=(g _ _).mp n;rw[D]at E;have:(j:Int)=B:=68
   exact l 61
  .rw[E4];constructor
   .intro h;let⟨q,d,rfl⟩:=D3.mp h;have:=(a q d).1;have:=(B9.mp this).1;omega
   .intro h;have hi:i<(es.map (·.1)).toList.length:=61
    obtain⟨x,m⟩:∃x,(es.map (·.1)).toList[i]?=Z x:=⟨_,C0 hi⟩;have I:=H _<|U7 m;refine D3.mpr ⟨(x.toNat,i),Z9.mpr ⟨x.toNat,E4.mpr 61,?_⟩,rfl⟩;rw[(g _ i).mpr 68];rfl
 have t:Rsg (((List.range (31+1)).filterMap λj=>(c.getD j Y).map (j,·)).map (·.1)).toArray:=aDf<|aAb _ List.pairwise_lt_range;generalize (List.range (31+1)).filterMap (λj=>(c.getD j Y).map (j,·))=L at a k pm t
 have fs:=aEz L λq d=>by
  let⟨u,J⟩:=a q d;have r:=(B9.mp u).1;rw[sz]at r;refine⟨es[q.2],L8 r,?_⟩
  have:(es.map (·.1)).toList[q.2]?=Z es[q.2].1:=by
   rw[F8,Array.getElem?_map,L8 r];rfl
  rw[this]at u;have:es[q.2].1=(q.1:Int):=68
  omega
 have ln:L.length=es.size:=by
  have:=pm.length_eq
  rwa [A6,O0]at this
 have v:(coversAll (L.map (·.2)).toArray es.size&&(t31 b (L.map (·.1)).toArray).fits ((L.map (·.2)).toArray.filterMap (es[·]?)).size)=true:=by
  rw[A9];refine⟨List.isPerm_iff.mpr pm,?_⟩;unfold SetTable.fits SetTable.fill
  have s1:((L.map (·.2)).toArray.filterMap (es[·]?)).size=L.length:=by
   have:=Z7 List.length fs;rw[A6,A6]at this;rw[List.filterMap_toArray,F4];exact this
  rw[s1];simp;omega
 refine⟨(L.map (·.1)).toArray,?_,t,?_⟩
 .unfold relayAll;rw[k];dsimp only;rw[A8 v]
 .unfold relayAll;rw[k];dsimp only;rw[A8 v];rw[List.filterMap_toArray];exact fs.symm
noncomputable def vI:Tz->Int
 |.int i _=>i
 |_=>0
structure Tp(b:Bool)(t:SetTable)(es:Array (Int×Tz)):Prop where
 bd:∀e∈es.toList,0<=e.1/\e.1<9
 vl:∀e∈es.toList,vI e.2=e.1
 nd:(es.toList.map (·.1)).Nodup
 fm:∃p,Rsg p/\((t=t7 b p/\(∀i,i<p.size->p.getD i 0<=7)/\p.size<=4/\p.size=es.size)\/(t=t31 b p/\p.toList=es.toList.map λe=>e.1.toNat))
def Tp.fresh(b:Bool):Tp b (.fresh 0 0 b) #[]:=⟨λe h=>by simp at h,λe h=>by simp at h,A2q,#[],λi k _ h=>absurd h<|Nat.not_lt_zero _,.inl ⟨rfl,λi h=>absurd h<|Nat.not_lt_zero _,E6 _,rfl⟩⟩
def Tp.plain(T:Tp b t es):t.plain=true/\t.led=b/\Rsg t.place:=by
 obtain⟨p,R,⟨rfl,_⟩|⟨rfl,_⟩⟩:=T.fm<;>exact⟨rfl,rfl,R⟩
theorem aFF(R:Rsg p):∀i,i<p.size->i<=p.getD i 0
 |0=>λ_=>E6 _
 |i+1=>λh=>by
  have a:=aFF R i 61;have b:=R i (i+1) 61 h;omega
def sZ{a:Type}{xs:Array a}{p:Nat}{x:a}:(ck xs p x).toList=xs.toList.take p++x::xs.toList.drop p:=by
 unfold ck;simp;rw[List.take_of_length_le 67]
def Tp.lay(T:Tp b t es){h:Int}(A:0<=h)(B:h<9)(G:vI x=h)(r:h∉es.toList.map (·.1)):
 (layNew t es h x).2.2.1=false/\(layNew t es h x).2.1.plain=true /\
 (((layNew t es h x).2.1.tooFull=false/\Tp b (layNew t es h x).2.1 (layNew t es h x).1)\/((layNew t es h x).2.1.tooFull=true/\Tp b (relayAll (layNew t es h x).2.1 (layNew t es h x).1 (SetTable.grown (layNew t es h x).1.size)).2.1 (relayAll (layNew t es h x).2.1 (layNew t es h x).1 (SetTable.grown (layNew t es h x).1.size)).1)):=by
 have d:∀k,∀e∈(ck es k (h,x)).toList,0<=e.1/\e.1<9:=λk e he=>by
  rw[sZ]at he;obtain he|he:=D5.mp he
  .exact T.bd e<|List.mem_of_mem_take he
  .obtain rfl|he:=C1.mp he
   .exact⟨A,B⟩
   .exact T.bd e<|List.mem_of_mem_drop he
 have o:∀k,∀e∈(ck es k (h,x)).toList,vI e.2=e.1:=λk e he=>by
  rw[sZ]at he;obtain he|he:=D5.mp he
  .exact T.vl e<|List.mem_of_mem_take he
  .obtain rfl|he:=C1.mp he
   .exact G
   .exact T.vl e<|List.mem_of_mem_drop he
 have u:∀k,(ck es k (h,x)).toList.Perm ((h,x)::es.toList):=λk=>by
  rw[sZ];refine List.perm_middle.trans ?_;rw[List.take_append_drop]
 have f:=λk=>((u k).map (·.1)).symm.nodup (A0o.mpr ⟨r,T.nd⟩)
 have l:∀k,(ck es k (h,x)).size=es.size+1:=λk=>by
  have:=(u k).length_eq;exact this
 obtain⟨p,R,⟨rfl,le,I,sz⟩|⟨rfl,v⟩⟩:=T.fm
 .let⟨j,w,J⟩:=aPw A B R le I;have y:=aBr w;have C:=WQ R y;have z:=(pN j R).le;have n:(ck p (cm p j) j).size=p.size+1:=EI z
  have L:layNew (t7 b p) es h x=(ck es (cm p j) (h,x),t7 b<|ck p (cm p j) j,false,false):=by
   unfold layNew;rw[w]
   have D:(t7 b<|ck p (cm p j) j).fits (ck es (cm p j) (h,x)).size=true:=by
    unfold SetTable.fits SetTable.fill;rw[l,A9];exact⟨by simp[n,sz],by simp[n];omega⟩
   have pt:(t7 b p).put j=(t7 b<|ck p (cm p j) j,cm p j):=rfl;dsimp only;rw[pt];unfold SetTable.orStandIn;rw[D];rfl
  have E:∀i,i<(ck p (cm p j) j).size->(ck p (cm p j) j).getD i 0<=7:=λi hi=>by
   rw[UR z];split
   .exact le i 61
   .split
    .exact J
    .exact le (i-1) 61
  rw[L];refine⟨rfl,rfl,?_⟩;by_cases c:p.size+1<=4
  .refine .inl ⟨?_,d _,o _,f _,_,C,.inl ⟨rfl,E,61,by rw[n,l,sz]⟩⟩;unfold SetTable.tooFull SetTable.fill;simp[n];omega
  .have M:p.size=4:=61
   have N:SetTable.sizeAbove (SetTable.grown (ck es (cm p j) (h,x)).size)=32:=by
    rw[l,<- sz,M];rfl
   let⟨q,O,P,Q⟩:=aHV (es:=ck es (cm p j) (h,x)) N (λg F=>by
    rw[Array.toList_map]at F;let⟨e,he,rfl⟩:=D3.mp F;exact d _ e he) (by rw[Array.toList_map];exact f _) 68
   refine .inr ⟨?_,λe he=>?_,λe he=>?_,?_,q,P,.inr ⟨O,Q⟩⟩
   .unfold SetTable.tooFull SetTable.fill;simp[n];omega
   .exact d _ e<|(relayAll_perm ..).mem_iff.mp he
   .exact o _ e<|(relayAll_perm ..).mem_iff.mp he
   .exact((relayAll_perm ..).map (·.1)).symm.nodup (f _)
 .have y:SetTable.has p h.toNat=false:=by
   cases c:SetTable.has p h.toNat with
   |false=>rfl
   |true=>
    let⟨i,hi⟩:=aIU c;have hi:=U7 (by rw[F8];exact hi);rw[v]at hi;let⟨e,he,q⟩:=D3.mp hi;have:=T.bd e he;exact absurd (D3.mpr ⟨e,he,61⟩) r
  have w:=aMf (b:=b) A B y;have C:=WQ R y;have z:=(pN h.toNat R).le;have n:(ck p (cm p h.toNat) h.toNat).size=p.size+1:=EI z
  have sz:p.size=es.size:=by
   have:=Z7 List.length v;rw[A6,D4,D4]at this;exact this
  have S:p.size<=9:=by
   by_cases c:p.size=0
   .omega
   .have a:=aFF R (p.size-1) 61
    have m:p.getD (p.size-1) 0∈p.toList:=by
     rw[E1,L8 61];exact Array.getElem_mem_toList _
    rw[v]at m;let⟨e,he,q⟩:=D3.mp m;have:=T.bd e he;omega
  have L:layNew (t31 b p) es h x=(ck es (cm p h.toNat) (h,x),t31 b<|ck p (cm p h.toNat) h.toNat,false,false):=by
   unfold layNew;rw[w]
   have D:(t31 b<|ck p (cm p h.toNat) h.toNat).fits (ck es (cm p h.toNat) (h,x)).size=true:=by
    unfold SetTable.fits SetTable.fill;rw[l,A9];exact⟨by simp[n,sz],by simp[n];omega⟩
   have pt:(t31 b p).put h.toNat=(t31 b<|ck p (cm p h.toNat) h.toNat,cm p h.toNat):=rfl;dsimp only;rw[pt];unfold SetTable.orStandIn;rw[D];rfl
  rw[L];refine⟨rfl,rfl,.inl ⟨?_,d _,o _,f _,_,C,.inr ⟨rfl,?_⟩⟩⟩
  .unfold SetTable.tooFull SetTable.fill;simp[n];omega
  .rw[sZ,sZ,E3,C6,List.map_take,List.map_drop,v]
structure aOz(prog:Ue)(w:World)(b:Bool)(h:Heap)(a:Uc)(es:Array (Int×Tz))(σ:T6):Prop where
 ob:∃o ep t,h.get? a=Z o/\o.ExactSet/\o.data=.set es ep t/\t.fits es.size=true/\Tp b t es
 el:ElemsOf (intKind prog w) es.toList
 sm:es.size<scanBound
 pm:(es.toList.map λe=>vI e.2).Perm σ
def DT(prog:Ue)(w:World)(b:Bool)(h:Heap)(a:Uc)(σ:T6):Prop:=∃es,aOz prog w b h a es σ
section
variable{prog:Ue}{w:World}{A:Uf}{E:T0}{s:Ub}
def aEg(h:ElemsOf (intKind prog w) es){e:Int×Tz}(a:e∈es):∃t,e.2=.int (vI e.2) t:=by
 let⟨⟨k,b,_⟩,_⟩:=h e a;let⟨t,ht⟩:=Value.isInt_shape b;exact⟨t,by rw[ht];rfl⟩
def aQz(h:(intKind prog w).is k v=true):vI v=k:=by
 let⟨t,ht⟩:=Value.isInt_shape h;rw[ht];rfl
def aEw{h:Heap}{a:Uc}{o:Obj}(b:h.get? a=Z o)(hd:o.data=.set es ep t):(h.update a<|Obj.putSet es' t').get? a=Z { o with data:=.set es' (ep+1) t' }:=by
 have:=L6 (Obj.putSet es' t') b (by rw[putSet_of es' t' hd];rfl);rw[putSet_of es' t' hd]at this;exact this
def VO{k:Int}(a:0<=k)(b:k<9):(intKind prog w).hash k=k:=by
 show hashInt k=k;obtain rfl|rfl|rfl|rfl|rfl|rfl|rfl|rfl|rfl:k=0\/k=1\/k=2\/k=3\/k=4\/k=5\/k=6\/k=7\/k=8:=61
 all_goals decide
def stored{h:Heap}{a:Uc}{o:Obj}{es':Array (Int×Tz)}{t':SetTable}{σ:T6}(f:h.get? a=Z o)(c:o.ExactSet)(hd:o.data=.set es ep t)(el:ElemsOf (intKind prog w) es'.toList)(sm:es'.size<scanBound)(g:t'.fits es'.size=true)(T:Tp b t' es')(pm:(es'.toList.map λe=>vI e.2).Perm σ):
 (h.update a<|Obj.putSet es' t').get? a=Z { o with data:=.set es' (ep+1) t' }/\aOz prog w b (h.update a<|Obj.putSet es' t') a es' σ:=by
 have d:=aEw (es':=es') (t':=t') f hd;exact⟨d,⟨_,_,_,d,c,rfl,g,T⟩,el,sm,pm⟩
def aGg{g:Bool->Sem Unit}(r:∀(c:Bool)(s1:Ub)(n:Unit->Ub->Prop),n () s1->bz (bx prog w) A (g c) n E s1)
 {a:Uc} {o:Obj} {d:Array (Int×Tz)} {t2:SetTable} {σ:T6} {R:Tx Bool->Ub->Prop} (j:s.heap.get? a=Z o) (f:o.ExactSet) (hd:o.data=.set es ep t) (el:ElemsOf (intKind prog w) d.toList) (sm:d.size<scanBound) (u:t2.fits d.size=true) (pm:(d.toList.map λe=>vI e.2).Perm σ)
 (T:(t2.tooFull=false/\Tp b t2 d)\/(t2.tooFull=true/\Tp b (relayAll t2 d<|SetTable.grown d.size).2.1 (relayAll t2 d<|SetTable.grown d.size).1))
 (h:∀h',Heap.SameBut a s.heap h'->DT prog w b h' a σ->R (Z true) { s with heap:=h' }):
 bz (bx prog w) A (do
  storeSet a d t2
  if (!false&&t2.tooFull)=true then do
      g (relayAll t2 d<|SetTable.grown d.size).2.2
      storeSet a (relayAll t2 d<|SetTable.grown d.size).1 (relayAll t2 d<|SetTable.grown d.size).2.1
      pure (Z true)
   else pure (Z true)) R E s:=by
 have p:=U3 s.heap a<|Obj.putSet d t2;refine A1<|wpAny_storeSet_of j hd ?_<|fits_of_scanBound sm;obtain⟨k,T⟩|⟨k,T⟩:=T
 .let⟨l,v⟩:=stored j f hd el sm u T pm;rw[k,B7 66];exact A4<|h _ p ⟨_,v⟩
 .rw[k,A8 66];have l:=aEw (es':=d) (t':=t2) j hd;have i:=relayAll_perm t2 d<|SetTable.grown d.size;have q:=relayAll_fits t2 d<|SetTable.grown d.size;generalize relayAll t2 d (SetTable.grown d.size)=L at i q T ⊢;let⟨m,t3,y⟩:=L
  have sz:m.size<scanBound:=by
   rw[<- D4,i.length_eq,D4];exact sm
  refine A1<|r _ _ _<|A1<|wpAny_storeSet_of l rfl ?_<|fits_of_scanBound sz;let⟨_,x⟩:=stored l f rfl (el.perm i) sz q T<|(i.map _).trans pm;exact A4<|h _ (p.trans<|U3 _ a _) ⟨_,x⟩
def aKY{σ:T6}{k:Int}{Q:Bool->Ub->Prop}(R:0<=k)(S:k<9)(hS:DT prog w b s.heap a σ)(f:σ.length+1<scanBound)
 (h:∀h' r,Heap.SameBut a s.heap h'->DT prog w b h' a (step_dedup σ k)->Q r { s with heap:=h' }):
 bz (bx prog w) A (setAddHashed a (.int k u)<|(intKind prog w).hash k) Q E s:=by
 let⟨es,⟨o,ep,t,v,g,hd,y,T⟩,el,sm,pm⟩:=hS;have d:=intKind_is prog w k u;have i:(Value.int k u).scannable=true:=rfl;have len:es.size=σ.length:=by rw[<- D4,<- pm.length_eq,A6]
 refine E7<|A1<|A2d v hd y ?_;dsimp only;rw[byScan_of i sm el];refine A1<|A1<|A0v<|A1<|wpAny_setScan_of d v hd y el ?_;cases N:List.findIdx? (λe=>(intKind prog w).is k e.2) es.toList with
 |some j=>
  let⟨U,V,_⟩:=List.findIdx?_eq_some_iff_getElem.mp N;have z:=pm.mem_iff.mp<|D3.mpr ⟨_,U9 U,aQz V⟩
  have B:step_dedup σ k=σ:=by
   unfold step_dedup;rw[A8 (U0.mpr ⟨k,z,67⟩)]
  rw[B]at h;refine A4<|A4 ?_;exact h s.heap _ (A2c a s.heap) ⟨es,⟨o,ep,t,v,g,hd,y,T⟩,el,sm,pm⟩
 |none=>
  have l:k∉σ:=λC=>by
   let⟨e,m,q⟩:=D3.mp<|pm.mem_iff.mpr C;have:=List.findIdx?_eq_none_iff.mp N e m;let⟨t',D⟩:=aEg el m;rw[D,q]at this;rw[intKind_is]at this;cases this
  have B:step_dedup σ k=σ++[k]:=by
   unfold step_dedup
   rw[B7 λh=>by
    let⟨x,W,e⟩:=U0.mp h;have:x=k:=68
    exact l (this▸W)]
  rw[B]at h
  have O:∀(c:Bool)(s1:Ub)(F:Unit->Ub->Prop),F () s1->bz (bx prog w) A (match c with|true=>rule "set.scan.the-table-gave-way"|false=>pure ()) F E s1:=λc s1 F q=>by
   cases c
   .exact A4 q
   .exact A0v q
  have n:=layNew_perm t es ((intKind prog w).hash k) (.int k u);have P:=layNew_fits t es ((intKind prog w).hash k) (.int k u);have C:=VO (prog:=prog) (w:=w) R S
  have nk:k∉es.toList.map (·.1):=λhm=>by
   let⟨e,m,q⟩:=D3.mp hm;exact l<|pm.mem_iff.mp<|D3.mpr ⟨e,m,(T.vl e m).trans q⟩
  have lt:=T.lay (x:=.int k u) 61 61 C.symm 68;generalize layNew t es ((intKind prog w).hash k) (.int k u)=L at n P lt ⊢;let⟨p,t1,wd,gv⟩:=L;let⟨rfl,X,lt⟩:=lt;rw[Array.toList_push]at n;have G:=(el.push d i).perm n
  have I:p.size<scanBound:=by
   rw[<- D4,n.length_eq,B6,D4,len];exact f
  have J:(p.toList.map λe=>vI e.2).Perm (σ++[k]):=by
   refine(n.map _).trans ?_;rw[E3];exact pm.append_right _
  refine A1<|O _ _ _ ?_;rw[A8 X];refine A1 ?_;refine A4 ?_;exact aGg O v g hd G I P J lt λh' hb M=>A4<|h h' _ hb M
end
noncomputable abbrev lE(w:World):Bool:=w.params.followText "set-order"
def DT.same{h':Heap}{σ:T6}(S:DT prog w b h a σ)(k:∀o,h.get? a=Z o->h'.get? a=Z o):DT prog w b h' a σ:=by
 let⟨es,⟨o,ep,t,c,r⟩,el,sm,pm⟩:=S;exact⟨es,⟨o,ep,t,k o c,r⟩,el,sm,pm⟩
section
variable{prog:Ue}{w:World}{A:Uf}{E:T0}{s:Ub}
theorem JW{R:Result->Ub->Prop}{I:Uc}{P:Nat->Tz->Prop}{St:Nat->Ub->Prop}(W:WalksS prog w A.in1 I fp q G n P St)(S:Uc)(a:S∉fp)(val:Nat->Int)(c:∀i v,P i v->(∃t,v=.int (val i) t)/\0<=val i/\val i<9)(d:n+1<scanBound):
 ∀(k i:Nat)(s:Ub),n-i=k->i<=n->St i s->DT prog w b s.heap S (firstMet val i)->
  (∀s',Moved (S::q) G s s'->DT prog w b s'.heap S (firstMet val n)->R (.ok (.ret .none)) s')->
  cg (bx prog w) A (.builtin "set.update.loop" ⟨[.ref S,.ref I],[]⟩) R s
 |0=>λi s D hi st hS u=>by
  have x:i=n:=61
  subst x;have y:=λh=>a<|W.sub _ h;refine A0i F.entry_set_update_loop ?_;refine A1 (W.done s _ _ st λs' hm=>?_);exact A4<|u s' (hm.mono λb d=>A7 _ d) (hS.same λo e=>hm.heap S _ y e)
 |k+1=>λi s D hi st hS u=>by
  have f:i<n:=61
  have y:=λh=>a<|W.sub _ h;have sub:∀b∈q,b∈S::q:=λb d=>A7 _ d;refine A0i F.entry_set_update_loop ?_;refine A1 (W.item i s _ _ f st λv s' J z hm=>?_);let⟨⟨t,rfl⟩,L,M⟩:=c i v J;have B:=hS.same λo e=>hm.heap S _ y e;refine A1<|E7 ?_;refine E7<|A1<|(intKind prog w).pyHash (intKind_is _ _ _ _) ?_;have g:(firstMet val i).length+1<scanBound:=by have:=firstMet_length_le val i;omega
  refine aKY L M B g λh' r j l=>?_;rw[<- firstMet_succ]at l;refine A4 ⟨A1s F.plain_set_update_loop _,JW W S a val c d k (i+1) _ 61 f (W.frame _ s' _ _ z (A1i _) λb d o e=>?_) l λC m p=>?_⟩
  .rw[j.2 b (λh:b=S=>a 68)];exact e
  .refine u C (Moved.trans W.gtrans ((hm.mono sub).then_heap (A1i _) λb o d e=>?_) m) p;rw[j.2 b (λh:b=S=>d 68)];exact e
def aCJ(a:Tz){Q1:T0}
 (h:Q1 (.ref s.heap.objs.size) { s with heap:=s.heap.push { cls:=.type "set",dict:=Y,data:=.set #[] 0 (.fresh 0 0 (!lE w)) } }):
 cg (bx prog w) A (.call (.builtin "set.__new__") ⟨[.type "set",a],[]⟩) (wants Q1 E) s:=by
 refine codeAny_of_tree ?_;refine A1<|A2r (F.newCall_set_1 a)<|A4 ⟨A1s F.plain_set_new _,A0i F.entry_set_new ?_⟩;have b:=sub_set_self;let⟨c,g,d,e,os⟩:=s
 wp_walk
 refine A2m<|A4 ?_;refine A1<|wpAny_alloc<|A4 ?_;exact A4 h
end
def slot_si_next:Slot "set_iterator" "__next__" "set_iterator.__next__":=
 .of (owner:="set_iterator") (n:="__next__") (by rw[typeLookup_type,builtinLookup_eq_fast];kernel_rfl) (by decide +kernel) (by decide +kernel) (by decide +kernel)
  (by first|exact .inl (by decide +kernel)|exact .inr (by decide +kernel)) (by rw[isSubtype_type];kernel_rfl)
def vS:entryFor table "set_iterator.__next__"=Z Builtin.«set_iterator.__next__»:=entryFor_of_tree (by kernel_rfl)
def LH:entryFor table "set.__iter__"=Z Builtin.«frozenset.__iter__»:=
 entryFor_alias (id':="frozenset.__iter__") (by kernel_rfl) rfl (by decide +kernel) (by kernel_rfl)
def yI(a:Tz):argsOk "set_iterator.__next__" ⟨[a],[]⟩:=by unfold argsOk;kernel_rfl
def xB(h:Heap)(it a:Uc)(q i n ep:Nat):Prop:=∃o,h.get? it=Z o/\o.cls=.type "set_iterator"/\o.data=.fields #[.int q 0,.int i 0,.ref a,.int n 0,.int ep 0]
def xB.typeIs(h:xB s.heap it a q i n ep):s.TypeIs (.ref it) "set_iterator":=let⟨o,b,c,_⟩:=h;⟨o,b,c⟩
section
variable{prog:Ue}{w:World}{A:Uf}{E:T0}{s:Ub}
def xO{Q:Bool->Ub->Prop}(h:Q (lE w) s):bz (bx prog w) A setsByText Q E s:=by
 exact A1<|A2m<|A4 h
def vM{a:Uc}{o:Obj}{i:Nat}{Q:Tx (Tz×Nat)->Ub->Prop}(nt:lE w=false)(e:s.heap.get? a=Z o)(hd:o.data=.set es ep t)(f:t.fits es.size=true)(d:t.led=true)(k:t.plain=true)(bl:cm t.place q=i)(h:Q (match es[i]?,t.place[i]? with|some (_,x),some j=>Z (x,j+1)|_,_=>Y) s):bz (bx prog w) A (setNext a q g b) Q E s:=by
 refine A1<|A2d e hd f ?_;refine A1<|xO ?_;rw[nt,B7 66];split
 .rename_i c;have c:(!t.plain&&decide (es.size > 1))=true:=c;rw[k]at c;cases c
 .refine A1 ?_;show bz _ _ (if (!t.led&&!es.isEmpty)=true then unsupported "set:maker-not-led" else pure ()) _ _ _;rw[d,B7 67];refine A4 ?_;rw[bl];exact A4 h
def RD{a:Uc}{o:Obj}{Q:Array (Int×Tz)->Ub->Prop}(nt:lE w=true)(b:s.heap.get? a=Z o)(hd:o.data=.set es ep t)(c:t.fits es.size=true)(h:Q (pickOrder (w.params.setOrder a ep) es) s):bz (bx prog w) A (setWalk a) Q E s:=by
 refine A1<|A2d b hd c ?_;refine A1<|xO ?_;rw[nt];exact A1<|A2m<|A4 h
theorem YQ{c:Type}{next:Nat->Nat}:∀(fuel k:Nat)(left:Tv c)(b:Array c),left.length=fuel->(pickOrder.go next fuel k left b).toList.Perm (b.toList++left)
 |0=>λk left b h=>by
  have:left=[]:=List.length_eq_zero_iff.mp h;subst this;rw[J8];exact List.Perm.refl _
 |fuel+1=>λk left b h=>by
  have d:next k % left.length<left.length:=Nat.mod_lt _ 61;unfold pickOrder.go;rw[C0 d];refine(YQ fuel (k+1) _ _ 68).trans ?_;rw[Array.toList_push,L7];refine List.Perm.append_left _ ?_;rw[List.eraseIdx_eq_take_drop_succ];have pm:=(List.perm_middle (a:=left[next k % left.length]) (l₁:=left.take (next k % left.length)) (l₂:=left.drop (next k % left.length+1))).symm;rw[<- S5 d,List.take_append_drop]at pm;exact pm
def zN{a:Type}(next:Nat->Nat)(xs:Array a):(pickOrder next xs).toList.Perm xs.toList:=by
 have:=YQ (next:=next) xs.size 0 xs.toList #[] rfl;simpa[pickOrder]using this
end
section
variable{prog:Ue}{w:World}{A:Uf}{E:T0}{s:Ub}
def aKg{i b:Nat}(c:xB h it a q i n ep):xB ((h.update it (Obj.mapFields (·.setIfInBounds 0 (rawInt b)))).update it (Obj.mapFields (·.setIfInBounds 1 (rawInt ((i:Int)+1))))) it a b (i+1) n ep:=by
 let⟨o,f,g,hd⟩:=c;have d:=S9 hd (·.setIfInBounds 0 (rawInt b));have j:=L6 (Obj.mapFields (·.setIfInBounds 0 (rawInt b))) f<|A0a d;have e:=S9 d (·.setIfInBounds 1 (rawInt ((i:Int)+1)));have k:=L6 (Obj.mapFields (·.setIfInBounds 1 (rawInt ((i:Int)+1)))) j<|A0a e;refine⟨_,k,(A2b ..).trans ((A2b ..).trans g),?_⟩;rw[e];simp[rawInt]
def ZH{e:Nat}{o:Obj}{x:Tz}{Q:Tf->Ub->Prop}(b:xB s.heap it a q i n ep)(h:s.heap.get? a=Z o)(hd:o.data=.set es f t)(j:t.fits es.size=true)(hn:es.size=n)
 (nx:∀(A:Uf)(E:T0)(Q:Tx (Tz×Nat)->Ub->Prop),Q (Z (x,e)) s->bz (bx prog w) A (setNext a q i ep) Q E s)
 (k:∀h',xB h' it a e (i+1) n ep->Heap.SameBut it s.heap h'->Q (Z x) { s with heap:=h' }):bz (bx prog w) A (pyNext (.ref it)) Q E s:=by
 let⟨p,c,l,d⟩:=id b;have g:=S9 d (·.setIfInBounds 0 (rawInt e));have m:=L6 (Obj.mapFields (·.setIfInBounds 0 (rawInt e))) c<|A0a g;refine A1<|A1j<|J9 b.typeIs slot_si_next<|F7 slot_si_next b.typeIs vS ?_<|yI _;refine A1<|A4 ?_;refine A1<|wpAny_fieldsOf c d ?_;refine A1<|wpAny_setEntries_of h hd j ?_;have ne:(((es.size:Nat):Int) != (n:Int))=false:=68
 rw[ne,B7 66];refine A1<|nx _ _ _ ?_;refine A1<|Z8 c d 67 ?_;refine A1<|Z8 m g 67 ?_;exact A4 ⟨x,rfl,A4<|k _ (aKg b)<|(U3 ..).trans (U3 ..)⟩
def aBZ{o:Obj}{Q:Tf->Ub->Prop}(f:A.handled=Y)(b:xB s.heap it a q i n ep)(g:s.heap.get? a=Z o)(hd:o.data=.set es e t)(h:t.fits es.size=true)(hn:es.size=n)
 (nx:∀(A:Uf)(E:T0)(Q:Tx (Tz×Nat)->Ub->Prop),Q Y s->bz (bx prog w) A (setNext a q i ep) Q E s)
 (j:∀h',Heap.ExtBut it s.heap h'->Q Y { s with heap:=h' }):bz (bx prog w) A (pyNext (.ref it)) Q E s:=by
 let⟨l,c,k,d⟩:=id b;refine A1<|A1j<|J9 b.typeIs slot_si_next<|F7 slot_si_next b.typeIs vS ?_<|yI _;refine A1<|A4 ?_;refine A1<|wpAny_fieldsOf c d ?_;refine A1<|wpAny_setEntries_of g hd h ?_;have ne:(((es.size:Nat):Int) != (n:Int))=false:=68
 rw[ne,B7 66];refine A1<|nx _ _ _ ?_;refine A1<|Z8 c d 67<|A1 ?_;refine A1<|D6 (A1<|A2r rfl<|D6 ?_ (by size_fits)) (by size_fits);refine A1<|wpAny_handled ?_;rw[show A.in1.handled=Y from f];refine A1<|A4<|wpAny_throw ?_;refine A1<|A1a ⟨_,B5 _ rfl,rfl⟩ isSubtype_stop ?_;exact A4<|j _<|((U3 ..).extBut.push _).push _
def TZ{a:Uc}{o:Obj}{Q:Bool->Ub->Prop}(b:s.heap.get? a=Z o)(hd:o.data=.set es ep t)(c:t.fits es.size=true)(d:lE w=true\/t.plain=true)(h:Q false s):bz (bx prog w) A (setDrawn a) Q E s:=by
 refine A1<|A2d b hd c ?_;refine A1<|xO<|A4 ?_;show Q (!lE w&&(!t.plain&&decide (es.size > 1))) s;obtain e|e:=d
 .rw[e];exact h
 .rw[e,Bool.not_true,A0u,Bool.and_false];exact h
def WU{a:Uc}{o:Obj}{Q:T0}(b:s.heap.get? a=Z o)(d:o.ExactSet)(hd:o.data=.set es ep t)(c:t.fits es.size=true)(e:lE w=true\/t.plain=true)
 (h:Q (.ref s.heap.objs.size) { s with heap:=s.heap.push { cls:=.type "set_iterator",data:=.fields #[.int 0 0,.int 0 0,.ref a,.int es.size 0,.int ep 0] } }):bz (bx prog w) A (pyIter (.ref a)) Q E s:=by
 have ty:s.TypeIs (.ref a) "set":=⟨o,b,d.1⟩;refine wpAny_pyIter_slot ty F.slot_set_iter<|F7 F.slot_set_iter ty LH ?_<|F.args_set_iter_1 _;refine A1<|A1<|A4 ?_;refine A4 ?_;refine A1<|A1<|wpAny_setEntries_of b hd c<|A4 ?_;refine A1<|TZ b hd c e ?_;refine A1<|A4 ?_;refine A1<|wpAny_setEpoch_of b hd c ?_;refine A1<|D6<|A4 ⟨_,rfl,_,_,⟨_,B5 _ rfl,rfl⟩,slot_si_next.lookup,?_⟩;exact h
end
def xN:Slot "set_iterator" "__iter__" "set_iterator.__iter__":=
 .of (owner:="set_iterator") (n:="__iter__") (by rw[typeLookup_type,builtinLookup_eq_fast];kernel_rfl) (by decide +kernel) (by decide +kernel) (by decide +kernel)
  (by first|exact .inl (by decide +kernel)|exact .inr (by decide +kernel)) (by rw[isSubtype_type];kernel_rfl)
def ID:entryFor table "set_iterator.__iter__"=Z Builtin.«dict_keyiterator.__iter__»:=
 entryFor_alias (id':="dict_keyiterator.__iter__") (by kernel_rfl) rfl (by decide +kernel) (by kernel_rfl)
def KO(a:Tz):argsOk "set_iterator.__iter__" ⟨[a],[]⟩:=by unfold argsOk;kernel_rfl
section
variable{prog:Ue}{w:World}{A:Uf}{E:T0}{s:Ub}
def WN{Q:T0}(b:xB s.heap it a q i n ep)(h:Q (.ref it) s):bz (bx prog w) A (pyIter (.ref it)) Q E s:=by
 refine wpAny_pyIter_slot b.typeIs xN<|F7 xN b.typeIs ID ?_<|KO _;exact A4 ⟨_,rfl,"set_iterator",_,b.typeIs,slot_si_next.lookup,h⟩
def xB.at{h':Heap}(x:xB h it a q i n ep)(k:∀o,h.get? it=Z o->h'.get? it=Z o):xB h' it a q i n ep:=let⟨o,b,r⟩:=x;⟨o,k o b,r⟩
def BM{a:Uc}{o:Obj}{q g:Nat}{Q:Tx (Tz×Nat)->Ub->Prop}(nt:lE w=true)(b:s.heap.get? a=Z o)(hd:o.data=.set es ep t)(c:t.fits es.size=true)(h:Q (((pickOrder (w.params.setOrder a ep) es)[g]?).map λe=>(e.2,q)) s):bz (bx prog w) A (setNext a q g ep) Q E s:=by
 refine A1<|A2d b hd c ?_;refine A1<|xO ?_;rw[nt,A8 rfl,B7 67];exact A1<|RD nt b hd c<|A4 h
def aCU(hh:A.handled=Y){I a:Uc}{o:Obj}(ne:a≠I)(nt:lE w=true)(hd:o.data=.set es ep t)(hf:t.fits es.size=true):
 Walks prog w A I [I,a] [I] es.size (λi v=>((pickOrder (w.params.setOrder a ep) es)[i]?).map (·.2)=Z v) (λi h=>xB h I a 0 i es.size ep/\h.get? a=Z o) where
 sub:=λb hb=>by simp at hb;simp[hb]
 frame:=λ_ _ _ st hk=>⟨st.1.at λo e=>hk I 67 o e,hk a 67 o st.2⟩
 item:=λi s Q E hi st hQ=>by
  have sz:(pickOrder (w.params.setOrder a ep) es).size=es.size:=by rw[<- D4,(zN _ _).length_eq,D4]
  have hx:(pickOrder (w.params.setOrder a ep) es)[i]?=Z (pickOrder (w.params.setOrder a ep) es)[i]:=L8 61;refine ZH st.1 st.2 hd hf rfl (λA E Q h=>BM nt st.2 hd hf (by rw[hx];exact h)) λh' x sb=>?_;exact hQ _ h' s.toks 68 ⟨x,sb.extBut a o ne st.2⟩ λb o hb e=>sb.extBut b o (λh=>hb (by simp[h])) e
 done:=λs Q E st hQ=>by
  have sz:(pickOrder (w.params.setOrder a ep) es).size=es.size:=by rw[<- D4,(zN _ _).length_eq,D4]
  have hx:(pickOrder (w.params.setOrder a ep) es)[es.size]?=Y:=A0x 61;exact aBZ hh st.1 st.2 hd hf rfl (λA E Q h=>BM nt st.2 hd hf (by rw[hx];exact h)) λh' he=>hQ h' s.toks λb o hb e=>he b o (λh=>hb (by simp[h])) e
 self:=λ_ _ _ _ st hQ=>WN st.1 hQ
def WK(hh:A.handled=Y){I a:Uc}{o:Obj}(ne:a≠I)(nt:lE w=false)(hd:o.data=.set es ep t)(hf:t.fits es.size=true)(led:t.led=true)(pl:t.plain=true)(R:Rsg t.place):
 Walks prog w A I [I,a] [I] es.size (λi v=>(es[i]?).map (·.2)=Z v) (λi h=>∃q,cm t.place q=i/\xB h I a q i es.size ep/\h.get? a=Z o) where
 sub:=λb hb=>by simp at hb;simp[hb]
 frame:=λ_ _ _ st hk=>let⟨q,e,x,y⟩:=st;⟨q,e,x.at λo e=>hk I 67 o e,hk a 67 o y⟩
 item:=λi s Q E hi st hQ=>by
  let⟨q,bl,x,y⟩:=st
  have ps:t.place.size=es.size:=by
   unfold SetTable.fits at hf;rw[A9]at hf;exact C8 68
  have hx:=L8 hi;have hp:t.place[i]?=Z t.place[i]:=L8 61;refine ZH x y hd hf rfl (λA E Q h=>vM nt y hd hf led pl bl (by rw[hx,hp];exact h)) λh' x' sb=>?_
  have nb:cm t.place (t.place[i]+1)=i+1:=by
   have:=WE R (i:=i) 61;rw[E1,hp]at this;exact this
  exact hQ _ h' s.toks 68 ⟨_,nb,x',sb.extBut a o ne y⟩ λb o hb e=>sb.extBut b o (λh=>hb (by simp[h])) e
 done:=λs Q E st hQ=>by
  let⟨q,bl,x,y⟩:=st;have hx:es[es.size]?=Y:=A0x<|B3 _;exact aBZ hh x y hd hf rfl (λA E Q h=>vM nt y hd hf led pl bl 68) λh' he=>hQ h' s.toks λb o hb e=>he b o (λh=>hb (by simp[h])) e
 self:=λ_ _ _ _ st hQ=>let⟨_,_,x,_⟩:=st;WN x hQ
end
abbrev kJ(w:World):Obj:={ cls:=.type "set",dict:=Y,data:=.set #[] 0 (.fresh 0 0 (!lE w)) }
section
variable{prog:Ue}{w:World}{A:Uf}{E:T0}{s:Ub}
def aDT{x:Tz}{Q:T0}
 (hi:bz (bx prog w) A.in1.in1 (Builtin.«set.__init__» ⟨[.ref s.heap.objs.size,x],[]⟩) (λa s'=>a=.done (.ret .none)/\Q (.ref s.heap.objs.size) s') 75 { s with heap:=s.heap.push (kJ w) }):
 bz (bx prog w) A (call (.type "set") [x]) Q E s:=by
 have TC:=F.called_set;let⟨g,d,i⟩:=TC.mro;have j:=TC.made;have k:=TC.sub;have l:=TC.notType;have m:=TC.canCreate;have n:=F.typeCall_set_1 x;refine wpAny_call<|codeAny_of_tree (?_:bz _ _ (callAny (.type "set") _) _ _ _);refine A4 ⟨Code.quiet_builtin _ 67,A0i F.entry_type_call ?_⟩
 repeat any_goals first|assumption|wp_step
 refine A1d (aCJ (E:=E) x (Q1:=λv s1=>v=.ref s.heap.objs.size/\s1={ s with heap:=s.heap.push (kJ w) }) ⟨rfl,rfl⟩) λr s1 c=>?_;obtain e|fl:=r
 .exact c
 obtain _|_|_|v:=fl
 all_goals first|(exact False.elim c)|skip
 let⟨rfl,rfl⟩:=c;have ty:Shared.TypeIs { s with heap:=s.heap.push (kJ w) } (.ref s.heap.objs.size) "set":=⟨_,B5 _ rfl,rfl⟩;have o:=TC.init.lookup;have p:=TC.init.bind (.ref s.heap.objs.size)
 repeat any_goals first|assumption|wp_step
 refine A1d (codeAny_call_builtin (R:=wants (λr s'=>r=.none/\Q (.ref s.heap.objs.size) s') λ_ _=>False) TC.init.plain F.entry_set_init<|check_set_init_1 ty ?_) λf s2 b=>?_
 .refine C7 hi (λa s' h=>?_) λ_ _ h=>h;let⟨rfl,h⟩:=h;exact⟨rfl,h⟩
 .obtain e|fl:=f
  .exact False.elim b
  obtain _|_|_|v:=fl
  all_goals first|(exact False.elim b)|skip
  let⟨rfl,b⟩:=b
  repeat any_goals first|assumption|wp_step
end
section
variable{prog:Ue}{w:World}{A:Uf}{E:T0}{s:Ub}
def QF{S l:Uc}{items:Ti}{val:Nat->Int}{St:Nat->Heap->Prop}{Q:Ub->Prop}
 (hS:s.heap.get? S=Z (kJ w)) (c:S≠l) (ty:s.TypeIs (.ref l) T) (f1:isSubtype (.type T) (.type "set")=pure false) (f2:isSubtype (.type T) (.type "frozenset")=pure false) (u:(Value.type T==Value.type "dict")=false)
 (it:∀(A:Uf)(E:T0)(Q:T0),Q (.ref s.heap.objs.size) { s with heap:=s.heap.push j }->bz (bx prog w) A (pyIter (.ref l)) Q E s)
 (W:Walks prog w A.in1 s.heap.objs.size [s.heap.objs.size,l] [s.heap.objs.size] items.size (λi v=>items[i]?=Z v) St) (st:St 0 (s.heap.push j))
 (a:∀(i:Nat)(v:Tz),items[i]?=Z v->(∃t,v=.int (val i) t)/\0<=val i/\val i<9) (d:items.size+1<scanBound)
 (h:∀(h':Heap)(k:Nat),DT prog w (!lE w) h' S (firstMet val items.size)->(∀b o,b≠S->s.heap.get? b=Z o->h'.get? b=Z o)->Q { s with heap:=h',toks:=k }):
 bz (bx prog w) A (Builtin.«set.__init__» ⟨[.ref S,.ref l],[]⟩) (λf s'=>f=.done (.ret .none)/\Q s') 75 s:=by
 have m:=B2 hS;unfold Builtin.«set.__init__» noKeywords Builtin.Frozenset.updateFrom;generalize n:@pyIter=PI
 wp_walk using A1e ty,A1a ty f1,A1a ty f2
 subst n;refine it _ _ _<|A1<|wpAny_runValue ?_
 have ne:S∉[s.heap.objs.size,l]:=λhm=>by
  obtain e|hm:=C1.mp hm
  .exact C2 m e
  .exact c<|B4.mp hm
 refine JW W.toS S ne val a d items.size 0 _ rfl (E6 _) st ⟨#[],⟨_,0,_,A3 _ hS,⟨rfl,rfl,rfl⟩,rfl,by rfl,Tp.fresh _⟩,(λe p=>by simp at p),66,List.Perm.refl _⟩ λs' hm g=>?_;have es:=Moved.eq_with hm;rw[es];refine A4<|A4 ⟨rfl,h _ _ g λb o d e=>hm.heap b o (λr=>?_)<|A3 _ e⟩;obtain q|q:=C1.mp r
 .exact d q
 .have:=B2 e;rw[B4.mp q]at this;exact Y5 _ this
def YK(h:Heap)(l:Uc)(items:Ti)(ns:T6):Prop:=(h.IsList l items\/h.IsTuple l items)/\IntsAre items.toList ns/\(∀n∈ns,0<=n/\n<9)/\ns.length<1000
def aEQ{Q:T0}(m:A.handled=Y)(n:YK s.heap l items ns)
 (h:∀(h':Heap)(d:Nat),DT prog w (!lE w) h' s.heap.objs.size (firstMet (λi=>ns.getD i 0) ns.length)->(∀b o,s.heap.get? b=Z o->h'.get? b=Z o)->Q (.ref s.heap.objs.size) { s with heap:=h',toks:=d }):
 bz (bx prog w) A (call (.type "set") [.ref l]) Q E s:=by
 let⟨p,hi,hn,r⟩:=n;have sz:items.size=ns.length:=by rw[<- D4];exact hi.length
 have f:A.in1.in1.in1.handled=Y:=m
 have c:∀(i:Nat)(v:Tz),items[i]?=Z v->(∃t,v=.int (ns.getD i 0) t)/\0<=ns.getD i 0/\ns.getD i 0<9:=λi v q=>by
  have lt:i<ns.length:=by
   rw[<- sz];exact(A0j.mp q).1
  refine⟨IntsAre.int_at hi i v 68,hn _ ?_⟩;rw[D9,C0 lt];exact U9 lt
 have new:(s.heap.push<|kJ w).get? s.heap.objs.size=Z (kJ w):=B5 _ rfl;have kp:∀b o,s.heap.get? b=Z o->(s.heap.push<|kJ w).get? b=Z o:=λb o e=>A3 _ e;have bd:items.size+1<scanBound:=by unfold scanBound;omega
 rw[<- sz]at h;refine aDT ?_;obtain hl|hl:=p
 .have lt:l<s.heap.objs.size:=by let⟨o,g,_⟩:=hl;exact B2 g
  have a:(s.heap.push<|kJ w).IsList l items:=hl.push _;exact QF new (O1 lt) a.typeIs F.sub_list_set F.sub_list_frozenset 66 (λA E Q h=>wpAny_pyIter_list a h) (Walks.list f _ l (by rw[S3];exact C2<|Nat.lt_succ_of_lt lt) items) ⟨⟨_,B5 _ rfl,rfl,rfl⟩,a.push _⟩ c bd λh' d j k=>h h' d j λb o e=>k b o (C2<|B2 e)<|kp b o e
 .have lt:l<s.heap.objs.size:=by let⟨o,g,_⟩:=hl;exact B2 g
  have a:=hl.at λo e=>kp _ o e;exact QF new (O1 lt) a.typeIs F.sub_tuple_set F.sub_tuple_frozenset 66 (λA E Q h=>A1g a h) (Walks.tuple f _ l (by rw[S3];exact C2<|Nat.lt_succ_of_lt lt) items) ⟨⟨_,B5 _ rfl,rfl,rfl⟩,a.at λo e=>A3 _ e⟩ c bd λh' d j k=>h h' d j λb o e=>k b o (C2<|B2 e)<|kp b o e
def aDU{Q:Bool->Ub->Prop}(ty:s.TypeIs (.ref r) "set")(h:Q false s):bz (bx prog w) A (Builtin.List.listLengthHint (.ref r)) Q E s:=by
 refine A1<|wpAny_specialOf ty F.slot_set_len.lookup ?_;generalize d:("set.__len__":String)=sl
 wp_delta
 have sp:splitId sl=Z ("set","__len__"):=by subst d;decide +kernel
 rw[sp];subst d;refine A1<|A1a (b:=true) ty rfl (wpAny_ite_split (λc=>absurd c 66) λ_=>wpAny_ite_split (λ_=>?_) λc=>absurd rfl c);exact A1<|A1e ty<|A4 h
def aIq{a:Uc}{o:Obj}(c:o.ExactSet)(hd:o.data=.set es ep t)(d:t.fits es.size=true)(T:Tp (!lE w) t es):
 ∃us:T4,us.Perm (es.toList.map (·.2))/\PySem.W.KdlSrc prog w "set" a a es.size (λi v=>us[i]?=Z v) (λh=>h.get? a=Z o):=by
 let⟨g,l,R⟩:=T.plain
 have base:∀us:T4,(∀(A:Uf)(s:Ub),A.handled=Y->s.heap.get? a=Z o->∃(j:Obj)(St:Nat->Heap->Prop),(∀(E:T0)(Q:T0),Q (.ref s.heap.objs.size) { s with heap:=s.heap.push j }->bz (bx prog w) A (pyIter (.ref a)) Q E s)/\Walks prog w A s.heap.objs.size [s.heap.objs.size,a] [s.heap.objs.size] es.size (λi v=>us[i]?=Z v) St/\St 0 (s.heap.push j))->PySem.W.KdlSrc prog w "set" a a es.size (λi v=>us[i]?=Z v) (λh=>h.get? a=Z o):=λus it=>
  ⟨λs b=>⟨o,b,c.1⟩,λh b=>⟨B2 b,B2 b⟩,λh h' b k=>k a (.inl rfl) o b,66,66,λA E s Q b q=>aDU ⟨o,b,c.1⟩ q,it⟩
 cases nt:lE w with
 |true=>
  refine⟨((pickOrder (w.params.setOrder a ep) es).toList.map (·.2)),(zN _ _).map _,base _ λA s f b=>?_⟩;have W:=aCU (prog:=prog) f (C2<|B2 b) nt hd d;refine⟨_,λi h=>xB h s.heap.objs.size a 0 i es.size ep/\h.get? a=Z o,λE Q q=>WU b c hd d (.inl nt) q,?_,⟨_,B5 _ rfl,rfl,rfl⟩,A3 _ b⟩
  have e:(λ(i:Nat)(v:Tz)=>((pickOrder (w.params.setOrder a ep) es).toList.map (·.2))[i]?=Z v)=λi v=>((pickOrder (w.params.setOrder a ep) es)[i]?).map (·.2)=Z v:=by
   funext i v;rw[D7,F8]
  rw[e];exact W
 |false=>
  refine⟨es.toList.map (·.2),.refl _,base _ λA s f b=>?_⟩;have W:=WK (prog:=prog) f (C2<|B2 b) nt hd d 68 g R;refine⟨_,λi h=>∃q,cm t.place q=i/\xB h s.heap.objs.size a q i es.size ep/\h.get? a=Z o,λE Q q=>WU b c hd d (.inr g) q,?_,0,WI R,⟨_,B5 _ rfl,rfl,rfl⟩,A3 _ b⟩
  have e:(λ(i:Nat)(v:Tz)=>(es.toList.map (·.2))[i]?=Z v)=λi v=>(es[i]?).map (·.2)=Z v:=by
   funext i v;rw[D7,F8]
  rw[e];exact W
end
noncomputable def iN(ns:T6):T6:=ns.foldl step_dedup []
def pV(ns:T6):firstMet (λi=>ns.getD i 0) ns.length=iN ns:=by
 unfold firstMet iN;congr 1;refine A1t λi=>?_;rw[D7];by_cases h:i<ns.length
 .rw[A2i h,C0 h];simp[h]
 .rw[A0n 68,A0n 61];rfl
section
variable{X:Cx}{a:Ud}{ta:TA}{p p' pos pos':Pos}
def aCp{Q:VK}(O:X.calm=true)(I:Inv X cp σ H s)(hS:DT X.prog X.w (!lE X.w) s.heap c ms)(P:ms.length<64)
 (q:∀l,H l=Y->Q (.ref l) (upd H l (.lst ((bK ms).map .int)))):bz (bx X.prog X.w) X.A (call (.builtin "sorted") [.ref c]) (λv s'=>∃x H',Inv X cp σ H' s'/\RelV x v/\Q x H') X.xe s:=by
 let⟨es,⟨o,ep,t,R,S,hd,U,T⟩,el,sm,pm⟩:=hS;let⟨us,k,n⟩:=aIq S hd U T;let⟨m,F⟩:=I.fr;have N:News X.base X.env.locals s.heap (qS X.base s.heap X.env.locals):=RB;have len:es.size=ms.length:=by rw[<- D4,<- pm.length_eq,A6]
 have ul:us.length=es.size:=by rw[k.length_eq,A6,D4]
 refine W.kdu_sorted n (I.ok.hd O) F N R (by rw[len,J7];omega) λD h' tk ws F' N' E G hw=>?_
 have wu:ws=us:=by
  refine A1t λi=>?_;cases e:ws[i]? with
  |some v=>exact(hw i v e).symm
  |none=>
   have:=List.getElem?_eq_none_iff.mp e;rw[A0n 61]
 subst wu
 have hi:IntsAre ws (ws.map vI):=XD 67 λj v i J L=>by
  rw[D7,J]at L;cases L;let⟨e,he,rfl⟩:=D3.mp<|k.mem_iff.mp<|U7 J;exact aEg el he
 have r:(ws.map vI).Perm ms:=by
  refine(k.map vI).trans ?_;rw[J0];exact pm
 refine W.ksk_lsort F' N' (λo=>.head λp hp=>C2<|E p hp) 67 hi 68 λu a0 c' f g d y _ B pw _=>?_
 have h:s.heap.get? D=Y:=by
  have M:=d _ B0;cases e:s.heap.get? D with
  |none=>rfl
  |some o=>exact absurd (E (D,o)<|nN M.2.1 M.2.2 e)<|Y5 _
 have kp:∀b o,b≠X.env.locals->s.heap.get? b=Z o->f.get? b=Z o:=λb o hb e=>by
  cases z:X.base.get? b with
  |some v=>
   have:=I.bk b v z;rw[e]at this;cases this;exact g.keep b _ z
  |none=>exact(d (b,o)<|A7 _<|nN hb z e).1
 have eq:=lP pw (eL ms)<|(B.trans r).trans (cN ms).symm;subst eq;have hz:((bK ms).map V.int).length<=bv:=by rw[A6,(cN ms).length_eq,J7];omega
 have I2:Inv X cp σ (upd H D (.lst ((bK ms).map .int))) { s with heap:=f }:=I.laidL kp (λm' C=>by rw[<- YS F.ns C];exact g.ns) h ⟨hz,u,c',JV y,(d _ B0).1⟩;exact⟨.ref D,_,I2.tok tk,rfl,q D<|I.hok.none h⟩
def aEe(K:Fg)(ta:TA):TE:=λσ H Q=>ta σ H λvs b=>∃(p:Uc)(ns:T6),vs=[.ref p]/\(SqL K b p (ns.map .int)\/SqT K b p (ns.map .int))/\(∀n∈ns,0<=n/\n<9)/\ns.length<64/\∀l,b l=Y->Q (.ref l) (upd b l (.lst ((bK<|iN ns).map .int)))
def aIN(ns:T6):(iN ns).length<=ns.length:=by
 rw[<- pV];exact firstMet_length_le _ _
def aGW(k:X.calm=true)(m:Gl X "set")(hm:X.mg "set"=Y)(d:Gl X "sorted")(f:X.mg "sorted"=Y)(ha:PA X [a] ta)(hs:cb [a] X.env=[(false,eval a X.env)]):
 PE X (.Call (.Name "sorted" p) [.Call (.Name "set" p') [a] [] pos'] [] pos) (aEe X.K ta):=by
 intro cp s σ H Q I h;refine Z0<|iI I d f (u:=.builtin "sorted") rfl ?_ 66 66;refine A1y ?_ pQ rfl;refine A1w ?_;refine Call_<|iI I m hm (u:=.type "set") rfl<|F9 (thn (ha pos' cp s σ H _ I h) λus s1 ⟨vs,y,c,n,o⟩=>?_) hs rfl;let⟨j,ns,e,sq,hn,t,q⟩:=o;subst e;cases n with
 |cons r v=>
  cases v;cases r
  have sm:∃b,YK s1.heap j b ns:=by
   obtain sq|sq:=sq
   .let⟨its,g,i,w⟩:=c.list sq;exact⟨its.toArray,.inl i.isList,by simpa using intsAre_of g,hn,61⟩
   .let⟨its,g,i,w⟩:=c.tuple sq;exact⟨its.toArray,.inr i,by simpa using intsAre_of g,hn,61⟩
  let⟨b,sm⟩:=sm;refine aEQ (c.ok.hd k) sm λh' z l x=>A1z ?_;rw[pV]at l;exact aCp k (c.kept x) l (by have:=aIN ns;omega) q
end
noncomputable def FF(ns:T6):Bool:=ns.all λn=>decide (0<=n)&&decide (n<9)
def aBp(h:FF ns=true):∀n∈ns,0<=n/\n<9:=λn hn=>by
 have:=C3.mp h n hn;simpa using this
section
variable{K:Fg}{tA:TA}{fa:AF}
def FO(ds:T3)(M:Sto):Tx (CD×Sto):=(mC ds).bind λns=>if FF ns=true/\ns.length<64 then Z (.d (.list ((bK<|iN ns).map .int)),M)else Y
def wB(f:AF):EF:=λa M=>(f a M).bind λr=>match r.1 with
 |[.d (.list ds)]=>FO ds r.2
 |[.d (.tuple ds)]=>FO ds r.2
 |_=>Y
def aHn(b:SA K tA fa):SE K (aEe K tA) (wB fa):=by
 intro w M x M' a W H σ Q G R k;let⟨⟨y,M1⟩,o,a⟩:=aH a;refine b _ _ _ _ o W H σ _ G R λvs j g q m c=>?_
 have f:∀(ds:T3)(p:Uc)(us:Td),FO ds M1=Z (x,M')->aL K j.F ds us->vs=[.ref p]->(SqL K j.F p us\/SqT K j.F p us)->∃(p:Uc)(ns:T6),vs=[.ref p]/\(SqL K g p (ns.map .int)\/SqT K g p (ns.map .int))/\(∀n∈ns,0<=n/\n<9)/\ns.length<64/\∀l,g l=Y->Q (.ref l) (upd g l (.lst ((bK<|iN ns).map .int))):=λds p us hs d r e=>by
  let⟨ns,t,hs⟩:=aH hs;by_cases i:FF ns=true/\ns.length<64
  .rw[A8 i]at hs;cases hs;rw[uG t]at d;rw[kF d]at e;refine⟨p,ns,r,e.imp (λh=>m.fh.seq h) λh=>m.fh.seqT h,aBp i.1,i.2,λl u=>?_⟩;let⟨v,G2⟩:=m.lay u;exact k _ _ _ (q.trans v) G2 ⟨l,_,rfl,SqL.of aS,aFc _⟩
  .rw[B7 i]at hs;cases hs
 revert a;dsimp only;split
 .rename_i ds;intro a;obtain _|⟨c,_|_⟩:=c;let⟨p,us,rfl,e,d⟩:=c;exact f ds p us a d rfl (.inl e)
 .rename_i ds;intro a;obtain _|⟨c,_|_⟩:=c;let⟨p,us,rfl,e,d⟩:=c;exact f ds p us a d rfl (.inr e)
 .intro a;cases a
def MJ{ι:Type}{X:ι->Cx}{a:Ud}{p p' pos pos':Pos}(d:∀i,(X i).K=K)(e:∀i,(X i).calm=true)(hm:∀i,(X i).mg "set"=Y)(b:∀i,(X i).mg "sorted"=Y)(x:MA K X [a] fa)(f:∀i,Gl (X i) "set":=by intro _;rfl)(c:∀i,Gl (X i) "sorted":=by intro _;rfl):
 ME K X (.Call (.Name "sorted" p) [.Call (.Name "set" p') [a] [] pos'] [] pos) (wB fa):=by
 let⟨t,g,h⟩:=x.ex
 exact⟨aEe K t,λi=>by
  have:=aGW (p:=p) (p':=p') (pos:=pos) (pos':=pos') (e i) (f i) (hm i) (c i) (b i) (g i) (x.st.1 _);rw[d i]at this;exact this,aHn h⟩
end
end L2
namespace PySem
section
variable{prog:Ue}{w:World}{A:Uf}{E:T0}{s:Ub}
structure NB(z TO i1 i2 l:Uc):Prop where
 z:l≠z
 o:l≠TO
 a:l≠i1
 b:l≠i2
section
variable{z TI TO i1 i2 l1 l2:Uc}{k n1 n2:Nat}{P1 P2:Nat->Tz->Prop}{S1 S2:Nat->Heap->Prop}{a b:Tz}
def aJh{Q:T0}(D:L2.Apart5 z TI TO i1 i2)(f1:NB z TO i1 i2 l1)(f2:NB z TO i1 i2 l2)(B:Draws prog w A i1 [i1,l1] n1 P1 S1)(C:Draws prog w A i2 [i2,l2] n2 P2 S2)
 (d:IsZip s.heap z TI TO .none) (T:IsPair s.heap TI (.ref i1) (.ref i2)) (U:IsPair s.heap TO a b) (t1:S1 k s.heap) (t2:S2 k s.heap) (V:k<n1) (W:k<n2)
 (X:∀h' tk x y,P1 k x->P2 k y->IsZip h' z TI TO (rawInt s.heap.objs.size)->IsPair h' TO x y->S1 (k+1) h'->S2 (k+1) h'->IsPair h' s.heap.objs.size x y->
  (∀c o,c≠z->c≠TO->c≠i1->c≠i2->s.heap.get? c=Z o->h'.get? c=Z o)->Q (.ref s.heap.objs.size) { s with heap:=h',toks:=tk }):
 bz (bx prog w) A (Builtin.«zip.__next__» ⟨[.ref z],[]⟩) (λr s'=>∃v,r=.done (.ret v)/\Q v s') E s:=by
 have p:∀{h h':Heap}{c:Uc}{j:Nat},Heap.SameBut c h h'->i1≠c->l1≠c->S1 j h->S1 j h':=λF q r st=>B.frame _ _ _ st λb hb o e=>F.extBut b o (by
  obtain rfl|hb:=C1.mp hb
  .exact q
  .rw[B4.mp hb];exact r) e
 have t:∀{h h':Heap}{c:Uc}{j:Nat},Heap.SameBut c h h'->i2≠c->l2≠c->S2 j h->S2 j h':=λF q r st=>C.frame _ _ _ st λb hb o e=>F.extBut b o (by
  obtain rfl|hb:=C1.mp hb
  .exact q
  .rw[B4.mp hb];exact r) e
 refine(?_:bz _ _ (field (.ref z) 2 >>= λv=>_) _ _ _);refine A1<|E8 d rfl rfl (?_:bz _ _ (field (.ref z) 3 >>= λv=>_) _ _ _);refine A1<|E8 d rfl rfl<|A1<|A0z T rfl (?_:bz _ _ (Builtin.SmallTypes.ownedTupleIsFree (.ref z) >>= λv=>_) _ _ _);refine A1<|A1<|E8 d rfl rfl<|A4 ?_;refine A1<|A0v<|A1<|E8 d rfl rfl<|A1 (O7 d 67 λg1 z1 f=>A1 ?_);refine A1<|A1<|wpAny_onRaise (?_:bz _ _ (Builtin.SmallTypes.nextOf (.ref i1) >>= λv=>_) _ _ _);refine A1 (B.item k { s with heap:=g1 } _ _ V (p f D.i1z f1.z t1) λx g2 G p1 u1 g=>A4 ?_);have I:=g.extBut _ _ D.TOi1<|f.extBut _ _ D.TOz U;refine A1<|A0z I rfl<|A1 (wpAny_updateSeq_pair I λg3 O3 i=>A1<|wpAny_letGo<|A4 ?_);refine A1<|A1<|wpAny_onRaise (?_:bz _ _ (Builtin.SmallTypes.nextOf (.ref i2) >>= λv=>_) _ _ _);refine A1 (C.item k { s with heap:=g3,toks:=G } _ _ W (t i D.TOi2.symm f2.o<|t g D.i12.symm f2.a<|t f D.i2z f2.z t2) λy g4 H p2 u2 l=>A4 ?_);have J:=l.extBut _ _ D.TOi2 O3;refine A1<|A0z J rfl<|A1 (wpAny_updateSeq_pair J λm u n=>A1<|wpAny_letGo<|A4<|A4 ?_);have u:IsPair m TO x y:=u;have sz:m.objs.size=s.heap.objs.size:=by rw[n.1,l.1,i.1,g.1,f.1]
 have K:=n.extBut _ _ D.TOz.symm<|l.extBut _ _ D.i2z.symm<|i.extBut _ _ D.TOz.symm<|g.extBut _ _ D.i1z.symm z1;have s1:=p n D.TOi1.symm f1.o<|p l D.i12 f1.b<|p i D.TOi1.symm f1.o u1;have s2:=t n D.TOi2.symm f2.o u2;have L:=B2 K;refine A1<|A0z u rfl<|A1<|wpAny_newTuple (?_:bz _ _ (Builtin.SmallTypes.ownedTupleHandOut (.ref z) (.ref m.objs.size) >>= λv=>_) _ _ _);have z6:IsZip (m.push { cls:=.type "tuple",data:=.seq #[x,y] }) z TI TO .ellipsis:=A3 _ K;refine A1<|A1 (O7 z6 67 λg7 z7 b7=>O7 z7 67 λM N O=>A4 ⟨_,rfl,?_⟩);have up:∀c o,c≠z->m.get? c=Z o->M.get? c=Z o:=λc o q e=>O.extBut _ _ q<|b7.extBut _ _ q<|A3 _ e;have P:=O.extBut _ _ (O1 L)<|b7.extBut _ _ (O1 L)<|B5 _ rfl;rw[sz]at P N;rw[sz];refine X M H x y p1 p2 N (up _ _ D.TOz u) (B.frame _ _ _ s1 λc hc o e=>up c o ?_ e) (C.frame _ _ _ s2 λc hc o e=>up c o ?_ e) P λc o R S c3 c4 e=>up c o R<|n.extBut _ _ S<|l.extBut _ _ c4<|i.extBut _ _ S<|g.extBut _ _ c3<|f.extBut _ _ R e
 .obtain rfl|hc:=C1.mp hc
  .exact D.i1z
  .rw[B4.mp hc];exact f1.z
 .obtain rfl|hc:=C1.mp hc
  .exact D.i2z
  .rw[B4.mp hc];exact f2.z
def aLx(D:L2.Apart5 z TI TO i1 i2)(f1:NB z TO i1 i2 l1)(f2:NB z TO i1 i2 l2)(y:Draws prog w A i1 [i1,l1] n1 P1 S1)(I:Draws prog w A i2 [i2,l2] n2 P2 S2)
 (f:IsZip s.heap z TI TO .none) (T:IsPair s.heap TI (.ref i1) (.ref i2)) (U:IsPair s.heap TO a b) (t1:S1 k s.heap) (t2:S2 k s.heap) (V:k=n1\/(k<n1/\k=n2))
 (J:∀h' W e,(∀c o,c≠z->c≠TO->c≠i1->c≠i2->s.heap.get? c=Z o->h'.get? c=Z o)->(∃o,h'.get? e=Z o/\o.cls=.type "StopIteration")->E (.ref e) { s with heap:=h',toks:=W }):
 bz (bx prog w) A (Builtin.«zip.__next__» ⟨[.ref z],[]⟩) Q E s:=by
 have K:∀{h h':Heap}{c:Uc}{j:Nat},Heap.SameBut c h h'->i1≠c->l1≠c->S1 j h->S1 j h':=λB q r st=>y.frame _ _ _ st λb hb o e=>B.extBut b o (by
  obtain rfl|hb:=C1.mp hb
  .exact q
  .rw[B4.mp hb];exact r) e
 have C:∀{h h':Heap}{c:Uc}{j:Nat},Heap.SameBut c h h'->i2≠c->l2≠c->S2 j h->S2 j h':=λB q r st=>I.frame _ _ _ st λb hb o e=>B.extBut b o (by
  obtain rfl|hb:=C1.mp hb
  .exact q
  .rw[B4.mp hb];exact r) e
 have p:∀{g:Heap}{v:Tz}{e:Uc}{o:Obj},IsZip g z TI TO v->g.get? e=Z o->o.cls=.type "StopIteration"->e≠z:=λf d i q=>by
  subst q;rw[f]at d;cases d;simp at i
 refine(?_:bz _ _ (field (.ref z) 2 >>= λv=>_) _ _ _);refine A1<|E8 f rfl rfl (?_:bz _ _ (field (.ref z) 3 >>= λv=>_) _ _ _);refine A1<|E8 f rfl rfl<|A1<|A0z T rfl (?_:bz _ _ (Builtin.SmallTypes.ownedTupleIsFree (.ref z) >>= λv=>_) _ _ _);refine A1<|A1<|E8 f rfl rfl<|A4 ?_;refine A1<|A0v<|A1<|E8 f rfl rfl<|A1 (O7 f 67 λL M m=>A1 ?_);refine A1<|A1<|wpAny_onRaise (?_:bz _ _ (Builtin.SmallTypes.nextOf (.ref i1) >>= λv=>_) _ _ _);obtain rfl|⟨X,rfl⟩:=V
 .refine A1 (y.done { s with heap:=L } _ _ (K m D.i1z f1.z t1) λg2 e l ⟨F,d,i⟩=>?_);have N:=l _ _ D.i1z.symm M;exact O7 N 67 λG _ n=>J G s.toks e (λc o t _ H _ q=>n.extBut _ _ t<|l _ _ H<|m.extBut _ _ t q) ⟨F,n.extBut _ _ (p N d i) d,i⟩
 .refine A1 (y.item k { s with heap:=L } _ _ X (K m D.i1z f1.z t1) λx g2 u p1 u1 l=>A4 ?_);have O:=l.extBut _ _ D.TOi1<|m.extBut _ _ D.TOz U;refine A1<|A0z O rfl<|A1 (wpAny_updateSeq_pair O λG O3 n=>A1<|wpAny_letGo<|A4 ?_);refine A1<|A1<|wpAny_onRaise (?_:bz _ _ (Builtin.SmallTypes.nextOf (.ref i2) >>= λv=>_) _ _ _);refine A1 (I.done { s with heap:=G,toks:=u } _ _ (C n D.TOi2.symm f2.o<|C l D.i12.symm f2.a<|C m D.i2z f2.z t2) λg4 e P ⟨F,d,i⟩=>?_);have R:=P _ _ D.i2z.symm<|n.extBut _ _ D.TOz.symm<|l.extBut _ _ D.i1z.symm M;exact O7 R 67 λg5 _ S=>J g5 u e (λc o t c2 H c4 q=>S.extBut _ _ t<|P _ _ c4<|n.extBut _ _ c2<|l.extBut _ _ H<|m.extBut _ _ t q) ⟨F,S.extBut _ _ (p R d i) d,i⟩
end
def DI{h:Heap}{o:Obj}{n:Nat}(e:h.objs.size=n)(f:o.isFreed=false:=by rfl):(h.push o).get? n=Z o:=by subst e;exact B5 _ f
end
end PySem
namespace L2
variable{K:Fg}
open PySem PySem.Spec PyProof.Rows
section
variable{prog:Ue}{w:World}{A:Uf}{E:T0}{s:Ub}
variable{z TI TO i1 i2 l1 l2:Uc}{k n1 n2:Nat}{P1 P2:Nat->Tz->Prop}{S1 S2:Nat->Heap->Prop}{a b:Tz}
def aGK{Q:Tf->Ub->Prop}(D:Apart5 z TI TO i1 i2)(f1:NB z TO i1 i2 l1)(f2:NB z TO i1 i2 l2)(f:Draws prog w A.in1 i1 [i1,l1] n1 P1 S1)(g:Draws prog w A.in1 i2 [i2,l2] n2 P2 S2)
 (e:IsZip s.heap z TI TO .none) (h:IsPair s.heap TI (.ref i1) (.ref i2)) (i:IsPair s.heap TO a b) (t1:S1 k s.heap) (t2:S2 k s.heap) (j:k<n1) (l:k<n2)
 (m:∀h' d x y,P1 k x->P2 k y->IsZip h' z TI TO (rawInt s.heap.objs.size)->IsPair h' TO x y->S1 (k+1) h'->S2 (k+1) h'->IsPair h' s.heap.objs.size x y->
  (∀c o,c≠z->c≠TO->c≠i1->c≠i2->s.heap.get? c=Z o->h'.get? c=Z o)->Q (Z (.ref s.heap.objs.size)) { s with heap:=h',toks:=d }):
 bz (bx prog w) A (pyNext (.ref z)) Q E s:=by
 have ty:s.TypeIs (.ref z) "zip":=⟨_,e,rfl⟩;exact A1<|A1j<|J9 ty A1x<|F7 A1x ty F.entry_zip_next (aJh D f1 f2 f g e h i t1 t2 j l λh' d x y n p q r t u v B=>A4<|m h' d x y n p q r t u v B)<|F.args_zip_next_1 _
def aGl{Q:Tf->Ub->Prop}(D:Apart5 z TI TO i1 i2)(f1:NB z TO i1 i2 l1)(f2:NB z TO i1 i2 l2)(g:Draws prog w A.in1 i1 [i1,l1] n1 P1 S1)(h:Draws prog w A.in1 i2 [i2,l2] n2 P2 S2)
 (f:IsZip s.heap z TI TO .none) (i:IsPair s.heap TI (.ref i1) (.ref i2)) (j:IsPair s.heap TO a b) (t1:S1 k s.heap) (t2:S2 k s.heap) (l:k=n1\/(k<n1/\k=n2))
 (m:∀h' d,(∀c o,c≠z->c≠TO->c≠i1->c≠i2->s.heap.get? c=Z o->h'.get? c=Z o)->Q Y { s with heap:=h',toks:=d }):bz (bx prog w) A (pyNext (.ref z)) Q E s:=by
 have ty:s.TypeIs (.ref z) "zip":=⟨_,f,rfl⟩;exact A1<|A1j<|J9 ty A1x<|F7 A1x ty F.entry_zip_next (aLx D f1 f2 g h f i j t1 t2 l λh' d e n p=>A1 (let⟨o,q,r⟩:=p;A1a ⟨o,q,r⟩ isSubtype_stop<|A4<|m h' d n))<|F.args_zip_next_1 _
end
theorem KR:∀(xs ys:T3),(tF xs ys).length=xs.length\/((tF xs ys).length<xs.length/\(tF xs ys).length=ys.length)
 |[],_=>.inl rfl
 |_::_,[]=>.inr ⟨Nat.succ_pos _,rfl⟩
 |x::xs,y::ys=>by
  have:=KR xs ys;simp only[tF,D8];omega
section
variable{K:Fg}
end
section
variable{K:Fg}
end
section
variable{K:Fg}
end
section
variable{K:Fg}
end
section
variable{K:Fg}
end
section
variable{prog:Ue}{w:World}{A:Uf}{E:T0}{s:Ub}
abbrev TK(prog:Ue)(w:World):HeapKind prog w (Tv Key):=tupleKind<|dX prog w
end
section
variable{prog:Ue}{w:World}{A:Uf}{E:T0}{s:Ub}
abbrev hT(prog:Ue)(w:World)(k:Tv Key):Int:=(TK prog w).hash k
end
section
variable{X:Cx}{N':Tc}{cap:T2}{scope:Scope}
end
section
variable{P:Ue}{w:World}{K:Fg}{mg:Str->Tf}
end
def MB(K:Fg):Td->Hp->VK->Prop:=λxs H Q=>∃(p:Uc)(ns:T6),xs=[.ref p]/\SqT K H p (ns.map .int)/\ns.length<64/\∀l,H l=Y->Q (.ref l) (upd H l (.lst ((bK ns).map .int)))
def HS{h:Heap}{vs:T4}:(∀b o,h.get? b=Z o->(sortedHeap (h.push<|seqObj "list" vs.toArray 0) h.objs.size vs a).get? b=Z o)/\∃c,(sortedHeap (h.push<|seqObj "list" vs.toArray 0) h.objs.size vs a).get? h.objs.size=Z (seqObj "list" a c):=by
 have f:(h.push<|seqObj "list" vs.toArray 0).get? h.objs.size=Z (seqObj "list" vs.toArray 0):=B5 _ rfl;constructor
 .intro b o e;have d:=C2<|B2 e;unfold sortedHeap;rw[A0k _ _ _ _ d];refine A3 _<|A3 _ ?_;rw[A0k _ _ _ _ d];exact A3 _ e
 .unfold sortedHeap;have g:=A1p f (λ_=>#[]);have i:=A3 (seqObj "tuple" vs.toArray 0) g;have j:=A3 (seqObj "list" #[] 0) i;exact⟨_,A1p j λ_=>a⟩
def QO:dH X (.builtin "sorted") (MB X.K):=by
 intro cp s A H xs us Q I r h;let⟨p,ns,rfl,j,k,q⟩:=h;let⟨u,rfl,l⟩:=vals1 r;cases l;let⟨its,f,⟨o,m,t,n,hd⟩,g⟩:=I.tuple j;have v:=f.length;rw[A6]at v g;refine Calls.call_function_entry kind_sorted plain_sorted entry_sorted (args_sorted1 _) ?_;refine A1<|A4 ?_;refine A1<|wpAny_collect_seq _ (.inr rfl) m t hd (λh' w=>?_) (by simp;omega);have B:its.toArray.toList=its:=67
 refine A1<|wpAny_newList ?_;have a:(h'.push<|seqObj "list" its.toArray 0).get? h'.objs.size=Z (seqObj "list" its.toArray 0):=B5 _ rfl;refine A1<|E7<|F7 slot_list_sort ⟨_,a,rfl⟩ entry_list_sort (list_sort_tree a (intsAre_of f) 61 λb x hi pm y=>⟨_,rfl,?_⟩)<|args_list_sort _;have e:=lP y (eL ns)<|pm.trans (cN ns).symm;subst e;let⟨kp,c,z⟩:=HS;have d:((bK ns).map V.int).length<=bv:=by rw[A6,pm.length_eq];exact g
 have i:=I.kept (t':=s.toks) w;refine A4 ⟨_,rfl,.ref h'.objs.size,upd H h'.objs.size (.lst ((bK ns).map .int)),i.laid kp (B3 _) ⟨d,b.toList,c,wV hi,by simpa using z⟩,rfl,q _<|i.hok.fresh<|B3 _⟩
def aGu{X:Cx}(h:X.K=K):dH X (.builtin "sorted") (MB K):=by subst h;exact QO
def zO:FN:=λxs M=>match xs with
 |[.d (.list ds)]=>(mC ds).bind λns=>if ns.length<64 then Z (.d (.list ((bK ns).map .int)),M)else Y
 |[.d (.tuple ds)]=>(mC ds).bind λns=>if ns.length<64 then Z (.d (.list ((bK ns).map .int)),M)else Y
 |_=>Y
def aBl:PN K (λxs H Q=>VG K xs H Q\/MB K xs H Q) zO:=by
 intro xs M z M' h W H vs Q G r k;unfold zO at h;split at h
 .rename_i ds;let⟨ns,c,h⟩:=aH h;by_cases a:ns.length<64
  .rw[A8 a]at h;cases h;obtain _|⟨d,_|_⟩:=r;let⟨p,us,rfl,f,b⟩:=d;rw[uG c]at b;have e:=kF b;subst e;refine .inl ⟨p,ns,rfl,G.fh.seq f,a,λl g=>?_⟩;let⟨i,G2⟩:=G.lay g;exact k _ _ _ i G2 ⟨l,_,rfl,SqL.of aS,xS _⟩
  .rw[B7 a]at h;cases h
 .rename_i ds;let⟨ns,c,h⟩:=aH h;by_cases a:ns.length<64
  .rw[A8 a]at h;cases h;obtain _|⟨d,_|_⟩:=r;let⟨p,us,rfl,f,b⟩:=d;rw[uG c]at b;have e:=kF b;subst e;refine .inr ⟨p,ns,rfl,G.fh.seqT f,a,λl g=>?_⟩;let⟨i,G2⟩:=G.lay g;exact k _ _ _ i G2 ⟨l,_,rfl,SqL.of aS,xS _⟩
  .rw[B7 a]at h;cases h
 .cases h
def RT{ι:Type}{X:ι->Cx}(a:∀i,(X i).K=K):QN K X (.builtin "sorted") zO:=⟨_,λi=>(aKP<|a i).or (aGu<|a i),aBl⟩
section
variable{prog:Ue}{w:World}{A:Uf}{R:Result->Ub->Prop}{s:Ub}
noncomputable abbrev tV(elt tg iter:Ud)(ifs:T8)(tg2 iter2:Ud)(ifs2:T8)(scope:Scope)(pos:Pos):Ud:=.ListComp elt [⟨tg,iter,ifs,0⟩,⟨tg2,iter2,ifs2,0⟩] scope pos
def compTurn2_1(elt tg iter:Ud)(ifs:T8)(d a:Ud)(b:T8)(scope:Scope)(pos:Pos)(it acc:Tz)(env:Env):
 compTurn (tV elt tg iter ifs d a b scope pos) 1 it acc env=(do
  standAt a.pos
  match <- pyNext it with
  |none=>pure (.done .next)
  |some v=>
   ci d it v
   assign d env v
   let mut ok:=true
   for c in b do
    if ok then ok <- isTrue c env (eval c env)
   if ok then
    (do let _ <- call (.builtin "list.append") [acc,<- eval elt env])
   again (.compLoop (tV elt tg iter ifs d a b scope pos) 1 it acc env)):=by rfl
def compTurn2_0(elt tg iter:Ud)(ifs:T8)(d a:Ud)(b:T8)(scope:Scope)(pos:Pos)(it acc:Tz)(env:Env):
 compTurn (tV elt tg iter ifs d a b scope pos) 0 it acc env=(do
  standAt iter.pos
  match <- pyNext it with
  |none=>pure (.done .next)
  |some v=>
   ci tg it v
   assign tg env v
   let mut ok:=true
   for c in ifs do
    if ok then ok <- isTrue c env (eval c env)
   if ok then do
    let x <- eval a env
    standAt a.pos
    let x <- cc a env x;let _ <- runOwn (.compStart (tV elt tg iter ifs d a b scope pos) 1 (<- holding [x] (pyIter x)) acc env) env
    again (.compLoop (tV elt tg iter ifs d a b scope pos) 0 it acc env)
   else again (.compLoop (tV elt tg iter ifs d a b scope pos) 0 it acc env)):=by rfl
def aFJ{acc:Tz}(I:Nat->Ub->Prop)
 (e:∀n s,I n s->bz (bx prog w) A (pyNext it) (λr s1=>(r=Y/\R (.ok .next) s1)\/∃v,r=Z v /\
  bz (bx prog w) A (ci d it v) (λ_ s2=>bz (bx prog w) A (assign d env v) (λ_ s3=>
   bz (bx prog w) A (forIn b true λc r=>if r=true then(do
    let ok <- isTrue c env (eval c env)
    pure (ForInStep.yield ok))else pure (ForInStep.yield r)) (λok s4=>
     (ok=true/\bz (bx prog w) A (eval elt env) (λx j=>bz (bx prog w) A (call (.builtin "list.append") [acc,x]) (λ_ k=>∃m,m<n/\I m k) 75 j) 75 s4) \/
     (ok=false/\∃m,m<n/\I m s4)) 75 s3) 75 s2) 75 s1) 75 s)
 (n:Nat) (h:I n s):cg (bx prog w) A (.compLoop (tV elt tg iter ifs d a b scope pos) 1 it acc env) R s:=by
 refine A2w rfl I (λn s l=>?_) n h
 show bz _ A ((compTurn (tV elt tg iter ifs d a b scope pos) 1 it acc env).onRaise λx=>do
  noteFrame x env
  theTreesLotGoes x) _ _ s
 refine wpAny_noted ?_;refine A1<|L9<|A1 (C7 (e n s l) (λr s1 g=>?_) λ_ _ f=>f.elim);obtain⟨rfl,g⟩|⟨v,rfl,g⟩:=g
 .exact A4 g
 .refine A1 (C7 g (λ_ s2 o=>?_) λ_ _ f=>f.elim);refine A1 (C7 o (λ_ s3 p=>?_) λ_ _ f=>f.elim);refine A1 (C7 p (λok s4 i=>?_) λ_ _ f=>f.elim);obtain⟨rfl,i⟩|⟨rfl,i⟩:=i
  .refine A1<|A1 (C7 i (λx j q=>?_) λ_ _ f=>f.elim);exact A1 (C7 q (λ_ k t=>A4<|A4 ⟨rfl,t⟩) λ_ _ f=>f.elim)
  .exact A4 ⟨rfl,i⟩
def aEs(hs:∀x,cc a env x=pure x)(I:Nat->Ub->Prop)
 (e:∀n s,I n s->bz (bx prog w) A (pyNext it) (λr s1=>(r=Y/\R (.ok .next) s1)\/∃v,r=Z v /\
  bz (bx prog w) A (ci tg it v) (λ_ s2=>bz (bx prog w) A (assign tg env v) (λ_ s3=>
   bz (bx prog w) A (forIn ifs true λc r=>if r=true then(do
    let ok <- isTrue c env (eval c env)
    pure (ForInStep.yield ok))else pure (ForInStep.yield r)) (λok s4=>
     (ok=true/\bz (bx prog w) A (eval a env) (λx k=>bz (bx prog w) A (pyIter x) (λg l=>∀R:Result->Ub->Prop,(∀s7,(∃m,m<n/\I m s7)->R (.ok .next) s7)->cg (bx prog w) A (.compStart (tV elt tg iter ifs d a b scope pos) 1 g acc env) R l) 75 k) 75 s4) \/
     (ok=false/\∃m,m<n/\I m s4)) 75 s3) 75 s2) 75 s1) 75 s)
 (n:Nat) (h:I n s):cg (bx prog w) A (.compLoop (tV elt tg iter ifs d a b scope pos) 0 it acc env) R s:=by
 refine A2w rfl I (λn s o=>?_) n h
 show bz _ A ((compTurn (tV elt tg iter ifs d a b scope pos) 0 it acc env).onRaise λx=>do
  noteFrame x env
  theTreesLotGoes x) _ _ s
 refine wpAny_noted ?_;refine A1<|L9<|A1 (C7 (e n s o) (λr s1 i=>?_) λ_ _ f=>f.elim);obtain⟨rfl,i⟩|⟨v,rfl,i⟩:=i
 .exact A4 i
 .refine A1 (C7 i (λ_ s2 p=>?_) λ_ _ f=>f.elim);refine A1 (C7 p (λ_ s3 q=>?_) λ_ _ f=>f.elim);refine A1 (C7 q (λok s4 j=>?_) λ_ _ f=>f.elim);obtain⟨rfl,j⟩|⟨rfl,j⟩:=j
  .refine A1 (C7 j (λx k t=>?_) λ_ _ f=>f.elim);refine A1<|L9<|A1<|A2r (hs x) ?_;refine A1<|E7 (C7 t (λg l u=>?_) λ_ _ f=>f.elim);exact A1<|wpAny_runOwn (u _ λs7 y=>A4 ⟨rfl,y⟩)
  .exact A4 ⟨rfl,j⟩
def aAR
 (e:cg (bx prog w) A (.compLoop (tV elt tg iter ifs c a b scope pos) 1 it acc env) R s)
 (h:bz (bx prog w) A (pyIter it) (λd s'=>cg (bx prog w) A (.compLoop (tV elt tg iter ifs c a b scope pos) 1 d acc env) R s')
  (notedBy (bx prog w) A env λx s'=>R (.error x) s') s):
 cg (bx prog w) A (.compStart (tV elt tg iter ifs c a b scope pos) 1 it acc env) R s:=by
 refine codeAny_of_tree ?_;refine wpAny_notedAt ?_;refine A1<|A2m<|wpAny_ite ?_;split
 .first
   |exact A1<|A4<|A4<|And.intro rfl e
   |exact A4<|And.intro rfl e
 .first
   |exact A1<|A0v<|A1<|L9<|A1 (C7 h (λd s' h'=>A4<|And.intro rfl h') λ_ _ x=>x)
   |(refine A1<|A0v ?_;show bz _ _ (standAt a.pos >>= _) _ _ s;exact A1<|L9<|A1 (C7 h (λd s' h'=>A4<|And.intro rfl h') λ_ _ x=>x))
end
def tIn(l:TI)(g:TG)(n:TT)(o:TE)(N:Td->St->Hp->Prop)(d:Td):St->Hp->Prop:=λh H=>l h H λJ p=>∃W:Nat->Nat->Td->St->Hp->Prop,(∃m,W 0 m d h p)/\∀i m acc c H',W i m acc c H'->
 (J.stop i H'/\N acc c H') \/
 (J.go i H'/\acc.length<bv/\∃f:Td->St->Hp->Prop,(∀acc' a e,f acc' a e->∃j,j<m/\W (i+1) j acc' a e)/\∀x e,J.yld i H' x e->g x c e λa q=>n a q λb k=>(b=true/\o a k λv r=>f (acc++[v]) a r)\/(b=false/\f acc a k))
noncomputable abbrev lob(its:T4)(nn:Nat):Obj:={ cls:=.type "list",data:=.seq its.toArray nn }
def aDN{a:Cx}{elt tg iter:Ud}{ifs:T8}{B f:Ud}{m:T8}{sc:Scope}{pos:Pos}{Q:TI}{g2:TG}{S:TT}{te:TE}(hY:∃X N' scope C sa Ha fp pn,a=bV X N' scope C sa Ha fp pn)(hc:a.calm=true)
 (hi:PI a B f Q) (hg:PG a B g2) (ae:yZ a m S) (he:PE a elt te) {cp:T1} {s:Ub} {t:St} {H:Hp} {D:Uc} {its:T4} {nn:Nat} {acc:Td} {N:Td->St->Hp->Prop}
 (I:Inv a cp t H s) (fD:nE a cp H D) (gD:s.heap.get? D=Z (lob its nn)) (P:bE acc its) (U:acc.length<=bv) (h:tIn Q g2 S te N acc t H):
 bz (bx a.prog a.w) a.A (eval f a.env) (λx s5=>bz (bx a.prog a.w) a.A (pyIter x) (λa0 s6=>∀R:Result->Ub->Prop,(∀s7,(∃c H' acc' its' nn',Inv a cp c H' s7/\H' D=Y/\s7.heap.get? D=Z (lob its' nn')/\bE acc' its'/\acc'.length<=bv/\N acc' c H')->R (.ok .next) s7)->
  cg (bx a.prog a.w) a.A (.compStart (tV elt tg iter ifs B f m sc pos) 1 a0 (.ref D) a.env) R s6) 75 s5) 75 s:=by
 let⟨X,N',scope,C,sa,Ha,fp,pn,rfl⟩:=hY;let⟨d0,dl,df,dx,L,a6⟩:=fD
 have E:∀{its:T4}{nn:Nat}{t:St}{H:Hp}{s:Ub},Inv (bV X N' scope C sa Ha fp pn) cp t H s->H D=Y->s.heap.get? D=Z (lob its nn)->Inv (bV X N' scope C sa Ha fp pn) ([(D,lob its nn)]++cp) t H s:=λI d g=>I.pins_of λp hp=>by
  obtain hp|hp:=D5.mp hp
  .rw[B4.mp hp];exact⟨g,d,dl,df,λv z=>by cases z⟩
  .exact I.pin p<|B1 _ hp
 refine thn (hi ([(D,lob its nn)]++cp) s t H _ (E I d0 gD) h) λv s5 h5=>thn h5 λa0 s6 h6=>?_;let⟨it,l,tn,J,H6,e,I6,T,a7,f6,W,⟨m0,w0⟩,a8⟩:=h6;subst e;intro R hR
 have a9:∀{its:T4}{nn:Nat}{t:St}{H:Hp}{s:Ub},Inv (bV X N' scope C sa Ha fp pn) ([(D,lob its nn)]++cp) t H s->Inv (bV X N' scope C sa Ha fp pn) cp t H s/\H D=Y/\s.heap.get? D=Z (lob its nn):=λ{its nn t H s} I=>by
  have q:=I.pin (D,lob its nn)<|B1 _<|E2 _<|B4.mpr rfl;exact⟨I.pins_of λp hp=>I.pin p<|B1 _<|B1 _ hp,q.2.1,q.1⟩
 have y:∀{Hx:Hp}{ob:Obj},(∀b∈l,Hx b=Y)->∀b∈l,nE (bV X N' scope C sa Ha fp pn) ([(D,ob)]++cp) Hx b:=λ{Hx ob} hn b j=>by
  let⟨_,a1,a2,a3,a4,a5⟩:=f6 b j;refine⟨hn b j,a1,a2,a3,a4,λp hp=>?_⟩;obtain hp|hp:=D5.mp hp
  .exact a5 p<|E2 _ hp
  .obtain hp|hp:=D5.mp hp
   .rw[B4.mp hp];exact a5 (D,lob its nn)<|B1 _<|E2 _<|B4.mpr rfl
   .exact a5 p<|B1 _<|B1 _ hp
 have F:cg (bx X.prog X.w) X.A (.compLoop (tV elt tg iter ifs B f m sc pos) 1 (.ref it) (.ref D) (bV X N' scope C sa Ha fp pn).env) R s6:=by
  let⟨u1,u2,u3⟩:=a9 I6
  refine aFJ (λn s'=>∃(i:Nat)(c:St)(H':Hp)(acc:Td)(its:T4)(nn:Nat),Inv (bV X N' scope C sa Ha fp pn) cp c H' s'/\tn i s'.heap/\(∀b∈l,H' b=Y)/\H' D=Y /\
   s'.heap.get? D=Z (lob its nn)/\bE acc its/\acc.length<=bv/\W i n acc c H') ?_ m0 ⟨0,t,H6,acc,its,nn,u1,a7,λb j=>(f6 b j).1,u2,u3,P,U,w0⟩
  rintro n s7 ⟨i,c,H',acc,its,nn,I7,t7,aa,d7,g7,P,U,w7⟩;have I7p:=E I7 d7 g7;obtain⟨stop,q⟩|⟨go,lt,N2,hN,step⟩:=a8 i n acc c H' w7
  .refine thn (T.done (bV X N' scope C sa Ha fp pn) rfl rfl rfl hc i _ s7 c H' _ I7p (y aa) t7 stop) λr s8 ⟨hr,I8⟩=>.inl ⟨hr,?_⟩;let⟨v1,v2,v3⟩:=a9 I8;exact hR s8 ⟨c,H',acc,its,nn,v1,v2,v3,P,U,q⟩
  .refine thn (T.item (bV X N' scope C sa Ha fp pn) rfl rfl rfl hc i _ s7 c H' _ I7p (y aa) t7 go) λr s8 ⟨u,hr,h8⟩=>.inr ⟨u,hr,?_⟩;refine thn h8 λ_ s9 ⟨x,H9,I9,r9,y9,t9,af⟩=>?_;have ag:=I9.pinned (y af) (T.obj _ _ t9)
   have G:∀{M:St}{Hx:Hp}{sx:Ub},Inv (bV X N' scope C sa Ha fp pn) (([(D,lob its nn)]++cp)++qY l s9.heap) M Hx sx->
    (∀b∈l,∀o,s9.heap.get? b=Z o->sx.heap.get? b=Z o)/\(∀b∈l,Hx b=Y)/\sx.heap.get? D=Z (lob its nn)/\Hx D=Y/\Inv (bV X N' scope C sa Ha fp pn) cp M Hx sx:=λ{M Hx sx} Ix=>by
    have q:=Ix.pin (D,lob its nn)<|B1 _<|E2 _<|E2 _<|B4.mpr rfl;refine⟨λb j o e=>(Ix.pin (b,o)<|B1 _<|B1 _<|cX j e).1,λb j=>?_,q.1,q.2.1,Ix.pins_of λp hp=>Ix.pin p<|B1 _<|E2 _<|B1 _ hp⟩;let⟨o,e,_⟩:=T.obj _ _ t9 b j;exact(Ix.pin (b,o)<|B1 _<|B1 _<|cX j e).2.1
   refine thn (hg _ s9 c H9 x u _ ag r9<|step x H9 y9) λ_ ah ⟨k,ai,aj,ak⟩=>?_;refine thn (ae _ ah k ai _ aj ak) λb am ⟨ab,ac,O⟩=>?_;obtain⟨rfl,O⟩|⟨rfl,ao⟩:=O
   .refine .inl ⟨rfl,thn (he _ am k ab _ ac O) λuv ax ⟨v,ap,aq,rv,ar⟩=>?_⟩;let⟨m',hm,au⟩:=hN _ _ _ ar;let⟨b1,b2,b3,b4,b5⟩:=G aq;refine wpAny_list_append_plain ⟨nn,b3⟩ (λh' hp av=>?_) (by rw[F4,<- P.length];exact U);let⟨n2,e2⟩:=hp;have up:=λb o j e=>av.extBut b o j e;refine⟨m',hm,i+1,k,ap,acc++[v],its++[uv],n2,b5.turned up b4 dl dx L a6,T.keep _ _ _ t9 λb j o e=>up b o (Y6<|(f6 b j).2.2.2.2.2 (D,_) (B1 _<|E2 _<|B4.mpr rfl))<|b1 b j o e,b2,b4,?_,P.append (.cons rv .nil),?_,au⟩
    .rw[e2];simp
    .rw[B6,E9];exact lt
   .let⟨m',hm,aw⟩:=hN _ _ _ ao;let⟨b1,b2,b3,b4,b5⟩:=G ac;exact .inr ⟨rfl,m',hm,i+1,k,ab,acc,its,nn,b5,T.keep _ _ _ t9 b1,b2,b4,b3,P,U,aw⟩
 exact aAR F<|T.self _ 0 _ _ _ a7 F
def lcG(g:GF)(c:TF)(e:EF):T5->Ga->Sto->Tx ((T5×Ga)×Sto)
 |[],d,M=>Z (([],d),M)
 |x::xs,d,M=>(g x d M).bind λa=>(c a.1 a.2).bind λb=>if b.1=true then(e a.1 b.2).bind λr=>(lcG g c e xs a.1 r.2).bind λq=>Z ((r.1::q.1.1,q.1.2),q.2)else lcG g c e xs a.1 b.2
def RH(g:GF)(c:TF)(d:AF)(f:GF)(h:TF)(e:EF):T5->Ga->Sto->Tx (T5×Sto)
 |[],i,M=>Z ([],M)
 |x::xs,i,M=>(g x i M).bind λa=>(c a.1 a.2).bind λb=>if b.1=true then(d a.1 b.2).bind λr=>(lcG f h e r.1 a.1 r.2).bind λq=>(RH g c d f h e xs q.1.2 q.2).bind λz=>Z (q.1.1++z.1,z.2)else RH g c d f h e xs a.1 b.2
def aDw(cap:T2)(f:AF)(g:GF)(c:TF)(f2:AF)(b:GF)(h:TF)(e:EF):EF:=λa M=>(f a M).bind λr=>(RH g c f2 b h e r.1 (qI cap a) r.2).bind λq=>(kI q.1).bind λds=>if ds.length<bv then Z (.d (.list ds),q.2)else Y
section
variable{K:Fg}{tg:TG}{tt:TT}{hg:GF}{ft:TF}{fa:AF}{tg2:TG}{tt2:TT}{hg2:GF}{ft2:TF}{fa2:AF}{te:TE}{fe:EF}
def aMD{wi:TI}(i:SI K wi fa)(a:SG K tg hg)(c:STt K tt ft)(b:SE K te fe){γ γ':Ga}{M M1 M':Sto}{ys w:T5}(h1:fa γ M=Z (ys,M1))(hh:lcG hg ft fe ys γ M1=Z ((w,γ'),M'))
 {W:Wd} {H:Hp} {O:St} {N:Td->St->Hp->Prop} {pre:T5} {acc:Td} (G:Good K W M H) (R:bX K W γ O) (rp:bQ K W pre acc) (hl:pre.length+w.length<bv)
 (k:∀acc' f W' H',W.Ext W'->Good K W' M' H'->bX K W' γ' f->bQ K W' (pre++w) acc'->N acc' f H'):tIn wi tg tt te N acc O H:=by
 refine i _ _ _ _ h1 W H O _ G R λJ W1 H1 P G1 gv=>?_
 refine⟨λj m acc f H'=>∃t M2 r d n,j<=ys.length/\m=ys.length-j/\W1.Ext r/\Good K r M2 H'/\bX K r t f/\bQ K r d acc/\d++n=pre++w/\lcG hg ft fe (ys.drop j) t M2=Z ((n,γ'),M'),
  ⟨_,γ,M1,W1,pre,w,E6 _,rfl,.refl _,G1,R.up P,bQ.up rp P,rfl,hh⟩,?_⟩
 rintro j m acc f H' ⟨t,M2,r,d,n,hj,rfl,Q,G2,R2,o,A,l⟩;let⟨S,T⟩:=gv r M2 H' Q G2;by_cases u:j<ys.length
 .let⟨go,yl⟩:=S j ys[j]<|C0 u;rw[S5 u]at l
  have la:acc.length<bv:=by
   have l1:=Z7 List.length A;rw[B6,B6]at l1;have l2:=Paired.len o;omega
  refine .inr ⟨go,la,λs B E=>∃p F x g h,r.Ext x/\Good K x F E/\bX K x p B/\bQ K x g s/\g++h=pre++w/\lcG hg ft fe (ys.drop (j+1)) p F=Z ((h,γ'),M'),?_,λy E hy=>?_⟩
  .rintro s B E ⟨p,F,x,g,h,e3,G3,R3,U,X,h3⟩;exact⟨_,61,p,F,x,g,h,u,rfl,Q.trans e3,G3,R3,U,X,h3⟩
  .let⟨W8,e8,G8,ry⟩:=yl y E hy;let⟨⟨C,M4⟩,h4,l⟩:=aH l;let⟨⟨b5,M5⟩,h5,l⟩:=aH l;refine a _ _ _ _ _ h4 W8 _ f y _ G8 (R2.up e8) ry λD W4 H4 e4 G4 I=>?_;refine c _ _ _ _ h5 W4 H4 D _ G4 I λW5 H5 L G5=>?_;have q:=(e8.trans e4).trans L;cases b5 with
   |true=>
    let⟨⟨z,M6⟩,h6,l⟩:=aH l;let⟨⟨⟨a0,a1⟩,M7⟩,h7,l⟩:=aH l;cases l;refine .inl ⟨rfl,b _ _ _ _ h6 W5 H5 D _ G5 (I.up L) λv W6 H6 e6 G6 r6=>?_⟩;exact⟨C,M6,W6,d++[z],a0,q.trans e6,G6,I.up<|L.trans e6,Paired.app (bQ.up o<|q.trans e6) (.cons r6 .nil),by rw[<- A,L7];rfl,h7⟩
   |false=>
    exact .inr ⟨rfl,C,M5,W5,d,n,q,G5,I.up L,bQ.up o q,A,l⟩
 .have e:j=ys.length:=61
  subst e;rw[A0s]at l;cases l;rw[J8]at A;subst A;exact .inl ⟨T,k acc f r H' (P.trans Q) G2 R2 o⟩
end
section
variable{K:Fg}
end
section
variable{prog:Ue}{w:World}{A:Uf}{R:Result->Ub->Prop}{s:Ub}
noncomputable abbrev tL(kx vx tg iter:Ud)(ifs:T8)(tg2 iter2:Ud)(ifs2:T8)(scope:Scope)(pos:Pos):Ud:=.DictComp kx vx [⟨tg,iter,ifs,0⟩,⟨tg2,iter2,ifs2,0⟩] scope pos
def compTurnD_1(kx vx tg iter:Ud)(ifs:T8)(d a:Ud)(b:T8)(scope:Scope)(pos:Pos)(it:Tz)(D:Uc)(env:Env):
 compTurn (tL kx vx tg iter ifs d a b scope pos) 1 it (.ref D) env=(do
  standAt a.pos
  match <- pyNext it with
  |none=>pure (.done .next)
  |some v=>
   ci d it v
   assign d env v
   let mut ok:=true
   for c in b do
    if ok then ok <- isTrue c env (eval c env)
   if ok then
    (do
     let e <- eval kx env;let f <- holding [e] (eval vx env)
     standAt { kx.pos with endLine:=vx.pos.endLine,endCol:=vx.pos.endCol }
     holding [e,f] (dictSet D e f))
   again (.compLoop (tL kx vx tg iter ifs d a b scope pos) 1 it (.ref D) env)):=by rfl
def compTurnD_0(kx vx tg iter:Ud)(ifs:T8)(d a:Ud)(b:T8)(scope:Scope)(pos:Pos)(it acc:Tz)(env:Env):
 compTurn (tL kx vx tg iter ifs d a b scope pos) 0 it acc env=(do
  standAt iter.pos
  match <- pyNext it with
  |none=>pure (.done .next)
  |some v=>
   ci tg it v
   assign tg env v
   let mut ok:=true
   for c in ifs do
    if ok then ok <- isTrue c env (eval c env)
   if ok then do
    let x <- eval a env
    standAt a.pos
    let x <- cc a env x;let _ <- runOwn (.compStart (tL kx vx tg iter ifs d a b scope pos) 1 (<- holding [x] (pyIter x)) acc env) env
    again (.compLoop (tL kx vx tg iter ifs d a b scope pos) 0 it acc env)
   else again (.compLoop (tL kx vx tg iter ifs d a b scope pos) 0 it acc env)):=by rfl
def aDz(I:Nat->Ub->Prop)
 (e:∀n s,I n s->bz (bx prog w) A (pyNext it) (λr s1=>(r=Y/\R (.ok .next) s1)\/∃v,r=Z v /\
  bz (bx prog w) A (ci d it v) (λ_ s2=>bz (bx prog w) A (assign d env v) (λ_ s3=>
   bz (bx prog w) A (forIn b true λc r=>if r=true then(do
    let ok <- isTrue c env (eval c env)
    pure (ForInStep.yield ok))else pure (ForInStep.yield r)) (λok s4=>
     (ok=true/\bz (bx prog w) A (eval kx env) (λj k=>bz (bx prog w) A (eval vx env) (λl o=>bz (bx prog w) A (dictSet D j l) (λ_ s7=>∃m,m<n/\I m s7) 75 o) 75 k) 75 s4) \/
     (ok=false/\∃m,m<n/\I m s4)) 75 s3) 75 s2) 75 s1) 75 s)
 (n:Nat) (h:I n s):cg (bx prog w) A (.compLoop (tL kx vx tg iter ifs d a b scope pos) 1 it (.ref D) env) R s:=by
 refine A2w rfl I (λn s p=>?_) n h
 show bz _ A ((compTurn (tL kx vx tg iter ifs d a b scope pos) 1 it (.ref D) env).onRaise λx=>do
  noteFrame x env
  theTreesLotGoes x) _ _ s
 refine wpAny_noted ?_;refine A1<|L9<|A1 (C7 (e n s p) (λr s1 g=>?_) λ_ _ f=>f.elim);obtain⟨rfl,g⟩|⟨v,rfl,g⟩:=g
 .exact A4 g
 .refine A1 (C7 g (λ_ s2 q=>?_) λ_ _ f=>f.elim);refine A1 (C7 q (λ_ s3 t=>?_) λ_ _ f=>f.elim);refine A1 (C7 t (λok s4 i=>?_) λ_ _ f=>f.elim);obtain⟨rfl,i⟩|⟨rfl,i⟩:=i
  .refine A1<|A1 (C7 i (λj k u=>?_) λ_ _ f=>f.elim);refine A1<|E7 (C7 u (λl o y=>?_) λ_ _ f=>f.elim);refine A1<|L9<|E7 (C7 y (λ_ s7 z=>A4 ⟨rfl,z⟩) λ_ _ f=>f.elim)
  .exact A4 ⟨rfl,i⟩
def aCY(hs:∀x,cc a env x=pure x)(I:Nat->Ub->Prop)
 (e:∀n s,I n s->bz (bx prog w) A (pyNext it) (λr s1=>(r=Y/\R (.ok .next) s1)\/∃v,r=Z v /\
  bz (bx prog w) A (ci tg it v) (λ_ s2=>bz (bx prog w) A (assign tg env v) (λ_ s3=>
   bz (bx prog w) A (forIn ifs true λc r=>if r=true then(do
    let ok <- isTrue c env (eval c env)
    pure (ForInStep.yield ok))else pure (ForInStep.yield r)) (λok s4=>
     (ok=true/\bz (bx prog w) A (eval a env) (λx k=>bz (bx prog w) A (pyIter x) (λg l=>∀R:Result->Ub->Prop,(∀s7,(∃m,m<n/\I m s7)->R (.ok .next) s7)->cg (bx prog w) A (.compStart (tL kx vx tg iter ifs d a b scope pos) 1 g acc env) R l) 75 k) 75 s4) \/
     (ok=false/\∃m,m<n/\I m s4)) 75 s3) 75 s2) 75 s1) 75 s)
 (n:Nat) (h:I n s):cg (bx prog w) A (.compLoop (tL kx vx tg iter ifs d a b scope pos) 0 it acc env) R s:=by
 refine A2w rfl I (λn s o=>?_) n h
 show bz _ A ((compTurn (tL kx vx tg iter ifs d a b scope pos) 0 it acc env).onRaise λx=>do
  noteFrame x env
  theTreesLotGoes x) _ _ s
 refine wpAny_noted ?_;refine A1<|L9<|A1 (C7 (e n s o) (λr s1 i=>?_) λ_ _ f=>f.elim);obtain⟨rfl,i⟩|⟨v,rfl,i⟩:=i
 .exact A4 i
 .refine A1 (C7 i (λ_ s2 p=>?_) λ_ _ f=>f.elim);refine A1 (C7 p (λ_ s3 q=>?_) λ_ _ f=>f.elim);refine A1 (C7 q (λok s4 j=>?_) λ_ _ f=>f.elim);obtain⟨rfl,j⟩|⟨rfl,j⟩:=j
  .refine A1 (C7 j (λx k t=>?_) λ_ _ f=>f.elim);refine A1<|L9<|A1<|A2r (hs x) ?_;refine A1<|E7 (C7 t (λg l u=>?_) λ_ _ f=>f.elim);exact A1<|wpAny_runOwn (u _ λs7 y=>A4 ⟨rfl,y⟩)
  .exact A4 ⟨rfl,j⟩
def aAC
 (e:cg (bx prog w) A (.compLoop (tL kx vx tg iter ifs c a b scope pos) 1 it acc env) R s)
 (h:bz (bx prog w) A (pyIter it) (λd s'=>cg (bx prog w) A (.compLoop (tL kx vx tg iter ifs c a b scope pos) 1 d acc env) R s')
  (notedBy (bx prog w) A env λx s'=>R (.error x) s') s):
 cg (bx prog w) A (.compStart (tL kx vx tg iter ifs c a b scope pos) 1 it acc env) R s:=by
 refine codeAny_of_tree ?_;refine wpAny_notedAt ?_;refine A1<|A2m<|wpAny_ite ?_;split
 .first
   |exact A1<|A4<|A4<|And.intro rfl e
   |exact A4<|And.intro rfl e
 .first
   |exact A1<|A0v<|A1<|L9<|A1 (C7 h (λd s' h'=>A4<|And.intro rfl h') λ_ _ x=>x)
   |(refine A1<|A0v ?_;show bz _ _ (standAt a.pos >>= _) _ _ s;exact A1<|L9<|A1 (C7 h (λd s' h'=>A4<|And.intro rfl h') λ_ _ x=>x))
end
def aHC(D:Uc)(l:TI)(g:TG)(n:TT)(o p:TE)(N:St->Hp->Prop):St->Hp->Prop:=λf H=>l f H λJ q=>∃W:Nat->Nat->St->Hp->Prop,(∃m,W 0 m f q)/\∀i m c H',W i m c H'->
 (J.stop i H'/\N c H') \/
 (J.go i H'/\∃e:St->Hp->Prop,(∀a d,e a d->∃h,h<m/\W (i+1) h a d)/\∀x d,J.yld i H' x d->g x c d λa r=>n a r λb j=>(b=true/\o a j λy s=>p a s λv t=>∃k,BB t D y v k/\e a k)\/(b=false/\e a j))
def aQF(n:HO)(cap:T2)(o:TI)(g:TG)(p:TT)(e:TI)(q:TG)(f:TT)(r s:TE):TE:=λh H Q=>o h H λJ j=>∀D,j D=Y->∃W:Nat->Nat->St->Hp->Prop,(∃m,W 0 m (xA cap h)<|upd j D n)/\∀i m c H',W i m c H'->
 (J.stop i H'/\Q (.ref D) H') \/
 (J.go i H'/\∃N:St->Hp->Prop,(∀a d,N a d->∃k,k<m/\W (i+1) k a d)/\∀x d,J.yld i H' x d->g x c d λa t=>p a t λb l=>(b=true/\aHC D e q f r s N a l)\/(b=false/\N a l))
def aEV{a:Cx}{F:TT}(hu:a.A.units<cLine)(hc:a.calm=true)
 (hi:PI a l d E) (hg:PG a l g2) (a0:yZ a j F) (hk:PE a kx tk) (hv:PE a vx tv) (G:a.xe=λ_ _=>False)
 (I:Inv a cp U H s) (h:aHC D E g2 F tk tv N U H):
 bz (bx a.prog a.w) a.A (eval d a.env) (λx s5=>bz (bx a.prog a.w) a.A (pyIter x) (λL s6=>∀R:Result->Ub->Prop,(∀s7,(∃c H',Inv a cp c H' s7/\N c H')->R (.ok .next) s7)->
  cg (bx a.prog a.w) a.A (.compStart (tL kx vx tg iter ifs l d j sc pos) 1 L (.ref D) a.env) R s6) 75 s5) 75 s:=by
 rw[<- G];refine thn (hi cp s U H _ I h) λv s5 h5=>thn h5 λL s6 h6=>?_;let⟨it,g,tn,J,H6,e,I6,T,M,f6,W,⟨m0,w0⟩,O⟩:=h6;subst e;intro R hR;have k:∀{Hx:Hp},(∀b∈g,Hx b=Y)->∀b∈g,nE a cp Hx b:=λ{Hx} hn b m=>⟨hn b m,(f6 b m).2⟩
 have t:cg (bx a.prog a.w) a.A (.compLoop (tL kx vx tg iter ifs l d j sc pos) 1 (.ref it) (.ref D) a.env) R s6:=by
  refine aDz (λn s'=>∃(i:Nat)(c:St)(H':Hp),Inv a cp c H' s'/\tn i s'.heap/\(∀b∈g,H' b=Y)/\W i n c H') ?_ m0 ⟨0,U,H6,I6,M,λb m=>(f6 b m).1,w0⟩;rintro n s7 ⟨i,c,H',I7,t7,P,w7⟩;rw[<- G];obtain⟨stop,q⟩|⟨go,N2,hN,step⟩:=O i n c H' w7
  .refine thn (T.done a rfl rfl rfl hc i _ s7 c H' _ I7 (k P) t7 stop) λr s8 ⟨hr,I8⟩=>.inl ⟨hr,?_⟩;exact hR s8 ⟨c,H',I8,q⟩
  .refine thn (T.item a rfl rfl rfl hc i _ s7 c H' _ I7 (k P) t7 go) λr s8 ⟨u,hr,h8⟩=>.inr ⟨u,hr,?_⟩;refine thn h8 λ_ s9 ⟨x,H9,I9,r9,y9,V,a1⟩=>?_;have a2:=I9.pinned (k a1) (T.obj _ _ V)
   have z:∀{B:St}{Hx:Hp}{X:Ub},Inv a (cp++qY g s9.heap) B Hx X->
    (∀b∈g,∀o,s9.heap.get? b=Z o->X.heap.get? b=Z o)/\(∀b∈g,Hx b=Y)/\Inv a cp B Hx X:=λ{B Hx X} Ix=>by
    refine⟨λb m o e=>(Ix.pin (b,o)<|B1 _<|B1 _<|cX m e).1,λb m=>?_,Ix.pins_of λp hp=>Ix.pin p<|B1 _<|E2 _ hp⟩;let⟨o,e,_⟩:=T.obj _ _ V b m;exact(Ix.pin (b,o)<|B1 _<|B1 _<|cX m e).2.1
   refine thn (hg _ s9 c H9 x u _ a2 r9<|step x H9 y9) λ_ a3 ⟨f,a4,a5,a6⟩=>?_;refine thn (a0 _ a3 f a4 _ a5 a6) λb a7 ⟨Q,S,C⟩=>?_;obtain⟨rfl,C⟩|⟨rfl,a8⟩:=C
   .refine .inl ⟨rfl,thn (hk _ a7 f Q _ S C) λuk a9 ⟨y,aa,ab,ry,ac⟩=>thn (hv _ a9 f aa _ ab ac) λuv am ⟨v,ao,ae,rv,af,ag,ah⟩=>?_⟩;let⟨m',hm,ai⟩:=hN _ _ ah;refine KJ hu ae ag ry rv λap aj=>?_;let⟨b1,b2,b3⟩:=z aj;exact⟨m',hm,i+1,f,af,b3,T.keep _ _ _ V b1,b2,ai⟩
   .let⟨m',hm,ak⟩:=hN _ _ a8;let⟨b1,b2,b3⟩:=z S;exact .inr ⟨rfl,m',hm,i+1,f,Q,b3,T.keep _ _ _ V b1,b2,ak⟩
 exact aAC t<|T.self _ 0 _ _ _ M t
def dcG(d:Nat)(g:GF)(c:TF)(f:KF)(e:EF):T5->Ga->Sto->Tx (Ga×Sto)
 |[],h,M=>Z (h,M)
 |x::xs,h,M=>(g x h M).bind λa=>(c a.1 a.2).bind λb=>if b.1=true then(f a.1 b.2).bind λk=>(e a.1 k.2).bind λv=>(AZ v.2 (.c d) k.1 v.1).bind λM'=>dcG d g c f e xs a.1 M' else dcG d g c f e xs a.1 b.2
def aBi(d:Nat)(g:GF)(c:TF)(f:AF)(h:GF)(i:TF)(j:KF)(e:EF):T5->Ga->Sto->Tx Sto
 |[],k,M=>Z M
 |x::xs,k,M=>(g x k M).bind λa=>(c a.1 a.2).bind λb=>if b.1=true then(f a.1 b.2).bind λr=>(dcG d h i j e r.1 a.1 r.2).bind λq=>aBi d g c f h i j e xs q.1 q.2 else aBi d g c f h i j e xs a.1 b.2
def aIJ(b:Cell)(cap:T2)(f:AF)(g:GF)(c:TF)(f2:AF)(d:GF)(h:TF)(i:KF)(e:EF):EF:=λa M=>(f a M).bind λr=>(aBi r.2.length g c f2 d h i e r.1 (qI cap a) (r.2++[b])).bind λM'=>Z (.c r.2.length,M')
section
variable{K:Fg}{tg:TG}{tt:TT}{hg:GF}{ft:TF}{fa:AF}{tg2:TG}{tt2:TT}{hg2:GF}{ft2:TF}{fa2:AF}{tk tv:TE}{fk:KF}{fe:EF}
def aGa(i:SI K wi fa)(a:SG K tg hg)(c:STt K tt ft)(b:SK K tk fk)(e:SE K tv fe){γ':Ga}{M1 M':Sto}{ys:T5}(h1:fa γ M=Z (ys,M1))(hh:dcG d hg ft fk fe ys γ M1=Z (γ',M'))
 {W:Wd} {I:St} {N:St->Hp->Prop} (G:Good K W M H) (R:bX K W γ I) (rD:bW K W (.c d) (.ref D))
 (k:∀f W' H',W.Ext W'->Good K W' M' H'->bX K W' γ' f->N f H'):aHC D wi tg tt tk tv N I H:=by
 refine i _ _ _ _ h1 W H I _ G R λJ W1 H1 L G1 gv=>?_
 refine⟨λj m f H'=>∃n M2 o,j<=ys.length/\m=ys.length-j/\W1.Ext o/\Good K o M2 H'/\bX K o n f/\dcG d hg ft fk fe (ys.drop j) n M2=Z (γ',M'),
  ⟨_,γ,M1,W1,E6 _,rfl,.refl _,G1,R.up L,hh⟩,?_⟩
 rintro j m f H' ⟨n,M2,o,hj,rfl,C,G2,R2,g⟩;let⟨O,P⟩:=gv o M2 H' C G2;by_cases q:j<ys.length
 .let⟨go,yl⟩:=O j ys[j]<|C0 q;rw[S5 q]at g;refine .inr ⟨go,λt E=>∃h F u,o.Ext u/\Good K u F E/\bX K u h t/\dcG d hg ft fk fe (ys.drop (j+1)) h F=Z (γ',M'),?_,λy E hy=>?_⟩
  .rintro t E ⟨h,F,u,e3,G3,R3,h3⟩;exact⟨_,61,h,F,u,q,rfl,C.trans e3,G3,R3,h3⟩
  .let⟨W8,e8,G8,ry⟩:=yl y E hy;let⟨⟨w,M4⟩,h4,g⟩:=aH g;let⟨⟨b5,M5⟩,h5,g⟩:=aH g;refine a _ _ _ _ _ h4 W8 _ f y _ G8 (R2.up e8) ry λr W4 H4 e4 G4 x=>?_;refine c _ _ _ _ h5 W4 H4 r _ G4 x λW5 H5 A G5=>?_;have B:=(e8.trans e4).trans A;cases b5 with
   |true=>
    let⟨⟨ky,M7⟩,h7,g⟩:=aH g;let⟨⟨z,a4⟩,Q,g⟩:=aH g;let⟨S,T,g⟩:=aH g;refine .inl ⟨rfl,b _ _ _ _ h7 W5 H5 r _ G5 (x.up A) λyv W7 H7 U G7 r7=>e _ _ _ _ Q W7 H7 r _ G7 (x.up<|A.trans U) λv V a5 s X a0=>?_⟩;have l:=(B.trans U).trans s;let⟨p,a1,ep,a2,a3⟩:=HN X T (rD.up<|(L.trans C).trans l) (r7.up s) a0;cases ep;exact⟨a1,a2,w,S,V,l,a3,x.up<|(A.trans U).trans s,g⟩
   |false=>
    exact .inr ⟨rfl,w,M5,W5,B,G5,x.up A,g⟩
 .have ej:j=ys.length:=61
  subst ej;rw[A0s]at g;cases g;exact .inl ⟨P,k f o H' (L.trans C) G2 R2⟩
def aLu{v:HO}{w:Cell}(h0:(v=.dT []/\w=.dt [])\/(v=.dK []/\w=.dk []))(i:SI K T fa)(a:SG K tg hg)(c:STt K tt ft)(i2:SI K q fa2)(a2:SG K tg2 hg2)(c2:STt K tt2 ft2)(b:SK K tk fk)(e:SE K tv fe):
 SE K (aQF v cap T tg tt q tg2 tt2 tk tv) (aIJ w cap fa hg ft fa2 hg2 ft2 fk fe):=by
 intro γ M x M' r W H σ Q G R k;let⟨⟨h,M1⟩,h1,r⟩:=aH r;let⟨M9,h9,r⟩:=aH r;cases (r);refine i _ _ _ _ h1 W H σ _ G R λJ z H1 U V gv=>λD hD=>?_;have G2:Good K (z.more D) (M1++[w]) (upd H1 D v):=V.new hD (by obtain⟨rfl,rfl⟩|⟨rfl,rfl⟩:=h0<;>exact .nil);have E:=z.ext_more D;have X:bW K (z.more D) (.c M1.length) (.ref D):=V.newV;refine⟨λj m f H'=>∃l A n,j<=h.length/\m=h.length-j/\(z.more D).Ext n/\Good K n A H'/\bX K n l f/\aBi M1.length hg ft fa2 hg2 ft2 fk fe (h.drop j) l A=Z M',⟨_,qI cap γ,_,_,E6 _,rfl,.refl _,G2,AD ((R.up U).up E) cap,h9⟩,?_⟩;rintro j m f H' ⟨l,A,n,hj,rfl,s,G3,R3,d⟩;let⟨F,I⟩:=gv n A H' (E.trans s) G3;by_cases o:j<h.length
 .let⟨go,yl⟩:=F j h[j]<|C0 o;rw[S5 o]at d;refine .inr ⟨go,λt B=>∃g C u,n.Ext u/\Good K u C B/\bX K u g t/\aBi M1.length hg ft fa2 hg2 ft2 fk fe (h.drop (j+1)) g C=Z M',?_,λy B hy=>?_⟩
  .rintro t B ⟨g,C,u,e4,G4,R4,h4⟩;exact⟨_,61,g,C,u,o,rfl,s.trans e4,G4,R4,h4⟩
  .let⟨W8,e8,G8,ry⟩:=yl y B hy;let⟨⟨L,M5⟩,h5,d⟩:=aH d;let⟨⟨b6,M6⟩,h6,d⟩:=aH d;refine a _ _ _ _ _ h5 W8 _ f y _ G8 (R3.up e8) ry λN W5 H5 e5 G5 O=>?_;refine c _ _ _ _ h6 W5 H5 N _ G5 O λW6 H6 P G6=>?_;have p:=(e8.trans e5).trans P;cases b6 with
   |true=>
    let⟨⟨us,M7⟩,h7,d⟩:=aH d;let⟨⟨S,M8⟩,h8,d⟩:=aH d;refine .inl ⟨rfl,aGa i2 a2 c2 b e h7 h8 G6 (O.up P) (X.up<|s.trans p) λf W' H' e' G' R'=>?_⟩;exact⟨S,M8,W',p.trans e',G',R',d⟩
   |false=>
    exact .inr ⟨rfl,L,M6,W6,p,G6,O.up P,d⟩
 .have ej:j=h.length:=61
  subst ej;rw[A0s]at d;cases d;exact .inl ⟨I,k _ n H' ((U.trans E).trans s) G3<|X.up s⟩
variable{ι:Type}{X:ι->Cx}{N':Tc}{cap:T2}{scope:Scope}{tg' iter tg2' iter2 kx vx:Ud}{ifs ifs2:T8}{gf gf2:GF}{f:EF}{pos:Pos}
end
noncomputable abbrev aEc(k:Bool):String:=match k with|true=>"list"|false=>"tuple"
noncomputable abbrev aAE(k:Bool):String:=match k with|true=>"list_iterator"|false=>"tuple_iterator"
def SqB(k:Bool)(K:Fg)(H:Hp)(a:Uc)(xs:Td):Prop:=match k with|true=>SqL K H a xs|false=>SqT K H a xs
def IsB(k:Bool)(h:Heap)(l:Uc)(xs:Ti):Prop:=∃o,h.get? l=Z o/\o.cls=.type (aEc k)/\∃n,o.data=.seq xs n
def ItB(k:Bool)(h:Heap)(it l:Uc)(i:Nat):Prop:=∃o,h.get? it=Z o/\o.cls=.type (aAE k)/\o.data=.fields #[.ref l,.int i 0]
def ItB.at{h':Heap}(x:ItB k h it l i)(f:∀o,h.get? it=Z o->h'.get? it=Z o):ItB k h' it l i:=let⟨o,e,r⟩:=x;⟨o,f o e,r⟩
def LD{A:Uf}(k:Bool)(b:A.handled=Y)(it l:Uc)(a:l≠it)(items:Ti):
 Draws prog w A it [it,l] items.size (λi v=>items[i]?=Z v) (λi h=>ItB k h it l i/\IsB k h l items):=
 match k with
 |true=>Draws.list b it l a items
 |false=>KC b it l a items
def aJv{s:Ub}{Q:T0}(a:IsB k s.heap l items)
 (b:Q (.ref s.heap.objs.size) { s with heap:=s.heap.push { cls:=.type (aAE k),data:=.fields #[.ref l,.int 0 0] } }):bz (bx prog w) A (pyIter (.ref l)) Q E s:=
 match k with
 |true=>wpAny_pyIter_list a b
 |false=>A1g a b
def aFZ:Meets (Builtin.«zip.__new__» ⟨[.type "zip",.ref a,.ref b],[]⟩) (λ_ R s=>IsB f s.heap a xs/\IsB i s.heap b ys /\
 ∀h',(∀c o,s.heap.get? c=Z o->h'.get? c=Z o)->h'.get? s.heap.objs.size=Z { cls:=.type (aAE f),data:=.fields #[.ref a,.int 0 0] }->h'.get? (s.heap.objs.size+1)=Z { cls:=.type (aAE i),data:=.fields #[.ref b,.int 0 0] }->
  IsPair h' (s.heap.objs.size+2) (.ref s.heap.objs.size) (.ref (s.heap.objs.size+1))->IsPair h' (s.heap.objs.size+3) .none .none->IsZip h' (s.heap.objs.size+4) (s.heap.objs.size+2) (s.heap.objs.size+3) .none->R (.ok (.ret (.ref (s.heap.objs.size+4)))) { s with heap:=h' }):=
 .of_wp λprog w A R s h=>by
  let⟨j,g,d,k,os⟩:=s;let⟨l,m,h⟩:=h;have sub:=sub_zip;have n:=l;have L2:IsB i (Shared.heap ⟨j.push { cls:=.type (aAE f),data:=.fields #[.ref a,.int 0 0] },g,d,k,os⟩) b ys:=let⟨o,e,r⟩:=m;⟨o,A3 _ e,r⟩
  wp_walk using aJv n,aJv L2
  refine⟨_,rfl,?_⟩;simp only[S3]at h ⊢;refine h _ (λc o e=>?_) ?_ ?_ ?_ ?_ ?_
  .exact A3 _<|A3 _<|A3 _<|A3 _<|A3 _ e
  .exact A3 _<|A3 _<|A3 _<|A3 _<|B5 _ rfl
  .exact A3 _<|A3 _<|A3 _<|DI<|S3 ..
  .exact A3 _<|A3 _<|DI (by simp only[S3])
  .exact A3 _<|DI (by simp only[S3])
  .exact DI (by simp only[S3])
def aOI(b c:Bool)(K:Fg)(d e:Uc):It:=
 ⟨λi H=>∃xs a x y,SqB b K H d xs/\SqB c K H e a/\xs[i]?=Z x/\a[i]?=Z y,
  λi H v H'=>∃p x y,H p=Y/\v=.ref p/\H'=upd H p (.tup [x,y])/\(∀xs,SqB b K H d xs->xs[i]?=Z x)/\∀a,SqB c K H e a->a[i]?=Z y,
  λi H=>∃xs a,SqB b K H d xs/\SqB c K H e a/\((i=xs.length)\/(i<xs.length/\i=a.length))⟩
def aQM(c d:Bool)(z TI TO i1 i2 e f:Uc)(i:Nat)(h:Heap):Prop:=IsZip h z TI TO .none/\IsPair h TI (.ref i1) (.ref i2)/\(∃a b,IsPair h TO a b)/\ItB c h i1 e i/\ItB d h i2 f i
section
variable{X:Cx}{cp:T1}{σ:St}{H:Hp}{s:Ub}{a:Uc}{xs ys:Td}{k:Bool}
def Inv.rowB(I:Inv X cp σ H s)(h:SqB k X.K H a xs):∃its:T4,bE xs its/\IsB k s.heap a its.toArray:=
 match k with
 |true=>let⟨its,r,p,_⟩:=I.list h;⟨its,r,p.isList⟩
 |false=>let⟨its,r,p,_⟩:=I.tuple h;⟨its,r,p⟩
def Inv.rowB_inj(I:Inv X cp σ H s)(h:SqB k X.K H a xs)(h':SqB k X.K H a ys):xs=ys:=
 match k with
 |true=>I.list_inj h h'
 |false=>I.tuple_inj h h'
end
section
variable{P:Ue}{w:World}{K:Fg}{elts:T8}{x1:Nat}{tpos:Pos}{z TI TO i1 i2 l1 l2:Uc}{k1 k2:Bool}
def nm_ne:Value.type (aAE k)≠.type (aEc k'):=68
def NR(T:IsB k h l xs)(d:IsZip h z TI TO .none)(f:ItB k1 h i1 l1 i)(g:ItB k2 h i2 l2 j)(m:l≠TO):NB z TO i1 i2 l:=by
 let⟨o,e,c,_⟩:=T;let⟨t,p,v,_⟩:=f;let⟨x,s,y,_⟩:=g
 have a:∀(b:Uc)(u:Obj),h.get? b=Z u->u.cls≠.type (aEc k)->l≠b:=λb u q n r=>by
  subst r;rw[e]at q;cases q;exact n c
 exact⟨a z _ d 68,m,a i1 _ p 68,a i2 _ s 68⟩
def aBC(A5:Apart5 z TI TO i1 i2)(n1:l1≠TO)(n2:l2≠TO):Turn P w K (.Tuple elts x1 tpos) (aOI k1 k2 K l1 l2) [z,TI,TO,i1,i2] z (aQM k1 k2 z TI TO i1 i2 l1 l2) where
 mem:=67
 obj:=λi h st b hb=>by
  let⟨hz,hTI,⟨a,c,hTO⟩,⟨o1,e1,_,d1⟩,⟨o2,e2,_,d2⟩⟩:=st;simp only[C1,Y9,A2e]at hb;obtain rfl|rfl|rfl|rfl|rfl:=hb
  .exact⟨_,hz,λv q=>by cases q⟩
  .exact⟨_,hTI,λv q=>by cases q⟩
  .exact⟨_,hTO,λv q=>by cases q⟩
  .exact⟨_,e1,λv q=>by rw[d1]at q;cases q⟩
  .exact⟨_,e2,λv q=>by rw[d2]at q;cases q⟩
 keep:=λi h h' st k=>by
  let⟨hz,hTI,⟨a,c,hTO⟩,h1,h2⟩:=st;exact⟨k z 67 _ hz,k TI 67 _ hTI,⟨a,c,k TO 67 _ hTO⟩,h1.at λo e=>k i1 67 o e,h2.at λo e=>k i2 67 o e⟩
 item:=by
  intro X hP hw hK hc i cp s σ H E I hf st hg;subst hP hw hK;let⟨xs,ys,x,y,hq1,hq2,hx,hy⟩:=hg;let⟨its,rv,p⟩:=I.rowB hq1;let⟨jts,rw',p'⟩:=I.rowB hq2;let⟨u,hu,ru⟩:=rv.get hx;let⟨v,hv,rv'⟩:=rw'.get hy;let⟨hz,hTI,⟨a,c,hTO⟩,h1,h2⟩:=id st;have F1:=NR p hz h1 h2 n1;have F2:=NR p' hz h1 h2 n2;have hh:X.A.in1.handled=Y:=I.ok.hd hc;have li:=(B9.mp hu).1;have lj:=(B9.mp hv).1;refine aGK A5 F1 F2 (LD k1 hh i1 l1 F1.a its.toArray) (LD k2 hh i2 l2 F2.b jts.toArray) hz hTI hTO ⟨h1,p⟩ ⟨h2,p'⟩ 61 61 λh' tk u' v' e1 e2 a1 a2 a3 a4 a5 hk=>⟨_,rfl,?_⟩;have e1:=E5<|hu.symm.trans<|(A0m ..).symm.trans e1;have e2:=E5<|hv.symm.trans<|(A0m ..).symm.trans e2;subst e1 e2;refine wpAny_letOwnedTupleGo_zip a1 λh2' hz2 sb=>?_
  have lt:∀b∈[z,TI,TO,i1,i2],s.heap.objs.size≠b:=λb hb q=>by
   let⟨o1,e1,_⟩:=id h1;let⟨o2,e2,_⟩:=id h2;simp only[C1,Y9,A2e]at hb
   have:∃o,s.heap.get? b=Z o:=by
    obtain rfl|rfl|rfl|rfl|rfl:=hb
    .exact⟨_,hz⟩
    .exact⟨_,hTI⟩
    .exact⟨_,hTO⟩
    .exact⟨_,e1⟩
    .exact⟨_,e2⟩
   let⟨o,e⟩:=this;rw[<- q]at e;exact absurd (B2 e)<|Y5 _
  have kk:∀b o,b∉[z,TI,TO,i1,i2]->s.heap.get? b=Z o->h2'.get? b=Z o:=λb o hb q=>by
   simp only[C1,Y9,A2e,not_or]at hb;exact(sb.2 b hb.1).trans (hk b o hb.1 hb.2.2.1 hb.2.2.2.1 hb.2.2.2.2 q)
  have ht2:=(sb.2 _<|lt z 67).trans a5
  have I2:Inv X cp σ (upd H s.heap.objs.size (.tup [x,y])) { s with heap:=h2',toks:=tk }:=
   I.turnLay hf kk (B3 _) ⟨by show 2<=bv;rw[J7];decide,[u,v],.cons ru (.cons rv' .nil),⟨_,ht2,rfl,_,rfl⟩⟩
  refine⟨.ref s.heap.objs.size,_,I2,rfl,⟨_,x,y,I.hok.fresh<|B3 _,rfl,rfl,λws hw=>by rw[I.rowB_inj hw hq1];exact hx,λws hw=>by rw[I.rowB_inj hw hq2];exact hy⟩,⟨hz2,?_,⟨_,_,(sb.2 TO A5.TOz).trans a2⟩,a3.1.at λo e=>(sb.2 i1 A5.i1z).trans e,a4.1.at λo e=>(sb.2 i2 A5.i2z).trans e⟩,λb hb=>?_⟩
  .exact(sb.2 TI A5.TIz).trans (hk TI _ A5.TIz A5.TITO A5.TIi1 A5.TIi2 hTI)
  .rw[aO λq=>lt b hb q.symm];exact(hf b hb).1
 done:=by
  intro X hP hw hK hc i cp s σ H E I hf st hg;subst hP hw hK;let⟨xs,ys,hq1,hq2,hend⟩:=hg;let⟨its,rv,p⟩:=I.rowB hq1;let⟨jts,rw',p'⟩:=I.rowB hq2;let⟨hz,hTI,⟨a,c,hTO⟩,h1,h2⟩:=id st;have l1':=rv.length;have l2':=rw'.length;have F1:=NR p hz h1 h2 n1;have F2:=NR p' hz h1 h2 n2;have hh:X.A.in1.handled=Y:=I.ok.hd hc;refine aGl A5 F1 F2 (LD k1 hh i1 l1 F1.a its.toArray) (LD k2 hh i2 l2 F2.b jts.toArray) hz hTI hTO ⟨h1,p⟩ ⟨h2,p'⟩ 68 λh' tk hk=>⟨rfl,I.turnF hf λb o hb q=>?_⟩;simp only[C1,Y9,A2e,not_or]at hb;exact hk b o hb.1 hb.2.2.1 hb.2.2.2.1 hb.2.2.2.2 q
 self:=λA i s Q E st h=>wpAny_pyIter_zip st.1 h
end
section
variable{X:Cx}{elts:T8}{x1:Nat}{tpos:Pos}
def aJD(K:Fg)(f:TA):TI:=λg H R=>f g H λvs c=>∃a b d e xs h,vs=[.ref a,.ref b]/\SqB d K c a xs/\SqB e K c b h/\R (aOI d e K a b) c
def aHY{a b:Ud}{t:TA}{p pos:Pos}(x:Gl X "zip")(hm:X.mg "zip"=Y)(ha:PA X [a,b] t)(hs:cb [a,b] X.env=[(false,eval a X.env),(false,eval b X.env)])(f:cb [b] X.env=[(false,eval b X.env)]):PI X (.Tuple elts x1 tpos) (.Call (.Name "zip" p) [a,b] [] pos) (aJD X.K t):=by
 intro cp s y H R I h;refine Call_<|iI I x hm boot_zip<|F9 (thn (ha pos cp s y H _ I h) λus s1 ⟨vs,u,c,z,A⟩=>?_) 68 (by rw[f];rfl);let⟨l,B,P,Q,xs,S,e,g,i,q⟩:=A;subst e;cases z with
 |cons r j=>
  cases j with
  |cons C j=>
   cases j;cases r;cases C
   have fp:∀b∈[s1.heap.objs.size+4,s1.heap.objs.size+2,s1.heap.objs.size+3,s1.heap.objs.size,s1.heap.objs.size+1],nE X cp u b:=λb D=>by
    have d:s1.heap.objs.size<=b:=by
     simp only[C1,Y9,A2e]at D;omega
    exact c.fpOk d<|c.hok.fresh d
   let⟨its,T,v⟩:=c.rowB g;let⟨E,G,w⟩:=c.rowB i;have J:l<s1.heap.objs.size:=by let⟨o,e,_⟩:=v;exact B2 e
   have L:B<s1.heap.objs.size:=by let⟨o,e,_⟩:=w;exact B2 e
   refine callType_new F.called_zip 66 (F.typeCall_zip_2 _ _) (F.newCall_zip_2 _ _) (λobj=>F.args_object_init_3 obj _ _) F.entry_zip_new aFZ ⟨v,w,λh' M N O k m n=>⟨⟨_,n,rfl⟩,wpAny_pyIter_zip n ?_⟩⟩;exact⟨_,_,_,_,u,rfl,c.kept M,aBC (aBe _) (C2<|Nat.lt_add_right 3 J)<|C2<|Nat.lt_add_right 3 L,⟨n,k,⟨_,_,m⟩,⟨_,N,rfl,rfl⟩,⟨_,O,rfl,rfl⟩⟩,fp,q⟩
end
def CH(f:AF):AF:=λa M=>(f a M).bind λr=>match r.1 with
 |[.d x,.d y]=>match aR x,aR y with
  |some xs,some b=>Z (tF xs b,r.2)
  |_,_=>Y
 |_=>Y
def YY{xs:T3}(h:aR x=Z xs)(r:Rep K H x v):∃k a us,v=V.ref a/\SqB k K H a us/\aL K H xs us:=by
 obtain⟨a,us,e,h1|h1,b⟩:=lN r h
 .exact⟨true,a,us,e,h1,b⟩
 .exact⟨false,a,us,e,h1,b⟩
def SqB.to(e:jA H H')(h:SqB k K H a xs):SqB k K H' a xs:=
 match k with
 |true=>e.seq h
 |false=>e.seqT h
def aIF(b:SA K t fa):SI K (aJD K t) (CH fa):=by
 intro γ M xs M' a W H B R G Rs k;let⟨⟨ys,M1⟩,C,a⟩:=aH a;refine b _ _ _ _ C W H B _ G Rs λvs D E F j I=>?_;revert a;dsimp only;split
 .rename_i x y;split
  .rename_i as bs ha J;intro a;cases a;cases I with
   |cons r L=>
    cases L with
    |cons N l=>
     cases l;let⟨O,p,us,rfl,hs,w⟩:=YY ha r;let⟨P,Q,e,rfl,f,g⟩:=YY J N;refine⟨p,Q,O,P,us,e,rfl,hs.to j.fh,f.to j.fh,k _ D E F j λW2 M2 H2 h G2=>?_⟩;have m:=(hs.to h.ff).to G2.fh;have n:=(f.to h.ff).to G2.fh;refine⟨λi x S=>?_,us,e,m,n,?_⟩
     .let⟨c,d,T,hd,rfl⟩:=PQ S;let⟨u,z,U⟩:=Paired.get (kK w) (by rw[D7,T];rfl);let⟨v,A,V⟩:=Paired.get (kK g) (by rw[D7,hd];rfl);refine⟨⟨us,e,u,v,m,n,z,A⟩,λy H3 X=>?_⟩;let⟨p3,x',y',hn,rfl,rfl,o,q⟩:=X;have:=o us m;rw[z]at this;cases this;have:=q e n;rw[A]at this;cases this;let⟨s,G3⟩:=G2.lay hn;refine⟨_,s,G3,⟨p3,_,rfl,SqT.of aS,?_⟩⟩;exact⟨_,_,rfl,Rep.same s.ff _ _<|U.up h,_,_,rfl,Rep.same s.ff _ _<|V.up h,rfl⟩
     .have:=KR as bs;rw[<- w.length,<- g.length];exact this
  .intro a;cases a
 .intro a;cases a
def WV{ι:Type}{X:ι->Cx}{a b:Ud}{fa:AF}{pos:Pos}{p:Pos}(d:∀i,(X i).K=K)(hm:∀i,(X i).mg "zip"=Y)(x:MA K X [a,b] fa)(e:∀i,Gl (X i) "zip":=by intro _;rfl):MI K X (.Tuple elts x1 tpos) (.Call (.Name "zip" p) [a,b] [] pos) (CH fa):=by
 let⟨t,c,f⟩:=x.ex;exact⟨_,λi=>by have:=aHY (elts:=elts) (x1:=x1) (tpos:=tpos) (p:=p) (pos:=pos) (e i) (hm i) (c i) (by rw[x.st.1,x.st.2.1];rfl) (by rw[x.st.2.1];rfl);rw[d i]at this;exact this,aIF f⟩
def yQ(f:EX)(p q:SFX):SFX:=λa M=>(f a M).bind λr=>match r.1 with
 |.x e=>Z (.xc a e,r.2)
 |.v (.d (.bool b))=>if b=true then q a r.2 else p a r.2
 |_=>Y
section
variable{K:Fg}{EE:St->XK}{ta:TE}{t u:TS}{f:EX}{p q:SFX}
def aGq(c:SEX K EE ta f)(a:SSX K EE t p)(b:SSX K EE u q):SSX K EE (aIP (aNx<|tB ta) t u) (yQ f p q):=by
 intro y M o M' d W H g D G R k;let⟨⟨x,M1⟩,s,d⟩:=aH d;refine c _ _ _ _ s W H g _ G R λh i e j=>?_;dsimp only at d;split at d
 .cases d;exact λc dx z=>k h i e j g c dx (R.up e) z
 .rename_i w;intro v r;cases w with
  |true=>exact⟨true,r,by show(if (false:Bool)=true then _ else _);rw[B7 C4];rw[A8 rfl]at d;exact b _ _ _ _ d h i g D j (R.up e) λl m n G2=>k l m (e.trans n) G2⟩
  |false=>exact⟨false,r,by show(if (true:Bool)=true then _ else _);rw[A8 rfl];rw[B7 C4]at d;exact a _ _ _ _ d h i g D j (R.up e) λl m n G2=>k l m (e.trans n) G2⟩
 .cases d
end
section
variable{ι:Type}{K:Fg}{X:ι->Cx}{EE:ι->St->XK}{e:Ud}{f:EX}{p q:SFX}{sts sts':Ta}{pos pos':Pos}
def aHU(x:MX K X EE e f)(y:MLX K X EE sts p)(z:MLX K X EE sts' q)(b:∀(env:Env)(a:Sem Tz),isTrue e env a=(do let v <- a;standAt e.pos;holding [v]<|truthy v):=by intro _ _;rfl):MSX K X EE (.If (.UnaryOp .Not e pos') sts sts' pos) (yQ f p q):=by
 let⟨t,c,d⟩:=x.ex;let⟨u,g,h⟩:=y.ex;let⟨v,j,k⟩:=z.ex;exact⟨_,λi=>aFA (aCR<|aFb (c i)<|b _) (g i)<|j i,λi=>aGq (d i) (h i)<|k i⟩
end
def aLM(k:HO)(cap:T2)(l:TI)(g:TG)(n:TT)(bd:Uc->(St->Hp->Prop)->St->Hp->Prop):TE:=λe H Q=>l e H λJ f=>∀D,f D=Y->∃W:Nat->Nat->St->Hp->Prop,(∃m,W 0 m (xA cap e)<|upd f D k)/\∀i m c H',W i m c H'->
 (J.stop i H'/\Q (.ref D) H') \/
 (J.go i H'/\∃N:St->Hp->Prop,(∀a d,N a d->∃h,h<m/\W (i+1) h a d)/\∀x d,J.yld i H' x d->g x c d λa o=>n a o λb j=>(b=true/\bd D N a j)\/(b=false/\N a j))
structure DcB(X:Cx)(N':Tc)(scope:Scope)(kx vx tg iter:Ud)(ifs:T8)(rest:Tv Comprehension)(pos:Pos)(bd:Uc->(St->Hp->Prop)->St->Hp->Prop):Prop where
 ex:∃BD:Uc->Env->(Ub->Prop)->Ub->Prop,
  (∀{R:Result->Ub->Prop}{s:Ub}{it:Tz}{D:Uc}{env:Env}(I:Nat->Ub->Prop),(∀n s,I n s->bz (bx X.prog X.w) X.A (pyNext it) (λr s1=>(r=Y/\R (.ok .next) s1)\/∃v,r=Z v /\
   bz (bx X.prog X.w) X.A (ci tg it v) (λ_ s2=>bz (bx X.prog X.w) X.A (assign tg env v) (λ_ s3=>
    bz (bx X.prog X.w) X.A (forIn ifs true λc r=>if r=true then(do
     let ok <- isTrue c env (eval c env)
     pure (ForInStep.yield ok))else pure (ForInStep.yield r)) (λok s4=>
      (ok=true/\BD D env (λs7=>∃m,m<n/\I m s7) s4)\/(ok=false/\∃m,m<n/\I m s4)) (λ_ _=>False) s3) (λ_ _=>False) s2) (λ_ _=>False) s1) (λ_ _=>False) s)->
   ∀n,I n s->cg (bx X.prog X.w) X.A (.compLoop (.DictComp kx vx (⟨tg,iter,ifs,0⟩::rest) scope pos) 0 it (.ref D) env) R s) /\
  ∀{C:Uc}{sa:Ub}{Ha:Hp}{fp:Tb}{pn cp:T1}{σ:St}{H:Hp}{s:Ub}{D:Uc}{N:St->Hp->Prop}{P:Ub->Prop},Inv (bV X N' scope C sa Ha fp pn) cp σ H s->bd D N σ H->(∀σ' H' s',Inv (bV X N' scope C sa Ha fp pn) cp σ' H' s'->N σ' H'->P s')->BD D (bV X N' scope C sa Ha fp pn).env P s
section
variable{X:Cx}{N':Tc}{cap:T2}{scope:Scope}
def aAa{f:HO}(ho:f=.dT []\/f=.dK []){rest:Tv Comprehension}(hc:X.calm=true)(S:qT X N' cap scope)(hi:PI X tg iter wi)
 (hg:∀C s H fp pn,PG (bV X N' scope C s H fp pn) tg g) (a5:∀C s H fp pn,yZ (bV X N' scope C s H fp pn) ifs tc) (B:DcB X N' scope kx vx tg iter ifs rest pos bd)
 (hs:∀x,cc iter X.env x=pure x) (I:Inv X cp M H s) (h:aLM f cap wi g tc bd M H Q)
 (a0:∀(D C:Uc)(H':Hp)(s':Ub),(∃m,s'.heap.Ns C m)->(∀h',Heap.SameBut C s'.heap h'->Inv X cp M H' { s' with heap:=h' })->nE X cp H' C->Q (.ref D) H'->compPost (bx X.prog X.w) X.A X.xe use QQ (.ref D) C (.ok .next) s'):
 bz (bx X.prog X.w) X.A (comprehension (.DictComp kx vx (⟨tg,iter,ifs,0⟩::rest) scope pos) scope X.env (firstIterPos (⟨tg,iter,ifs,0⟩::rest) pos) newDict false (firstIter (⟨tg,iter,ifs,0⟩::rest) X.env) use) QQ X.xe s:=by
 let⟨BD,Bl,Bb⟩:=B.ex;refine wpAny_comprehension_free (e:=.DictComp kx vx (⟨tg,iter,ifs,0⟩::rest) scope pos) (g:=⟨tg,iter,ifs,0⟩) (gs:=rest) rfl hs (GY<|S.cells I.ok) S.kind S.names ?_;refine thn (hi cp s M H _ I h) λv s1 h1=>thn h1 λah s2 h2=>?_;let⟨it,fp,tn,J,j,e,I2,T,a1,f2,hD⟩:=h2;subst e
 have O:∀b∈fp,b<s2.heap.objs.size:=λb a=>by
  let⟨o,e,_⟩:=T.obj _ _ a1 b a;exact B2 e
 refine D6 ?_;let⟨W,⟨m0,w0⟩,a2⟩:=hD s2.heap.objs.size<|I2.hok.fresh<|B3 _;generalize P:s2.heap.objs.size=D at *
 have I3:Inv X cp M (upd j D f) { s2 with heap:=s2.heap.push { cls:=.type "dict",data:=.dict #[] } }:=by
  refine I2.laid (t':=s2.toks) (λ_ _ q=>A3 _ q) (Nat.le_of_eq P) ?_;obtain rfl|rfl:=ho
  .rw[<- P];exact QT _ I2.big
  .rw[<- P];exact EZ _ I2.big
 have k:tn 0 (s2.heap.push { cls:=.type "dict",data:=.dict #[] }):=T.keep _ _ _ a1 λb _ o e=>A3 _ e
 have t:∀b∈fp,nE X cp (upd j D f) b:=λb a=>by
  let⟨q0,q1⟩:=f2 b a;exact⟨by rw[aO (C2<|O b a)];exact q0,q1⟩
 generalize a6:({ s2 with heap:=s2.heap.push { cls:=.type "dict",data:=.dict #[] } }:Ub)=s3 at I3 ⊢;have k:tn 0 s3.heap:=by rw[<- a6];exact k
 have F:∀b∈fp,b<s3.heap.objs.size:=λb a=>by
  let⟨o,e,_⟩:=T.obj _ _ k b a;exact B2 e
 refine wpAny_newFunctionEnv S.nocell (λy hy=>by simp at hy) (λR a7 a8=>?_) S.kind;have U:∀b o,s3.heap.get? b=Z o->R.get? b=Z o:=λb o e=>a8.extBut b o (C2<|B2 e)<|A3 _ e
 have I4:Inv (bV X N' scope s3.heap.objs.size s3 (upd j D f) fp cp) [] (xA cap M) (upd j D f) { s3 with heap:=R,toks:=s3.toks+([]:Tt).length }:=
  QX S I3 t F (B3 _) (by simpa using a7) U
 have G:∀s4:Ub,s4={ s3 with heap:=R,toks:=s3.toks+([]:Tt).length }->
  cg (bx X.prog X.w) X.A (.compLoop (.DictComp kx vx (⟨tg,iter,ifs,0⟩::rest) scope pos) 0 (.ref it) (.ref D) (compEnvC scope (hZ X.env scope.names []) s3.heap.objs.size X.env)) (compPost (bx X.prog X.w) X.A X.xe use QQ (.ref D) s3.heap.objs.size) s4:=by
  rintro s4 rfl
  have l:∀{Hx:Hp},(∀b∈fp,Hx b=Y)->∀b∈fp,nE (bV X N' scope s3.heap.objs.size s3 (upd j D f) fp cp) [] Hx b:=λ{Hx} hn b a=>by
   refine⟨hn b a,C2<|F b a,I3.stkAll (t b a).2.1 (t b a).2.2.1,.inl a,λx c e=>(t b a).2.2.2.2.1 x c (S.sub I3.ok x c e),λp hp=>?_⟩;obtain z|z:=D5.mp hp
   .exact(t b a).2.2.2.2.2 p z
   .exact absurd z 67
  refine Bl (λn s'=>∃(i:Nat)(d:St)(H':Hp),Inv (bV X N' scope s3.heap.objs.size s3 (upd j D f) fp cp) [] d H' s'/\tn i s'.heap/\(∀b∈fp,H' b=Y)/\W i n d H') ?_ m0
   ⟨0,xA cap M,_,I4,T.keep _ _ _ k λb _ o e=>U b o e,λb a=>(t b a).1,w0⟩
  rintro n s5 ⟨i,d,H',I5,t5,a3,w5⟩;obtain⟨stop,q⟩|⟨go,N,hN,step⟩:=a2 i n d H' w5
  .refine thn (T.done (bV X N' scope s3.heap.objs.size s3 (upd j D f) fp cp) rfl rfl rfl hc i _ s5 d H' _ I5 (l a3) t5 stop) λr s6 ⟨hr,I6⟩=>.inl ⟨hr,?_⟩;have nC:H' s3.heap.objs.size=Y:=I6.free;refine a0 D _ H' s6 (let⟨m,hn,_⟩:=I6.loc;⟨m,hn⟩) (λh' a9=>?_) (I3.fpOk (B3 _) nC) q;have up:∀b o,b≠s3.heap.objs.size->s6.heap.get? b=Z o->h'.get? b=Z o:=λb o a e=>a9.extBut b o a e;have V:∀b o,s3.heap.get? b=Z o->b≠s3.heap.objs.size:=λb o e=>C2<|B2 e;have u6:Un (frs X.stack) fp (upd j D f) H' s3.heap s6.heap:=I6.base
   have u7:Un (frs X.stack) fp (upd j D f) H' s3.heap h':=by
    refine⟨λb o e n a hx=>up b o (V b o e)<|u6.keep b o e n a hx,λb o e n a hx=>?_,u6.free,λb o e hx=>?_,u6.tups,u6.frzs,u6.tbls⟩
    .let⟨sl,q⟩:=u6.slot b o e n a hx;exact⟨sl,up b _ (V b o e) q⟩
    .let⟨o',q⟩:=u6.there b o e hx;exact⟨o',up b o' (V b o e) q⟩
   have aa:HOk X.prog X.w H' h':=λb u e=>by
    refine(I6.hok b u e).stay (λc v ab z=>up c v ?_ z) (λc z=>z) λc xs z=>z;obtain rfl|z:=ab
    .exact aX e nC
    .exact aX z nC
   have ac:s6.os=s3.os:=I6.os;have ae:=I6.bare;let⟨hh,gg,dd,tt,oo⟩:=s6;subst ac;have z7:=I3.call (s:=s3) (h':=h') (g':=gg) (d':=dd) (t':=tt) (ch:=fp) u7 aa ae λb a=>⟨(t b a).2.2.2.1,(t b a).2.1,(t b a).2.2.2.2.1,(t b a).2.2.2.2.2⟩;exact z7
  .refine thn (T.item (bV X N' scope s3.heap.objs.size s3 (upd j D f) fp cp) rfl rfl rfl hc i _ s5 d H' _ I5 (l a3) t5 go) λr s6 ⟨u,hr,h6⟩=>.inr ⟨u,hr,?_⟩;refine thn h6 λ_ s7 ⟨x,H7,I7,r7,y7,t7,af⟩=>?_;have ag:=I7.pinned (l af) (T.obj _ _ t7)
   have L:∀{E:St}{Hx:Hp}{sx:Ub},Inv (bV X N' scope s3.heap.objs.size s3 (upd j D f) fp cp) ([]++qY fp s7.heap) E Hx sx->(∀b∈fp,∀o,s7.heap.get? b=Z o->sx.heap.get? b=Z o)/\(∀b∈fp,Hx b=Y):=λ{E Hx sx} Ix=>by
    refine⟨λb a o e=>(Ix.pin (b,o)<|B1 _<|B1 _<|cX a e).1,λb a=>?_⟩;let⟨o,e,_⟩:=T.obj _ _ t7 b a;exact(Ix.pin (b,o)<|B1 _<|B1 _<|cX a e).2.1
   refine thn (hg _ _ _ _ _ _ s7 d H7 x u _ ag r7<|step x H7 y7) λ_ s8 ⟨a4,H8,I8,q8⟩=>?_;refine thn (a5 _ _ _ _ _ _ s8 a4 H8 _ I8 q8) λb s9 ⟨H9,I9,q9⟩=>?_;obtain⟨rfl,q9⟩|⟨rfl,n9⟩:=q9
   .refine .inl ⟨rfl,Bb I9 q9 λE Hx sx Ix nx=>?_⟩;let⟨m',hm,wx⟩:=hN _ _ nx;let⟨b1,b2⟩:=L Ix;exact⟨m',hm,i+1,E,Hx,Ix.pins_of λp hp=>absurd hp 67,T.keep _ _ _ t7 b1,b2,wx⟩
   .let⟨m',hm,w9⟩:=hN _ _ n9;let⟨b1,b2⟩:=L I9;exact .inr ⟨rfl,m',hm,i+1,a4,H9,I9.pins_of λp hp=>absurd hp 67,T.keep _ _ _ t7 b1,b2,w9⟩
 exact codeAny_compStart_dict (G _ rfl)<|T.self _ 0 _ _ _ (T.keep _ _ _ k λb _ o e=>U b o e)<|G _ rfl
def aBH{i:Nat}{x:Str}{f:HO}(J:f=.dT []\/f=.dK []){rest:Tv Comprehension}{c:Pos}(L:X.N.Nodup)(j:X.N[i]?=Z x)(O:X.calm=true)(S:qT X N' cap scope)(hi:PI X tg iter t)
 (P:∀C s H fp pn,PG (bV X N' scope C s H fp pn) tg g) (k:∀C s H fp pn,yZ (bV X N' scope C s H fp pn) ifs y) (B:DcB X N' scope kx vx tg iter ifs rest pos bd)
 (l:swapsWith (.DictComp kx vx (⟨tg,iter,ifs,0⟩::rest) scope pos) (Z (.Name x pos')) c.line X.env=pure true) (F:X.env.scope.names.lookup x=Z .local)
 (hs:∀x,cc iter X.env x=pure x):PS X (.Assign [.Name x pos'] (.DictComp kx vx (⟨tg,iter,ifs,0⟩::rest) scope pos) c) (aAU (aLM f cap t g y bd)<|DU i):=by
 intro cp s G H D I h;rw[exec_Assign_Name_used _ _ _ _ l];refine A1<|L9<|A1 ?_;show bz _ _ (comprehension (.DictComp kx vx (⟨tg,iter,ifs,0⟩::rest) scope pos) scope X.env _ newDict false (firstIter (⟨tg,iter,ifs,0⟩::rest) X.env) (Z<|assign (.Name x pos') X.env) >>= λ_=>pure ()) _ _ s;refine A1 (thn (aAa (use:=Z<|assign (.Name x pos') X.env) (QQ:=λ_ s'=>∃d H',Inv X cp d H' s'/\D.nx d H') (Q:=λv R=>DU i v G R D.nx) J O S hi P k B hs I h λE C H' s' ⟨m,hn⟩ T fC U=>?_) λ_ s' V=>A4<|A4 V);have W:Inv X cp G H' s':=T s'.heap<|A2c ..;refine wpAny_assign_Name<|AN (M:=bx X.prog X.w) (A:=X.A) (E:=X.xe) W L j (.inl F) (v:=.ref E) (u:=.ref E) rfl (λs2 I2 n=>?_) (.inr F);let⟨a,p,ha⟩:=n
 have q:C≠a:=by
  obtain z|z:=ha
  .rw[z];exact fC.2.1
  .exact λw=>fC.2.2.2.2.1 x a z w.symm
 refine⟨m,hn.extBut p.extBut q,λh' r=>?_⟩;exact⟨_,_,I2.turned (t':=s2.toks) (λb o hb e=>r.extBut b o hb e) fC.1 fC.2.1 fC.2.2.2.1 fC.2.2.2.2.1 fC.2.2.2.2.2,U⟩
end
section
variable{X:Cx}{N':Tc}{cap:T2}{scope:Scope}{kx vx tg iter:Ud}{ifs:T8}{pos:Pos}{tk tv:TE}
def aQE(o:X.A.units<cLine)(p:∀C s H fp pn,PE (bV X N' scope C s H fp pn) kx tk)(q:∀C s H fp pn,PE (bV X N' scope C s H fp pn) vx tv):
 DcB X N' scope kx vx tg iter ifs [] pos (λD N a H=>tk a H λy r=>tv a r λv t=>∃m,BB t D y v m/\N a m):=
 ⟨λD env P s4=>bz (bx X.prog X.w) X.A (eval kx env) (λu x=>bz (bx X.prog X.w) X.A (eval vx env) (λz B=>bz (bx X.prog X.w) X.A (dictSet D u z) (λ_ s7=>P s7) 75 B) 75 x) 75 s4,λI b n h=>aGd I b n h,by
  intro C sa Ha fp pn cp a H s D N P I h k;refine thn (p _ _ _ _ _ _ s a H _ I h) λO c ⟨y,d,e,E,f⟩=>thn (q _ _ _ _ _ _ c a d _ e f) λQ F ⟨v,G,g,J,L,i,j⟩=>?_;exact KJ (X:=bV X N' scope C sa Ha fp pn) o g i E J λM l=>k _ _ _ l j⟩
def aQI(t:X.A.units<cLine)(u:X.calm=true)(j:∀C s H fp pn,PI (bV X N' scope C s H fp pn) c a d)(l:∀C s H fp pn,PG (bV X N' scope C s H fp pn) c r)(f:∀C s H fp pn,yZ (bV X N' scope C s H fp pn) b e)(v:∀C s H fp pn,PE (bV X N' scope C s H fp pn) kx tk)(y:∀C s H fp pn,PE (bV X N' scope C s H fp pn) vx tv)(m:∀(env:Env) x,cc a env x=pure x):
 DcB X N' scope kx vx tg iter ifs [⟨c,a,b,0⟩] pos (λD N=>aHC D d r e tk tv N):=
 ⟨λD env P s4=>bz (bx X.prog X.w) X.A (eval a env) (λx z=>bz (bx X.prog X.w) X.A (pyIter x) (λg B=>∀R:Result->Ub->Prop,(∀s7,P s7->R (.ok .next) s7)->cg (bx X.prog X.w) X.A (.compStart (tL kx vx tg iter ifs c a b scope pos) 1 g (.ref D) env) R B) 75 z) 75 s4,λI i n h=>aCY (m _) I i n h,by
  intro C sa Ha fp pn cp O H s D N P I h k;exact thn (aEV (a:=bV X N' scope C sa Ha fp pn) (kx:=kx) (vx:=vx) (tg:=tg) (iter:=iter) (ifs:=ifs) (sc:=scope) (pos:=pos) t u (j _ _ _ _ _) (l _ _ _ _ _) (f _ _ _ _ _) (v _ _ _ _ _) (y _ _ _ _ _) rfl I h) λx E o=>thn o λg F p R G=>p R λq ⟨J,H',L,M⟩=>G q (k _ _ _ L M)⟩
def aKL{a:HO}(f:a=.dT []\/a=.dK []){rest:Tv Comprehension}(i:X.calm=true)(S:qT X N' cap scope)(hi:PI X tg iter d)
 (j:∀C s H fp pn,PG (bV X N' scope C s H fp pn) tg g) (b:∀C s H fp pn,yZ (bV X N' scope C s H fp pn) ifs e) (B:DcB X N' scope kx vx tg iter ifs rest pos bd) (hs:∀x,cc iter X.env x=pure x):
 PE X (.DictComp kx vx (⟨tg,iter,ifs,0⟩::rest) scope pos) (aLM a cap d g e bd):=λcp s l H Q I h=>
 aAa (use:=Y) f i S hi j b B hs I h λD _ H' _ ⟨m,hn⟩ k _ q=>⟨m,hn,λh' c=>⟨.ref D,H',k h' c,rfl,q⟩⟩
end
section
variable{K:Fg}{ι:Type}{X:ι->Cx}{N':Tc}{cap:T2}{scope:Scope}{tg' iter tg2' iter2 kx vx:Ud}{ifs ifs2:T8}{fa fa2:AF}{gf gf2:GF}{ft ft2:TF}{fk:KF}{f:EF}{pos:Pos}
def aLa{b:HO}{a:Cell}(c:(b=.dT []/\a=.dt [])\/(b=.dK []/\a=.dk []))(d:∀i,(X i).A.units<cLine)(e:∀i,(X i).calm=true)(S:∀i,qT (X i) N' cap scope)(x:MI K X tg' iter fa)(y:MG K (fF X N' scope) tg' gf)(z:MF K (fF X N' scope) ifs ft)(w:MK K (fF X N' scope) kx fk)(q:ME K (fF X N' scope) vx f)(hs:∀(env:Env)(x:Tz),cc iter env x=pure x:=by intro _ _;rfl):
 ME K X (.DictComp kx vx [⟨tg',iter,ifs,0⟩] scope pos) (fDc a cap fa gf ft fk f):=by
 let⟨t,g,h⟩:=x.ex;let⟨u,j,k⟩:=y.ex;let⟨v,l,m⟩:=z.ex;let⟨o,n,r⟩:=w.ex;let⟨p,B,D⟩:=q.ex;exact⟨_,λi=>aKL (c.imp And.left And.left) (e i) (S i) (g i) (λC s H fp pn=>j (i,C,s,H,fp,pn)) (λC s H fp pn=>l (i,C,s,H,fp,pn)) (aQE (d i) (λC s H fp pn=>n (i,C,s,H,fp,pn)) λC s H fp pn=>B (i,C,s,H,fp,pn))<|hs _,aOj c h k m r D⟩
def TJ(i:Nat){b:Str}{a:Pos}(m:∀j,(X j).N.Nodup)(n:∀i,(X i).A.units<cLine)(l:∀i,(X i).calm=true)(S:∀i,qT (X i) N' cap scope)(x:MI K X tg' iter fa)(y:MG K (fF X N' scope) tg' gf)(z:MF K (fF X N' scope) ifs ft)(r:MI K (fF X N' scope) tg2' iter2 fa2)(B:MG K (fF X N' scope) tg2' gf2)(D:MF K (fF X N' scope) ifs2 ft2)(w:MK K (fF X N' scope) kx fk)(q:ME K (fF X N' scope) vx f)(c:∀j,(X j).N[i]?=Z b:=by intro _;rfl)
 (d:∀j,swapsWith (.DictComp kx vx [⟨tg',iter,ifs,0⟩,⟨tg2',iter2,ifs2,0⟩] scope pos) (Z (.Name b pos')) a.line (X j).env=pure true:=by intro _;rfl) (E:∀j,(X j).env.scope.names.lookup b=Z .local:=by intro _;rfl) (hs:∀(env:Env)(x:Tz),cc iter env x=pure x:=by intro _ _;rfl) (e:∀(env:Env)(x:Tz),cc iter2 env x=pure x:=by intro _ _;rfl):
 MS K X (.Assign [.Name b pos'] (.DictComp kx vx [⟨tg',iter,ifs,0⟩,⟨tg2',iter2,ifs2,0⟩] scope pos) a) (bA (aIJ (.dk []) cap fa gf ft fa2 gf2 ft2 fk f)<|cq i):=by
 let⟨t,F,g⟩:=x.ex;let⟨u,G,h⟩:=y.ex;let⟨v,I,k⟩:=z.ex;let⟨t3,J,L⟩:=r.ex;let⟨W,M,O⟩:=B.ex;let⟨v3,P,Q⟩:=D.ex;let⟨o,R,T⟩:=w.ex;let⟨p,U,V⟩:=q.ex;exact⟨_,λj=>aBH (.inr rfl) (m j) (c j) (l j) (S j) (F j) (λC s H fp pn=>G (j,C,s,H,fp,pn)) (λC s H fp pn=>I (j,C,s,H,fp,pn)) (aQI (n j) (l j) (λC s H fp pn=>J (j,C,s,H,fp,pn)) (λC s H fp pn=>M (j,C,s,H,fp,pn)) (λC s H fp pn=>P (j,C,s,H,fp,pn)) (λC s H fp pn=>R (j,C,s,H,fp,pn)) (λC s H fp pn=>U (j,C,s,H,fp,pn)) e) (d j) (E j)<|hs _,ND (aLu (.inr ⟨rfl,rfl⟩) g h k L O Q T V) yJ⟩
end
def aGB(Ln:Td->Prop)(cap:T2)(j:TI)(g:TG)(k:TT)(bd:(Td->St->Hp->Prop)->Td->St->Hp->Prop):TE:=λe H Q=>j e H λJ l=>∃W:Nat->Nat->Td->St->Hp->Prop,(∃m,W 0 m [] (xA cap e) l)/\∀i m acc c H',W i m acc c H'->
 (J.stop i H'/\∀p,H' p=Y->Q (.ref p) (upd H' p (.lst acc))) \/
 (J.go i H'/\Ln acc/\∃N:Td->St->Hp->Prop,(∀acc' a d,N acc' a d->∃f,f<m/\W (i+1) f acc' a d)/\∀x d,J.yld i H' x d->g x c d λa n=>k a n λb h=>(b=true/\bd N acc a h)\/(b=false/\N acc a h))
structure LcB(X:Cx)(N':Tc)(scope:Scope)(elt tg iter:Ud)(ifs:T8)(rest:Tv Comprehension)(pos:Pos)(Ln:Td->Prop)(bd:(Td->St->Hp->Prop)->Td->St->Hp->Prop):Prop where
 ex:∃BD:Uc->Env->(Ub->Prop)->Ub->Prop,
  (∀{R:Result->Ub->Prop}{s:Ub}{it:Tz}{D:Uc}{env:Env}(I:Nat->Ub->Prop),(∀n s,I n s->bz (bx X.prog X.w) X.A (pyNext it) (λr s1=>(r=Y/\R (.ok .next) s1)\/∃v,r=Z v /\
   bz (bx X.prog X.w) X.A (ci tg it v) (λ_ s2=>bz (bx X.prog X.w) X.A (assign tg env v) (λ_ s3=>
    bz (bx X.prog X.w) X.A (forIn ifs true λc r=>if r=true then(do
     let ok <- isTrue c env (eval c env)
     pure (ForInStep.yield ok))else pure (ForInStep.yield r)) (λok s4=>
      (ok=true/\BD D env (λs7=>∃m,m<n/\I m s7) s4)\/(ok=false/\∃m,m<n/\I m s4)) (λ_ _=>False) s3) (λ_ _=>False) s2) (λ_ _=>False) s1) (λ_ _=>False) s)->
   ∀n,I n s->cg (bx X.prog X.w) X.A (.compLoop (.ListComp elt (⟨tg,iter,ifs,0⟩::rest) scope pos) 0 it (.ref D) env) R s) /\
  ∀{C:Uc}{sa:Ub}{Ha:Hp}{fp:Tb}{pn cp:T1}{σ:St}{H:Hp}{s:Ub}{D:Uc}{its:T4}{nn:Nat}{acc:Td}{N:Td->St->Hp->Prop}{P:Ub->Prop},Inv (bV X N' scope C sa Ha fp pn) cp σ H s->nE (bV X N' scope C sa Ha fp pn) cp H D->s.heap.get? D=Z (lob its nn)->bE acc its->acc.length<=bv->Ln acc->bd N acc σ H->
   (∀s7,(∃σ' H' acc' its' nn',Inv (bV X N' scope C sa Ha fp pn) cp σ' H' s7/\H' D=Y/\s7.heap.get? D=Z (lob its' nn')/\bE acc' its'/\acc'.length<=bv/\N acc' σ' H')->P s7)->BD D (bV X N' scope C sa Ha fp pn).env P s
section
variable{X:Cx}{N':Tc}{cap:T2}{scope:Scope}
def ZV{rest:Tv Comprehension}(hc:X.calm=true)(S:qT X N' cap scope)(hi:PI X tg iter wi)
 (hg:∀C s H fp pn,PG (bV X N' scope C s H fp pn) tg g) (a7:∀C s H fp pn,yZ (bV X N' scope C s H fp pn) ifs tc) (B:LcB X N' scope elt tg iter ifs rest pos Ln bd)
 (hs:∀x,cc iter X.env x=pure x) (I:Inv X cp σ H s) (h:aGB Ln cap wi g tc bd σ H Q)
 (a1:∀(D C:Uc)(H':Hp)(acc:Td)(s':Ub),D≠C->(∃m,s'.heap.Ns C m)->(∀h',Heap.SameBut C s'.heap h'->Inv X cp σ (upd H' D (.lst acc)) { s' with heap:=h' })->nE X cp (upd H' D (.lst acc)) C->Q (.ref D) (upd H' D (.lst acc))->compPost (bx X.prog X.w) X.A X.xe use QQ (.ref D) C (.ok .next) s'):
 bz (bx X.prog X.w) X.A (comprehension (.ListComp elt (⟨tg,iter,ifs,0⟩::rest) scope pos) scope X.env (firstIterPos (⟨tg,iter,ifs,0⟩::rest) pos) (newList []) false (firstIter (⟨tg,iter,ifs,0⟩::rest) X.env) use) QQ X.xe s:=by
 let⟨BD,Bl,Bb⟩:=B.ex;refine wpAny_comprehension_free (e:=.ListComp elt (⟨tg,iter,ifs,0⟩::rest) scope pos) (g:=⟨tg,iter,ifs,0⟩) (gs:=rest) rfl hs (GY<|S.cells I.ok) S.kind S.names ?_;refine thn (hi cp s σ H _ I h) λv s1 h1=>thn h1 λai s2 h2=>?_;let⟨it,fp,tn,J,k,e,F,T,P,f2,W,⟨m0,w0⟩,a2⟩:=h2;subst e
 have f:∀b∈fp,b<s2.heap.objs.size:=λb a=>by
  let⟨o,e,_⟩:=T.obj _ _ P b a;exact B2 e
 refine D6<|wpAny_newFunctionEnv S.nocell (λy hy=>by simp at hy) (λl R U=>?_) S.kind;dsimp only at R U ⊢;generalize hP:s2.heap.push { cls:=.type "list",dict:=Y,data:=.seq ([]:T4).toArray }=P2 at R U ⊢;have a3:P2.objs.size=s2.heap.objs.size+1:=by rw[<- hP,S3]
 have j:s2.heap.objs.size≠P2.objs.size:=by rw[a3];exact C2<|Y8 _
 have hC:s2.heap.objs.size<=P2.objs.size:=by rw[a3];exact A1i _
 have t:∀b o,P2.get? b=Z o->b≠P2.objs.size->l.get? b=Z o:=λb o e a=>U.extBut b o a<|A3 _ e;have a0:∀b o,s2.heap.get? b=Z o->l.get? b=Z o:=λb o e=>t b o (by rw[<- hP];exact A3 _ e)<|C2<|C9 (B2 e) hC;have a8:l.get? s2.heap.objs.size=Z { cls:=.type "list",data:=.seq #[] 0 }:=t _ _ (by rw[<- hP];exact B5 _ rfl) j
 have I4:Inv (bV X N' scope P2.objs.size s2 k fp cp) [] (xA cap σ) k { s2 with heap:=l,toks:=s2.toks+([]:Tt).length }:=
  QX S F f2 f hC (by simpa using R) a0
 have L:∀s4:Ub,s4={ s2 with heap:=l,toks:=s2.toks+([]:Tt).length }->
  cg (bx X.prog X.w) X.A (.compLoop (.ListComp elt (⟨tg,iter,ifs,0⟩::rest) scope pos) 0 (.ref it) (.ref s2.heap.objs.size) (compEnvC scope (hZ X.env scope.names []) P2.objs.size X.env)) (compPost (bx X.prog X.w) X.A X.xe use QQ (.ref s2.heap.objs.size) P2.objs.size) s4:=by
  rintro s4 rfl
  have M:s2.heap.objs.size∉frs X.stack:=λa=>by
   let⟨_,o,ho,_⟩:=F.stack.mem a;exact absurd (B2 ho)<|Y5 _
  have cne:∀x c,(hZ X.env scope.names []).lookup x=Z c->c<s2.heap.objs.size:=λx c e=>by
   let⟨v,q⟩:=F.cell x c<|S.sub F.ok x c e;exact q.lt
  have E:∀{Hx:Hp}{ob:Obj},(∀b∈fp,Hx b=Y)->∀b∈fp,nE (bV X N' scope P2.objs.size s2 k fp cp) [(s2.heap.objs.size,ob)] Hx b:=λ{Hx ob} hn b a=>by
   refine⟨hn b a,C2<|C9 (f b a) hC,F.stkAll (f2 b a).2.1 (f2 b a).2.2.1,.inl a,λx c e=>(f2 b a).2.2.2.2.1 x c (S.sub F.ok x c e),λp hp=>?_⟩;obtain z|z:=D5.mp hp
   .exact(f2 b a).2.2.2.2.2 p z
   .rw[B4.mp z];exact O1<|f b a
  refine Bl (λn s'=>∃(i:Nat)(d:St)(H':Hp)(acc:Td)(its:T4)(nn:Nat),Inv (bV X N' scope P2.objs.size s2 k fp cp) [] d H' s'/\tn i s'.heap/\(∀b∈fp,H' b=Y)/\H' s2.heap.objs.size=Y /\
   s'.heap.get? s2.heap.objs.size=Z { cls:=.type "list",data:=.seq its.toArray nn }/\bE acc its/\acc.length<=bv/\W i n acc d H') ?_ m0
   ⟨0,xA cap σ,k,[],[],0,I4,T.keep _ _ _ P λb _ o e=>a0 b o e,λb a=>(f2 b a).1,F.hok.fresh<|B3 _,a8,.nil,E6 _,w0⟩
  rintro n s5 ⟨i,d,H',acc,its,nn,I5,t5,a4,d5,g5,va,la,w5⟩
  have I5p:Inv (bV X N' scope P2.objs.size s2 k fp cp) [(s2.heap.objs.size,{ cls:=.type "list",data:=.seq its.toArray nn })] d H' s5:=I5.pins_of λp hp=>by
   rw[B4.mp hp];exact⟨g5,d5,j,M,λv z=>by cases z⟩
  obtain⟨stop,q⟩|⟨go,lt,N,hN,step⟩:=a2 i n acc d H' w5
  .refine thn (T.done (bV X N' scope P2.objs.size s2 k fp cp) rfl rfl rfl hc i _ s5 d H' _ I5p (E a4) t5 stop) λr s6 ⟨hr,I6⟩=>.inl ⟨hr,?_⟩;have d6:=(I6.pin (s2.heap.objs.size,{ cls:=.type "list",data:=.seq its.toArray nn }) 67).1;have nC:H' P2.objs.size=Y:=I6.free;refine a1 _ _ H' acc s6 j (let⟨m,hn,_⟩:=I6.loc;⟨m,hn⟩) (λh' a9=>?_) (F.fpOk hC (by rw[aO j.symm];exact nC))<|q _ d5;have up:∀b o,b≠P2.objs.size->s6.heap.get? b=Z o->h'.get? b=Z o:=λb o a e=>a9.extBut b o a e;have G:∀b o,s2.heap.get? b=Z o->b≠P2.objs.size/\b≠s2.heap.objs.size:=λb o e=>⟨C2<|C9 (B2 e) hC,C2<|B2 e⟩;have u6:Un (frs X.stack) fp k H' s2.heap s6.heap:=I6.base
   have u7:Un (frs X.stack) fp k (upd H' s2.heap.objs.size (.lst acc)) s2.heap h':=by
    refine⟨λb o e n a hx=>up b o (G b o e).1 (u6.keep b o e n a hx),λb o e n a hx=>?_,λb o e n hx=>?_,λb o e hx=>?_,λb xs e=>?_,λb o u e=>?_,λb ps e=>?_⟩
    .let⟨sl,q⟩:=u6.slot b o e n a hx;exact⟨sl,up b _ (G b o e).1 q⟩
    .rw[aO (G b o e).2];exact u6.free b o e n hx
    .let⟨o',q⟩:=u6.there b o e hx;exact⟨o',up b o' (G b o e).1 q⟩
    .have z:=u6.tups b xs e;rw[aO (aX z d5)];exact z
    .have z:=u6.frzs b o u e;rw[aO (aX z d5)];exact z
    .let⟨more,z⟩:=u6.tbls b ps e;exact⟨more,by rw[aO (aX z d5)];exact z⟩
   have aa:HOk X.prog X.w (upd H' s2.heap.objs.size (.lst acc)) h':=λb u e=>by
    by_cases a:b=s2.heap.objs.size
    .subst a;rw[aS]at e;cases e;exact⟨la,its,nn,va,up _ _ j d6⟩
    .rw[aO a]at e;refine(I6.hok b u e).stay (λc v ab z=>up c v ?_ z) (λc z=>by rw[aO (aX z d5)];exact z) λc xs z=>by rw[aO (aX z d5)];exact z
     obtain rfl|z:=ab
     .exact aX e nC
     .exact aX z nC
   have ac:s6.os=s2.os:=I6.os;have ae:=I6.bare;let⟨hh,gg,dd,tt,oo⟩:=s6;subst ac;have z7:=F.call (s:=s2) (h':=h') (g':=gg) (d':=dd) (t':=tt) (ch:=fp) u7 aa ae λb a=>⟨(f2 b a).2.2.2.1,(f2 b a).2.1,(f2 b a).2.2.2.2.1,(f2 b a).2.2.2.2.2⟩;exact z7
  .refine thn (T.item (bV X N' scope P2.objs.size s2 k fp cp) rfl rfl rfl hc i _ s5 d H' _ I5p (E a4) t5 go) λr s6 ⟨u,hr,h6⟩=>.inr ⟨u,hr,?_⟩;refine thn h6 λ_ s7 ⟨x,H7,I7,r7,y7,t7,af⟩=>?_;have ag:=I7.pinned (E af) (T.obj _ _ t7)
   have O:∀{a5:St}{Hx:Hp}{sx:Ub},Inv (bV X N' scope P2.objs.size s2 k fp cp) ([(s2.heap.objs.size,{ cls:=.type "list",data:=.seq its.toArray nn })]++qY fp s7.heap) a5 Hx sx->
    (∀b∈fp,∀o,s7.heap.get? b=Z o->sx.heap.get? b=Z o)/\(∀b∈fp,Hx b=Y)/\sx.heap.get? s2.heap.objs.size=Z { cls:=.type "list",data:=.seq its.toArray nn }/\Hx s2.heap.objs.size=Y:=λ{a5 Hx sx} Ix=>by
    refine⟨λb a o e=>(Ix.pin (b,o)<|B1 _<|B1 _<|cX a e).1,λb a=>?_,?_,?_⟩
    .let⟨o,e,_⟩:=T.obj _ _ t7 b a;exact(Ix.pin (b,o)<|B1 _<|B1 _<|cX a e).2.1
    .exact(Ix.pin (s2.heap.objs.size,_)<|B1 _<|E2 _<|B4.mpr rfl).1
    .exact(Ix.pin (s2.heap.objs.size,{ cls:=.type "list",data:=.seq its.toArray nn })<|B1 _<|E2 _<|B4.mpr rfl).2.1
   refine thn (hg _ _ _ _ _ _ s7 d H7 x u _ ag r7<|step x H7 y7) λ_ s8 ⟨a6,H8,I8,q8⟩=>?_;refine thn (a7 _ _ _ _ _ _ s8 a6 H8 _ I8 q8) λb s9 ⟨H9,I9,q9⟩=>?_;obtain⟨rfl,q9⟩|⟨rfl,n9⟩:=q9
   .let⟨b1,b2,b3,b4⟩:=O I9
    have fD:nE (bV X N' scope P2.objs.size s2 k fp cp) (qY fp s7.heap) H9 s2.heap.objs.size:=by
     refine⟨b4,j,M,.inr (B3 _),λx c e=>C2<|cne x c e,λp hp=>?_⟩;obtain hp|hp:=D5.mp hp
     .exact C2<|B2 (F.pin p hp).1
     .exact C2<|f p.1 (JH hp).1
    refine .inl ⟨rfl,Bb (I9.pins_of λp hp=>I9.pin p<|B1 _<|B1 _ hp) fD b3 va la lt q9 λaj ⟨d,H',acc',its',nn',J1,J2,J3,J4,J5,J6⟩=>?_⟩;let⟨m',hm,ah⟩:=hN _ _ _ J6;refine⟨m',hm,i+1,d,H',acc',its',nn',J1.pins_of λp hp=>absurd hp 67,T.keep _ _ _ t7 λb a o e=>(J1.pin (b,o)<|B1 _<|cX a e).1,λb a=>?_,J2,J3,J4,J5,ah⟩;let⟨o,e,_⟩:=T.obj _ _ t7 b a;exact(J1.pin (b,o)<|B1 _<|cX a e).2.1
   .let⟨m',hm,w9⟩:=hN _ _ _ n9;let⟨b1,b2,b3,b4⟩:=O I9;exact .inr ⟨rfl,m',hm,i+1,a6,H9,acc,its,nn,I9.pins_of λp hp=>absurd hp 67,T.keep _ _ _ t7 b1,b2,b4,b3,va,la,w9⟩
 exact codeAny_compStart_list (L _ rfl)<|T.self _ 0 _ _ _ (T.keep _ _ _ P λb _ o e=>a0 b o e)<|L _ rfl
def aEI{rest:Tv Comprehension}(e:X.calm=true)(S:qT X N' cap scope)(hi:PI X tg iter c)
 (f:∀C s H fp pn,PG (bV X N' scope C s H fp pn) tg g) (a:∀C s H fp pn,yZ (bV X N' scope C s H fp pn) ifs d) (B:LcB X N' scope elt tg iter ifs rest pos Ln bd)
 (hs:∀x,cc iter X.env x=pure x:=by intro _;rfl):PE X (.ListComp elt (⟨tg,iter,ifs,0⟩::rest) scope pos) (aGB Ln cap c g d bd):=by
 intro cp s l H Q I h;rw[eval_ListComp];refine ZV (use:=Y) (Q:=Q) e S hi f a B hs I h λD C H' acc s' i ⟨m,hn⟩ j _ k=>⟨m,hn,λh' b=>?_⟩;exact⟨.ref D,_,j h' b,rfl,k⟩
def aBE{i:Nat}{x:Str}{rest:Tv Comprehension}{c:Pos}{F:TT}(J:X.N.Nodup)(f:X.N[i]?=Z x)(L:X.calm=true)(S:qT X N' cap scope)(hi:PI X tg iter y)
 (O:∀C s H fp pn,PG (bV X N' scope C s H fp pn) tg g) (j:∀C s H fp pn,yZ (bV X N' scope C s H fp pn) ifs F) (B:LcB X N' scope elt tg iter ifs rest pos Ln bd)
 (k:swapsWith (.ListComp elt (⟨tg,iter,ifs,0⟩::rest) scope pos) (Z (.Name x pos')) c.line X.env=pure true:=by rfl) (G:X.env.scope.names.lookup x=Z .local:=by rfl)
 (hs:∀x,cc iter X.env x=pure x:=by intro _;rfl):PS X (.Assign [.Name x pos'] (.ListComp elt (⟨tg,iter,ifs,0⟩::rest) scope pos) c) (aAU (aGB Ln cap y g F bd)<|DU i):=by
 intro cp s l H D I h;rw[exec_Assign_Name_used _ _ _ _ k];refine A1<|L9<|A1 ?_;show bz _ _ (comprehension (.ListComp elt (⟨tg,iter,ifs,0⟩::rest) scope pos) scope X.env _ (newList []) false (firstIter (⟨tg,iter,ifs,0⟩::rest) X.env) (Z<|assign (.Name x pos') X.env) >>= λ_=>pure ()) _ _ s;refine A1 (thn (ZV (use:=Z<|assign (.Name x pos') X.env) (QQ:=λ_ s'=>∃d H',Inv X cp d H' s'/\D.nx d H') (Q:=λv P=>DU i v l P D.nx) L S hi O j B hs I h λE C H' acc s' R ⟨m,hn⟩ T fC U=>?_) λ_ s' W=>A4<|A4 W);have n:Inv X cp l (upd H' E (.lst acc)) s':=T s'.heap<|A2c ..;have n:Inv X cp l (upd H' E (.lst acc)) s':=n;refine wpAny_assign_Name<|AN (M:=bx X.prog X.w) (A:=X.A) (E:=X.xe) n J f (.inl G) (v:=.ref E) (u:=.ref E) rfl (λs2 I2 p=>?_) (.inr G);let⟨a,q,ha⟩:=p
 have r:C≠a:=by
  obtain z|z:=ha
  .rw[z];exact fC.2.1
  .exact λw=>fC.2.2.2.2.1 x a z w.symm
 refine⟨m,hn.extBut q.extBut r,λh' t=>?_⟩;exact⟨_,_,I2.turned (t':=s2.toks) (λb o hb e=>t.extBut b o hb e) fC.1 fC.2.1 fC.2.2.2.1 fC.2.2.2.2.1 fC.2.2.2.2.2,U⟩
end
section
variable{X:Cx}{N':Tc}{cap:T2}{scope:Scope}{elt tg iter:Ud}{ifs:T8}{pos:Pos}{te:TE}
def aPk(u:∀C s H fp pn,PE (bV X N' scope C s H fp pn) elt te):LcB X N' scope elt tg iter ifs [] pos (λacc=>acc.length<bv) (λN acc d H=>te d H λv y=>N (acc++[v]) d y):=
 ⟨λD env P s4=>bz (bx X.prog X.w) X.A (eval elt env) (λx B=>bz (bx X.prog X.w) X.A (call (.builtin "list.append") [.ref D,x]) (λ_ E=>P E) 75 B) 75 s4,λI f n h=>aGn I f n h,by
  intro C sa Ha fp pn cp d H s D its nn acc N P I F G t J lt h k;let⟨L,dl,M,dx,a,g⟩:=F
  have Ip:Inv (bV X N' scope C sa Ha fp pn) ([(D,lob its nn)]++cp) d H s:=I.pins_of λp hp=>by
   obtain hp|hp:=D5.mp hp
   .rw[B4.mp hp];exact⟨G,L,dl,M,λv z=>by cases z⟩
   .exact I.pin p (B1 _ hp)
  refine thn (u _ _ _ _ _ _ s d H _ Ip h) λO i ⟨v,j,c,Q,l⟩=>?_;have q:=c.pin (D,lob its nn)<|B1 _<|E2 _<|B4.mpr rfl;have m:=c.pins_of (pins':=cp) λp hp=>c.pin p<|B1 _<|B1 _ hp;refine wpAny_list_append_plain ⟨nn,q.1⟩ (λh' hp r=>?_) (by rw[F4,<- t.length];exact J);let⟨R,S⟩:=hp;refine k _ ⟨d,j,acc++[v],its++[O],R,m.turned (t':=i.toks) (λb o T e=>r.extBut b o T e) q.2.1 dl dx a g,q.2.1,?_,t.append (.cons Q .nil),?_,l⟩
  .rw[S];simp
  .rw[B6,E9];exact lt⟩
def aQQ(u:X.calm=true)(l:∀C s H fp pn,PI (bV X N' scope C s H fp pn) c a d)(m:∀C s H fp pn,PG (bV X N' scope C s H fp pn) c t)(f:∀C s H fp pn,yZ (bV X N' scope C s H fp pn) b e)(v:∀C s H fp pn,PE (bV X N' scope C s H fp pn) elt te)(o:∀(env:Env) x,cc a env x=pure x):
 LcB X N' scope elt tg iter ifs [⟨c,a,b,0⟩] pos (λ_=>True) (λN acc=>tIn d t e te N acc):=
 ⟨λD env P s4=>bz (bx X.prog X.w) X.A (eval a env) (λx y=>bz (bx X.prog X.w) X.A (pyIter x) (λg z=>∀R:Result->Ub->Prop,(∀s7,P s7->R (.ok .next) s7)->cg (bx X.prog X.w) X.A (.compStart (tV elt tg iter ifs c a b scope pos) 1 g (.ref D) env) R z) 75 y) 75 s4,λI i n h=>aEs (o _) I i n h,by
  intro C sa Ha fp pn cp O H s D its nn acc N P I B E F G _ h k;exact thn (aDN (elt:=elt) (tg:=tg) (iter:=iter) (ifs:=ifs) (sc:=scope) (pos:=pos) ⟨_,_,_,_,_,_,_,_,rfl⟩ u (l _ _ _ _ _) (m _ _ _ _ _) (f _ _ _ _ _) (v _ _ _ _ _) I B E F G h) λx J p=>thn p λg L r R M=>r R λj q=>M j (k j q)⟩
end
section
variable{K:Fg}{tg:TG}{tt:TT}{hg:GF}{ft:TF}{fa:AF}{tg2:TG}{tt2:TT}{hg2:GF}{ft2:TF}{fa2:AF}{te:TE}{fe:EF}
def aLF(i:SI K wi fa)(a:SG K tg hg)(c:STt K tt ft)(i2:SI K z fa2)(a2:SG K tg2 hg2)(c2:STt K tt2 ft2)(b:SE K te fe):SE K (aGB (λ_=>True) cap wi tg tt λN acc=>tIn z tg2 tt2 te N acc) (aDw cap fa hg ft fa2 hg2 ft2 fe):=by
 intro γ M x M' h W H σ Q G R kk;let⟨⟨s,M1⟩,h1,h⟩:=aH h;let⟨⟨xs,M9⟩,h9,h⟩:=aH h;let⟨ds,hds,h⟩:=aH h;by_cases I:ds.length<bv
 .rw[A8 I]at h;cases h;have a3:xs.length<bv:=by rw[<- GG hds];exact I
  refine i _ _ _ _ h1 W H σ _ G R λJ W1 H1 e1 G1 gv=>?_
  refine⟨λj m acc k H'=>∃l M2 u pre n,j<=s.length/\m=s.length-j/\W1.Ext u/\Good K u M2 H'/\bX K u l k/\bQ K u pre acc/\pre++n=xs/\RH hg ft fa2 hg2 ft2 fe (s.drop j) l M2=Z (n,M9),
   ⟨_,qI cap γ,M1,W1,[],xs,E6 _,rfl,.refl _,G1,AD (R.up e1) cap,.nil,rfl,h9⟩,?_⟩
  rintro j m acc k H' ⟨l,M2,u,pre,n,hj,rfl,L,G2,R2,O,A,d⟩;let⟨P,S⟩:=gv u M2 H' L G2;by_cases v:j<s.length
  .let⟨go,yl⟩:=P j s[j]<|C0 v;rw[S5 v]at d;refine .inr ⟨go,True.intro,λt B D=>∃q E w f g,u.Ext w/\Good K w E D/\bX K w q B/\bQ K w f t/\f++g=xs/\RH hg ft fa2 hg2 ft2 fe (s.drop (j+1)) q E=Z (g,M9),?_,λy D hy=>?_⟩
   .rintro t B D ⟨q,E,w,f,g,F,G3,R3,T,U,h3⟩;exact⟨_,61,q,E,w,f,g,v,rfl,L.trans F,G3,R3,T,U,h3⟩
   .let⟨W8,e8,G8,ry⟩:=yl y D hy;let⟨⟨V,M4⟩,h4,d⟩:=aH (show(hg s[j] l M2).bind _=_ from d);let⟨⟨b5,M5⟩,h5,d⟩:=aH d;refine a _ _ _ _ _ h4 W8 _ k y _ G8 (R2.up e8) ry λX W4 H4 e4 G4 R4=>?_;refine c _ _ _ _ h5 W4 H4 X _ G4 R4 λW5 H5 e5 G5=>?_;have r:=(e8.trans e4).trans e5;cases b5 with
    |true=>
     rw[A8 rfl]at d;let⟨⟨us,M6⟩,h6,d⟩:=aH d;let⟨⟨⟨zs,a0⟩,M7⟩,h7,d⟩:=aH d;let⟨⟨ws,M8⟩,h8,d⟩:=aH d;cases d
     have C:pre.length+zs.length<bv:=by
      have:=Z7 List.length A;simp only[B6]at this;omega
     refine .inl ⟨rfl,aMD i2 a2 c2 b h6 h7 G5 (R4.up e5) (bQ.up O r) C λacc' k W' H' e' G' R' a1=>?_⟩;exact⟨a0,M7,W',pre++zs,ws,r.trans e',G',R',a1,by rw[<- A,L7],h8⟩
    |false=>
     rw[B7 C4]at d;exact .inr ⟨rfl,V,M5,W5,pre,n,r,G5,R4.up e5,bQ.up O r,A,d⟩
  .have e:j=s.length:=61
   subst e;rw[A0s]at d;cases d;rw[J8]at A;subst A;refine .inl ⟨S,λp hp=>?_⟩;let⟨F,G3⟩:=G2.lay (o:=.lst acc) hp;exact kk _ _ _ ((e1.trans L).trans F) G3 ⟨p,acc,rfl,SqL.of aS,aL.same F.ff _ _<|eT hds O⟩
 .rw[B7 I]at h;cases h
end
section
variable{K:Fg}{ι:Type}{X:ι->Cx}{N':Tc}{cap:T2}{scope:Scope}{tg iter elt tg2 iter2:Ud}{ifs ifs2:T8}{pos:Pos}{fa fa2:AF}{gf gf2:GF}{ft ft2:TF}{f:EF}
def fK(a:∀i,(X i).calm=true)(S:∀i,qT (X i) N' cap scope)(x:MI K X tg iter fa)(y:MG K (fF X N' scope) tg gf)(z:MF K (fF X N' scope) ifs ft)(w:ME K (fF X N' scope) elt f)(hs:∀(env:Env)(x:Tz),cc iter env x=pure x:=by intro _ _;rfl):
 ME K X (.ListComp elt [⟨tg,iter,ifs,0⟩] scope pos) (fLc cap fa gf ft f):=by
 let⟨t,b,c⟩:=x.ex;let⟨u,d,e⟩:=y.ex;let⟨v,g,h⟩:=z.ex;let⟨o,j,k⟩:=w.ex;exact⟨_,λi=>aEI (a i) (S i) (b i) (λC s H fp pn=>d (i,C,s,H,fp,pn)) (λC s H fp pn=>g (i,C,s,H,fp,pn)) (aPk λC s H fp pn=>j (i,C,s,H,fp,pn))<|hs _,aOa c e h k⟩
def nF(i:Nat){b:Str}{a:Pos}(e:∀j,(X j).N.Nodup)(g:∀i,(X i).calm=true)(S:∀i,qT (X i) N' cap scope)(x:MI K X tg iter fa)(y:MG K (fF X N' scope) tg gf)(z:MF K (fF X N' scope) ifs ft)(w:ME K (fF X N' scope) elt f)
 (c:∀j,(X j).N[i]?=Z b:=by intro _;rfl) (d:∀j,swapsWith (.ListComp elt [⟨tg,iter,ifs,0⟩] scope pos) (Z (.Name b pos')) a.line (X j).env=pure true:=by intro _;rfl) (h:∀j,(X j).env.scope.names.lookup b=Z .local:=by intro _;rfl) (hs:∀(env:Env)(x:Tz),cc iter env x=pure x:=by intro _ _;rfl):
 MS K X (.Assign [.Name b pos'] (.ListComp elt [⟨tg,iter,ifs,0⟩] scope pos) a) (bA (HX cap fa gf ft f)<|cq i):=by
 let⟨t,k,l⟩:=x.ex;let⟨u,m,n⟩:=y.ex;let⟨v,p,q⟩:=z.ex;let⟨o,r,A⟩:=w.ex;exact⟨_,λj=>aBE (e j) (c j) (g j) (S j) (k j) (λC s H fp pn=>m (j,C,s,H,fp,pn)) (λC s H fp pn=>p (j,C,s,H,fp,pn)) (aPk λC s H fp pn=>r (j,C,s,H,fp,pn)) (d j) (h j)<|hs _,ND (aMU l n q A) yJ⟩
def aGN(j:∀i,(X i).calm=true)(S:∀i,qT (X i) N' cap scope)(x:MI K X tg iter fa)(y:MG K (fF X N' scope) tg gf)(z:MF K (fF X N' scope) ifs ft)(k:MI K (fF X N' scope) tg2 iter2 fa2)(l:MG K (fF X N' scope) tg2 gf2)(m:MF K (fF X N' scope) ifs2 ft2)(w:ME K (fF X N' scope) elt f)
 (hs:∀(env:Env)(x:Tz),cc iter env x=pure x:=by intro _ _;rfl) (a:∀(env:Env)(x:Tz),cc iter2 env x=pure x:=by intro _ _;rfl):
 ME K X (.ListComp elt [⟨tg,iter,ifs,0⟩,⟨tg2,iter2,ifs2,0⟩] scope pos) (aDw cap fa gf ft fa2 gf2 ft2 f):=by
 let⟨t,n,p⟩:=x.ex;let⟨u,q,r⟩:=y.ex;let⟨v,A,B⟩:=z.ex;let⟨F,b,c⟩:=k.ex;let⟨G,d,e⟩:=l.ex;let⟨I,g,h⟩:=m.ex;let⟨o,D,E⟩:=w.ex;exact⟨_,λi=>aEI (j i) (S i) (n i) (λC s H fp pn=>q (i,C,s,H,fp,pn)) (λC s H fp pn=>A (i,C,s,H,fp,pn)) (aQQ (j i) (λC s H fp pn=>b (i,C,s,H,fp,pn)) (λC s H fp pn=>d (i,C,s,H,fp,pn)) (λC s H fp pn=>g (i,C,s,H,fp,pn)) (λC s H fp pn=>D (i,C,s,H,fp,pn)) a)<|hs _,aLF p r B c e h E⟩
end
end L2
section
noncomputable section
namespace Q60
open PySem PySem.Spec PyProof.Rows L2
noncomputable def top(i:Nat):Stmt:=PySem.Challenge.pw_cutstree_k60_groups_told.main.body.getD i (.Pass ⟨0,0,0,0⟩)
noncomputable def eD:Tv (Str×Bool):=[("NoGroups",true),("NoPlace",false)]
noncomputable def cS:Tv (Str×Bool):=[("NoGroups",true),("NoPlace",true)]
noncomputable def mD:Tv (Str×Bool):=[("NoGroups",false),("NoPlace",true)]
def ar1{a:Type}{P:Tv a->Prop}{us:Tv a}(d:us.length=1)(h:∀b,P [b]):P us:=by
 obtain _|⟨b,_|⟨c,r⟩⟩:=us<;>first|exact h _|cases d
def ar2{a:Type}{P:Tv a->Prop}{us:Tv a}(e:us.length=2)(h:∀b d,P [b,d]):P us:=by
 obtain _|⟨b,_|⟨d,_|⟨c,r⟩⟩⟩:=us<;>first|exact h _ _|cases e
def ar3{a:Type}{P:Tv a->Prop}{us:Tv a}(f:us.length=3)(h:∀b d e,P [b,d,e]):P us:=by
 obtain _|⟨b,_|⟨d,_|⟨e,_|⟨c,r⟩⟩⟩⟩:=us<;>first|exact h _ _ _|cases f
def ar4{a:Type}{P:Tv a->Prop}{us:Tv a}(g:us.length=4)(h:∀b d e f,P [b,d,e,f]):P us:=by
 obtain _|⟨b,_|⟨d,_|⟨e,_|⟨f,_|⟨c,r⟩⟩⟩⟩⟩:=us<;>first|exact h _ _ _ _|cases g
set_option hygiene false
local macro_rules | `(tactic| sleep 990) => `(tactic| exact ⟨rfl, rfl, rfl, by decide +kernel, rfl, by decide +kernel, by decide +kernel⟩)|`(tactic| sleep 988) => `(tactic| (intro _; exact T.hB.of _))|`(tactic| sleep 989) => `(tactic| (intro _; dsimp only [fF, bV]; decide +kernel))|`(tactic| sleep 987) => `(tactic| (intro _; exact aGt rfl rfl (by kernel_rfl)))|`(tactic| sleep 991) => `(tactic| (intro _ _ _ _ _ _ _ hl; apply ar1 hl; intros; rfl))|`(tactic| sleep 992) => `(tactic| (intro _ _ _ _ _ _ _ hl; apply ar2 hl; intros; rfl))|`(tactic| sleep 993) => `(tactic| (intro _ _ _ _ _ _ _ hl; apply ar3 hl; intros; rfl))|`(tactic| sleep 994) => `(tactic| (intro _ _ _ _ _ _ _ hl; apply ar4 hl; intros; rfl))
set_option hygiene true
abbrev qR:Stmt:=top 37
noncomputable abbrev CJ:Tc:=["_law_script","_law_many","_law_row","_law_odd","_law_deck_here","_law_k","_law_at","_law_one"]
noncomputable abbrev tY:Tc:=["_law_script","_law_many"]
def sc__law_deck:aT CJ tY (aI qR):=70
def vR:EF:=(fI<|aC (fC (.int 48271))<|aC (fC (.int 69621))<|aC (fC (.int 39373))<|aC (fC (.int 40692)) aN)
def DN(γ:Ga)(M:Sto):vR γ M=Z (.d (.list [(.int 48271),(.int 69621),(.int 39373),(.int 40692)]),M):=rfl
abbrev xq1:=aC (aE 2) aN
def eS:SF:=(bC (bA (fOp dJ (aE 5)<|aM pO xq1)<|cq 6)<|bC (bA (fOp dJ (fOp ixF (aE 2)<|aE 6)<|fC (.int 1000000))<|cq 7)<|bC (sIf (gB<|fOp (eqX false) (aE 3)<|fC (.int 0)) (bC (bA (fOp dJ (fOp dP (fOp dP (fOp ixF (aE 2)<|aE 6)<|fOp HV (fOp HV (aE 5)<|aE 5)<|fC (.int 16807))<|fOp HV (fC (.int 3))<|aE 5)<|fC (.int 2147483629))<|cq 7)<|bC (bA (fOp dJ (fOp dP (fOp HV (aE 7)<|fOp ixF vR<|fOp dJ (aE 5)<|fC (.int 4))<|fC (.int 7))<|fC (.int 2147483647))<|cq 7)<|bA (fOp dJ (fOp HV (aE 7)<|aE 7)<|fC (.int 2147483629))<|cq 7)<|bA (fOp kY (fOp ixF (aE 2)<|aE 6)<|fC (.int 1000000))<|hSub (aE 2) (aE 6) EV)<|mG<|fS "list" eZ (aE 4)<|aC (aE 7) aN)
abbrev xq4:=aC (aE 0) aN
abbrev aKt:=gB<|fOp (eqY false) (aE 2)<|fI aN
abbrev aLc:=bA (rS<|aC (fC (.int 4)) aN)<|cq 2
abbrev aCT:=fOp ixF (aE 2)<|fC (.int 0)
abbrev aKk:=fOp dJ aCT<|fC (.int 2)
abbrev aOW:=bA (fOp kY aCT<|fC (.int 2))<|hSub (aE 2) (fC (.int 0)) EV
abbrev xq0:=aC (aE 1) aN
def CA:SF:=(bC (bA (aM IT xq4)<|cq 2)<|bC (sIf aKt aLc cJ)<|bC (bA aKk<|cq 3)<|bC aOW<|bC (bA (rS aN)<|cq 4)<|bC (uA (gL xq0) (cq 5) eS)<|bC (mG<|fS "list" lT (aE 4) aN)<|cF<|aE 4)
def sN:FN:=fnF 2 8 CA
abbrev oU:Stmt:=top 40
noncomputable abbrev yV:Tc:=["_law_deck_here","_law_many","_law_kind","_law_found","_law_draw","_law_middle","_law_j"]
noncomputable abbrev rH:Tc:=["_law_deck_here","_law_many"]
def sc__law_pairs:aT yV rH (aI oU):=70
abbrev aPe:=aC (aE 1)<|aC (fOp dJ (fOp dP (aE 1)<|fC (.int 1))<|aE 0) aN
def lY:EF:=(HX [Z 1,Y] (gL xq0) (cq 1) cK<|bG aPe)
def tE:EF:=(HX [Y] (BN<|aC (fC (.int 1)) xq0) (cq 0) cK<|bG<|aC (fC (.int 0)) xq4)
abbrev xq2:=fS "list" FB (aE 0) aN
abbrev aIE:=fOp dJ xq2<|aE 1
def sX:EF:=(HX [Z 0,Y] (BN<|aC (fC (.int 1)) xq0) (cq 1) cK<|bG<|aC aIE xq0)
abbrev NU:=aC (aE 6) aN
abbrev aEh:=fOp ltI (aE 0)<|aE 1
abbrev aIr:=aC (aE 2) xq4
def uF:EF:=(fLc [Z 6,Z 5,Y] (gL NU) (cq 2) (gB<|fOp (eqX false) (fOp ltI (aE 2)<|aE 1) aEh)<|bG aIr)
def nA:SF:=(bA (fOp NK (aE 3) uF)<|cq 3)
abbrev aOK:=aC (aE 1)<|aC (fOp dJ (fOp dP (aE 1)<|fC (.int 1))<|fOp dP (aE 0)<|fC (.int 1)) aN
def lX:EF:=(HX [Z 5,Y] (gL<|aC (fOp dP (aE 5)<|fC (.int 1)) aN) (cq 1) cK<|bG aOK)
abbrev aHP:=fOp VH (aE 1)<|fC (.int 1)
abbrev aNH:=aC (aE 5)<|aC aHP aN
abbrev aQi:=aC (aE 0)<|aC (fOp dP (aE 0)<|fC (.int 1)) aN
def tP:EF:=(fLc [Y] (BN aNH) (cq 0) cK<|bG aQi)
abbrev aAX:=fS "list" FB (aE 1) aN
def sT:EF:=(fLc [Z 6,Z 0,Y] (gL NU) (cq 2) (gB<|fOp gtI (fOp dJ aAX<|fC (.int 3))<|fC (.int 0))<|bG aIr)
def nH:SF:=(bA (fOp NK (aE 3) sT)<|cq 3)
abbrev aLg:=aC (fOp dJ (aE 4)<|aE 1)<|aC (fOp dJ (fOp kY (aE 4)<|fC (.int 11))<|aE 1) aN
abbrev xq9:=aC (fOp dJ (fOp kY (aE 4)<|fC (.int 97))<|aE 1)<|aC (fOp dJ (fOp kY (aE 4)<|fC (.int 7))<|aE 1) aN
abbrev aMY:=fOp kY (aE 1)<|fC (.int 2)
def pX:SF:=(bC (bA (fOp dJ xq2<|fC (.int 9))<|cq 2)<|bC (bA (rS aN)<|cq 3)<|bC (sIf (gB<|fOp ltI (aE 2)<|fC (.int 2)) (bC (bA lY<|cq 3)<|sIf (gB<|fOp (eqX false) (aE 2)<|fC (.int 1)) (bC (bA xq2<|cq 4)<|bA (fOp NK (aE 3)<|fI<|aC (bG aLg)<|aC (bG xq9) aN)<|cq 3) cJ)<|sIf (gB<|fOp (eqX false) (aE 2)<|fC (.int 2)) (bA tE<|cq 3)<|sIf (gB<|fOp (eqX false) (aE 2)<|fC (.int 3)) (bA sX<|cq 3)<|sIf (gB<|fOp (eqX false) (aE 2)<|fC (.int 4)) (bC (bA aMY<|cq 5)<|bC (uA (gL xq0) (cq 6) nA)<|mG<|fS "list" eZ (aE 3)<|aC (bG<|aC (fC (.int 0))<|aC aHP aN) aN)<|sIf (gB<|fOp (eqX false) (aE 2)<|fC (.int 5)) (bC (bA aMY<|cq 5)<|bC (bA lX<|cq 3)<|bA (fOp NK (fOp NK (aE 3) tP)<|fI<|aC (bG aNH) aN)<|cq 3)<|sIf (gB<|fOp ltI (aE 2)<|fC (.int 8)) (uA (gL xq0) (cq 6) nH) cJ)<|cF<|aE 3)
def gI:FN:=fnF 2 7 pX
abbrev lW:Stmt:=top 39
noncomputable abbrev vW:Tc:=["_law_draw","_law_some"]
noncomputable abbrev oO:Tc:=["_law_draw"]
def sc__law_weight:aT vW oO (aI lW):=70
abbrev EW:=fC (.int 55440)
def rO:EF:=(fI<|aC EW<|aC EW<|aC (fC (.int 110880))<|aC (fC (.int 27720))<|aC (fC (.int 41580))<|aC (fC (.int 0))<|aC (fC (.int 23100))<|aC (fC (.int 166320))<|aC (fOp HV EW<|fOp aAT (fC (.int 10))<|fC (.int 9))<|aC (fC (.int 1))<|aC EW<|aC (fC (.int 27720)) aN)
def AE(γ:Ga)(M:Sto):rO γ M=Z (.d (.list [(.int 55440),(.int 55440),(.int 110880),(.int 27720),(.int 41580),(.int 0),(.int 23100),(.int 166320),(.int 55440000000000),(.int 1),(.int 55440),(.int 27720)]),M):=rfl
def oJ:SF:=(bC (bA rO<|cq 1)<|cF<|fOp ixF (aE 1)<|fOp dJ (aE 0)<|fC (.int 12))
def jX:FN:=fnF 1 2 oJ
abbrev rZ:Stmt:=top 41
noncomputable abbrev FI:Tc:=["_law_deck_here","_law_many","_law_alike","_law_found","_law_i","_law_j","_law_weight_here"]
def sc__law_web:aT FI rH (aI rZ):=70
abbrev aMy:=fOp (eqX false) (fOp dJ (aE 2)<|fC (.int 2))<|fC (.int 1)
abbrev aQv:=bA (aM jX<|aC xq2 aN)<|cq 6
abbrev VD:=aC (aE 5) aN
def qO:SF:=(bC (bA EW<|cq 6)<|bC (sIf (gB aMy) aQv cJ)<|sIf (LO (gB<|fOp (eqX true) (aE 4)<|aE 5)<|gB<|fOp gtI (aE 6)<|fC (.int 0)) (AQ (aE 3) (wX<|aC (aM SB<|aC (aE 4) VD)<|aC (aM PK<|aC (aE 4) VD) aN)<|aE 6) cJ)
abbrev vH:=aC (aE 0) xq0
abbrev aBP:=gW (cq 4)<|gW (cq 5) IM
def DV:SF:=(bC (bA xq2<|cq 2)<|bC (bA AA<|cq 3)<|bC (uA (cQ<|yF<|aM gI vH) (fR 2 aBP) qO)<|cF<|aE 3)
def qG:FN:=fnF 2 7 DV
abbrev tW:Stmt:=top 6
noncomputable abbrev DP:Tc:=["thing"]
def RI:aT DP DP (aI tW):=70
def GX:SF:=(cF<|kQ (AU "int"<|aE 0)<|RG<|AU "bool"<|aE 0)
def iE:FN:=fnF 1 1 GX
abbrev AO:Stmt:=top 7
def aBM:aT DP DP (aI AO):=70
def QB:SF:=(cF<|OI "list" "tuple"<|aE 0)
def tR:FN:=fnF 1 1 QB
abbrev zD:Stmt:=top 20
noncomputable abbrev SN:Tc:=["one","other"]
def sc_common:aT SN SN (aI zD):=70
abbrev aPd:=SC 0 1<|aC (aE 1)<|aC (fOp dJ (aE 0)<|aE 1) aN
def wU:SF:=(xK (LB<|aE 1) aPd)
def QZ:SF:=(bC wU<|cF<|aE 0)
def yH:FN:=fnF 2 2 QZ
abbrev qW:Stmt:=top 8
noncomputable abbrev CG:Tc:=["thing","length"]
def KW:aT CG CG (aI qW):=70
abbrev aBK:=aM pO xq4
def BW:SF:=(cF<|kQ (aM tR xq4)<|fOp (eqX false) aBK<|aE 1)
def iK:FN:=fnF 2 2 BW
abbrev eX:Stmt:=top 19
def rP:aT DP DP (aI eX):=70
abbrev aCn:=fOp ixF (aE 0)<|fC (.int 0)
abbrev aFn:=fOp ixF (aE 0)<|fC (.int 1)
abbrev aBs:=fC (.bool false)
abbrev xq8:=cF aBs
def cP:SF:=(bC (sIf (gOr (gF<|gB<|aM iK<|aC (aE 0)<|aC (fC (.int 2)) aN)<|gOr (gF<|gB<|aM iE<|aC aCn aN)<|gF<|gB<|aM iE<|aC aFn aN) xq8 cJ)<|cF<|kQ (fOp geI aCn<|fC (.int 0))<|fOp geI aFn<|fC (.int 1))
def cA:FN:=fnF 1 1 cP
abbrev mZ:Stmt:=top 18
def ES:aT DP DP (aI mZ):=70
def eR:SF:=(cF<|kQ (aM cA xq4)<|kQ (fOp (eqX false) (fOp dJ EW aFn)<|fC (.int 0))<|fOp (eqX false) (aM yH<|aC aCn<|aC aFn aN)<|fC (.int 1))
def dF:FN:=fnF 1 1 eR
abbrev rG:Stmt:=top 17
def LR:aT DP DP (aI rG):=70
def kH:SF:=(cF<|kQ (aM dF xq4)<|fOp leI aCn<|fC (.int 1000000000000))
def fL:FN:=fnF 1 1 kH
abbrev tI:Stmt:=top 9
noncomputable abbrev FW:Tc:=["many","thing"]
def OY:aT FW FW (aI tI):=70
def qD:SF:=(cF<|kQ (aM iE xq0)<|HC leI ltI (fC (.int 0)) (aE 1)<|aE 0)
def fV:FN:=fnF 2 2 qD
abbrev fT:Stmt:=top 10
noncomputable abbrev lF:Tc:=["many","i","j"]
def tS:aT lF lF (aI fT):=70
def dD:SF:=(cF<|kQ (aM fV vH)<|kQ (aM fV<|aC (aE 0) xq1)<|fOp (eqX true) (aE 1)<|aE 2)
def cG:FN:=fnF 3 3 dD
abbrev fU:Stmt:=top 11
def sL:aT FW FW (aI fU):=70
def cZ:SF:=(cF<|kQ (aM iK<|aC (aE 1)<|aC (fC (.int 3)) aN)<|kQ (aM cG<|aC (aE 0)<|aC (fOp ixF (aE 1)<|fC (.int 0))<|aC (fOp ixF (aE 1)<|fC (.int 1)) aN)<|fOp ltI (fOp ixF (aE 1)<|fC (.int 0))<|fOp ixF (aE 1)<|fC (.int 1))
def bN:FN:=fnF 2 2 cZ
abbrev zI:Stmt:=top 30
def aAI:aT FW FW (aI zI):=70
def pF:SF:=(cF<|kQ (aM bN vH)<|aM fL<|aC (fOp ixF (aE 1)<|fC (.int 2)) aN)
def mK:FN:=fnF 2 2 pF
abbrev rF:Stmt:=top 29
noncomputable abbrev BX:Tc:=["many","ties","weights","at","row"]
noncomputable abbrev uR:Tc:=["many","ties"]
def sc_kept_ties:aT BX uR (aI rF):=70
abbrev aOo:=wX<|aC (fOp ixF (aE 4)<|fC (.int 0))<|aC (fOp ixF (aE 4)<|fC (.int 1)) aN
def hW:SF:=(bC (sIf (gOr (gF<|gB<|aM mK<|aC (aE 0)<|aC (aE 4) aN)<|gB<|aGV false aOo<|aE 2) MY cJ)<|AQ (aE 2) aOo<|aM iH<|aC (fOp ixF (aE 4)<|fC (.int 2)) aN)
abbrev xq6:=gW (cq 0)<|gW (cq 1) IM
abbrev aBA:=aC (aE 0)<|aC (aE 1) xq1
def vT:EF:=(fLc [Y,Y,Y] (cQ<|AB<|aE 2) (fR 2<|gW (fR 2 xq6)<|gW (cq 2) IM) (gB<|fOp gtI aCT<|fC (.int 0))<|bG aBA)
abbrev aJe:=gW (cq 3)<|gW (cq 4) IM
def sC:SF:=(bC (sIf (gF<|gB<|aM tR xq0) MY cJ)<|bC (bA AA<|cq 2)<|bC (uA (nL xq0) (fR 2 aJe) hW)<|cF<|aM iH<|aC vT aN)
def kD:FN:=fnF 2 5 sC
abbrev iV:Stmt:=inClass (top 28) 0
noncomputable abbrev CK:Tc:=["self","many","ties"]
def MC:aT CK CK (aI iV):=70
abbrev VN:=gW (cq 1)<|gW (cq 2) IM
def pA:EF:=(fDc (.dt []) [Y,Y,Y] (cQ<|CV "Web" "ties"<|aE 0) (fR 3<|gW (cq 0) VN) cK (wX vH)<|aE 2)
def uM:SF:=(bC (sIf (gOr (gF<|gB<|aM iE xq0)<|gOr (gB<|fOp ltI (aE 1)<|fC (.int 1))<|gB<|fOp gtI (aE 1)<|fC (.int 40)) MY cJ)<|bC (IX "Web" "many" (aE 0)<|aE 1)<|bC (IX "Web" "ties" (aE 0)<|aM kD<|aC (aE 1) xq1)<|IX "Web" "weights" (aE 0) pA)
def iM:FN:=fnF 3 3 uM
abbrev mX:Stmt:=top 38
noncomputable abbrev vL:Tc:=["_law_above","_law_below","_law_one","_law_other"]
noncomputable abbrev oH:Tc:=["_law_above","_law_below"]
def sc__law_lowest:aT vL oH (aI mX):=70
abbrev aOg:=SC 2 3<|aC (aE 3)<|aC (fOp dJ (aE 2)<|aE 3) aN
def rN:SF:=(xK (gB<|fOp gtI (aE 3)<|fC (.int 0)) aOg)
abbrev aOB:=cF<|bG<|aC (fOp kY (aE 0)<|aE 2)<|aC (fOp kY (aE 1)<|aE 2) aN
def oP:SF:=(bC (SC 2 3 vH)<|bC rN aOB)
def gV:FN:=fnF 2 4 oP
abbrev qU:Stmt:=top 42
noncomputable abbrev BF:Tc:=["_law_ties"]
def LZ:aT BF BF (aI qU):=70
abbrev aPU:=bG<|aC (aE 1)<|aC (aE 2)<|aC (aM gV<|aC (sF (aE 0)<|wX<|aC (aE 1) xq1)<|aC EW aN) aN
def vO:EF:=(fLc [Z 0,Y,Y] (cQ<|aM wN xq4) (fR 2 VN) cK aPU)
def sD:SF:=(cF vO)
def oA:FN:=fnF 1 1 sD
abbrev mO:Stmt:=top 48
def GJ:aT rH rH (aI mO):=70
abbrev aMJ:=fOp (eqX false) (fOp dJ xq2<|fC (.int 2))<|fC (.int 0)
def CP:EF:=(fLc [Z 0,Y] (gL xq0) (cq 1) (gB aMJ)<|aE 1)
def wF:SF:=(cF<|aM iH<|aC CP aN)
def jU:FN:=fnF 2 2 wF
abbrev uD:Stmt:=top 49
noncomputable abbrev GL:Tc:=["_law_deck_here","_law_many","_law_one"]
def sc__law_two:aT GL rH (aI uD):=70
abbrev aOp:=fOp dP (fOp dP (aE 2)<|fC (.int 1))<|fOp dJ xq2 aHP
def FJ:SF:=(bC (bA aIE<|cq 2)<|cF<|bG<|aC (aE 2)<|aC (fOp dJ aOp<|aE 1) aN)
def qQ:FN:=fnF 2 3 FJ
abbrev qC:Stmt:=top 50
noncomputable abbrev BZ:Tc:=["_law_deck_here","_law_many","_law_found","_law_two_here"]
def sc__law_told:aT BZ rH (aI qC):=70
def BI:SF:=(bC (bA (aM jU vH)<|cq 2)<|bC (bA (aM qQ vH)<|cq 3)<|bC (sIf (gB<|fOp ltI (aM pO xq1)<|fC (.int 2)) (bA (aM iH<|aC (wB<|aC (fOp dP (aE 2)<|aE 3) aN) aN)<|cq 2) cJ)<|cF<|aE 2)
def nM:FN:=fnF 2 4 BI
abbrev iU:Stmt:=top 53
noncomputable abbrev pS:Tc:=["_law_numbers_here","_law_size","_law_found","_law_k"]
noncomputable abbrev jG:Tc:=["_law_numbers_here","_law_size"]
def sc__law_groups_of:aT pS jG (aI iU):=70
def mM:EF:=(fLc [Z 3,Z 0,Y] (gL<|aC aBK aN) (cq 2) (gB<|fOp (eqX false) (fOp ixF (aE 1)<|aE 2)<|aE 0)<|aE 2)
def mI:SF:=(mG<|fS "list" eZ (aE 2)<|aC (aM iH<|aC mM aN) aN)
def pM:SF:=(bC (bA (rS aN)<|cq 2)<|bC (uA (gL xq0) (cq 3) mI)<|cF<|aM iH xq1)
def jP:FN:=fnF 2 4 pM
abbrev kT:Stmt:=top 52
noncomputable abbrev sE:Tc:=["_law_deck_here","_law_many","_law_places_here","_law_found","_law_k","_law_place"]
noncomputable abbrev nB:Tc:=["_law_deck_here","_law_many","_law_places_here"]
def sc__law_numbers:aT sE nB (aI kT):=70
def pJ:EF:=(HX [Z 2,Z 0,Y] (gL xq0) (cq 2) cK<|fOp dJ aAX aBK)
def gH:SF:=(bA (aE 4)<|hSub (aE 3) (aE 5) EV)
def sA:SF:=(bC (bA pJ<|cq 3)<|bC (uA (nL xq1) (fR 2 aBP) gH)<|cF<|aE 3)
def mB:FN:=fnF 3 6 sA
abbrev qJ:Stmt:=top 12
noncomputable abbrev BS:Tc:=["row"]
def OC:aT BS BS (aI qJ):=70
abbrev aOd:=aC (aE 0)<|aC (fSl (aE 0) (iL<|fC (.int 1)) gJ) aN
def vX:EF:=(fLc [Y,Y] (CH aOd) (fR 2 xq6) cK aEh)
def sO:SF:=(cF<|aM wR<|aC vX aN)
def nU:FN:=fnF 1 1 sO
abbrev fN:Stmt:=top 13
def sP:aT FW FW (aI fN):=70
abbrev aBj:=cQ<|aE 1
def jC:EF:=(fLc [Z 0,Y] aBj (cq 1) cK<|aM fV vH)
def dA:SF:=(cF<|kQ (aM tR xq0)<|kQ (aM wR<|aC jC aN)<|aM nU xq0)
def bT:FN:=fnF 2 2 dA
abbrev iY:Stmt:=top 34
noncomputable abbrev pL:Tc:=["web","places"]
def yT:aT pL pL (aI iY):=70
abbrev UJ:=CV "Web" "many"<|aE 0
abbrev aLE:=aM bT<|aC UJ xq0
abbrev WC:=aM pO xq0
def cL:SFX:=(PZ (gOr (gF<|gB aLE)<|gB<|fOp ltI WC<|fC (.int 2)) (DX "NoPlace")<|liS cJ)
def jN:FX:=fnX 2 2 cL
abbrev zB:Stmt:=top 25
noncomputable abbrev QL:Tc:=["heaps"]
def aBY:aT QL QL (aI zB):=70
def HF:EF:=(aDw [Y,Y] (cQ<|aE 0) (cq 0) cK (cQ<|aE 0) (cq 1) cK<|aE 1)
def SQ:SF:=(cF<|aM iH<|aC (aM zO<|aC HF aN) aN)
def FH:FN:=fnF 1 1 SQ
abbrev tG:Stmt:=top 32
noncomputable abbrev FV:Tc:=["web","places","groups"]
def QK:aT FV FV (aI tG):=70
def qV:EF:=(fLc [Z 0,Y] (cQ<|aE 2) (cq 1) cK aLE)
def pZ:EF:=(fLc [Y,Y] (CH<|aC (aE 1) xq1) (fR 2 xq6) cK<|fOp (inD false) (aE 0)<|aE 1)
abbrev aPW:=gOr (gF<|gB<|aM iK<|aC (aE 2)<|aC WC aN)<|gF<|gB<|aM wR<|aC qV aN
abbrev aLp:=fOp (eqX true) (aM FH xq1)<|wQ<|aC UJ aN
def xC:SFX:=(xX (qZ<|kM jN<|liA vH)<|liS<|bC (sIf aPW xq8 cJ)<|bC (sIf (gB aLp) xq8 cJ)<|cF<|aM wR<|aC pZ aN)
def eF:FX:=fnX 3 3 xC
abbrev tN:Stmt:=top 47
noncomputable abbrev GC:Tc:=["_law_deck_here","_law_some"]
noncomputable abbrev wO:Tc:=["_law_deck_here"]
def sc__law_any:aT GC wO (aI tN):=70
abbrev DS:=aC (fC (.int 0)) aN
def pU:EF:=(fI DS)
def eK__law_any_0(γ:Ga)(M:Sto):pU γ M=Z (.d (.list [(.int 0)]),M):=rfl
def qM:EF:=(bG DS)
def eK__law_any_1(γ:Ga)(M:Sto):qM γ M=Z (.d (.tuple [(.int 0)]),M):=rfl
abbrev aGm:=aC (fC (.int 1)) aN
abbrev RW:=fC (.bool true)
def qP:EF:=(fI<|aC (bG<|aC (fC (.int 1)) DS)<|aC (bG<|aC (bG DS) aGm)<|aC (bG<|aC (fC .none) aN)<|aC (bG<|aC RW aN)<|aC (bG<|aC (fC (.int 0))<|aC RW aN)<|aC (bG<|aC (fC (.str "0")) aGm)<|aC (bG<|aC (bG aN) aN)<|aC (bG<|aC (bG aN)<|aC (bG aN) aN) aN)
def eK__law_any_2(γ:Ga)(M:Sto):qP γ M=Z (.d (.list [(.tuple [(.int 1),(.int 0)]),(.tuple [(.tuple [(.int 0)]),(.int 1)]),(.tuple [.none]),(.tuple [(.bool true)]),(.tuple [(.int 0),(.bool true)]),(.tuple [(.str "0"),(.int 1)]),(.tuple [(.tuple [])]),(.tuple [(.tuple []),(.tuple [])])]),M):=rfl
abbrev xq5:=fUn aBO<|fC (.int 1)
def qE:EF:=(fI<|aC (bG<|aC (fC (.int 0))<|aC (fC (.int 1))<|aC (fC (.int 2))<|aC (fC (.int 40)) aN)<|aC (fI<|aC (fI DS) aN)<|aC (bG<|aC xq5 DS)<|aC (bG<|aC (fC (.int 0)) DS)<|aC (bG<|aC (bG<|aC (fC (.int 0))<|aC (fC (.int 1))<|aC (bG<|aC (fC (.int 1)) aGm) aN) aN) aN)
def eK__law_any_3(γ:Ga)(M:Sto):qE γ M=Z (.d (.list [(.tuple [(.int 0),(.int 1),(.int 2),(.int 40)]),(.list [(.list [(.int 0)])]),(.tuple [(.int (-1)),(.int 0)]),(.tuple [(.int 0),(.int 0)]),(.tuple [(.tuple [(.int 0),(.int 1),(.tuple [(.int 1),(.int 1)])])])]),M):=rfl
abbrev aLU:=fOp aAT (fC (.int 10))<|fC (.int 30)
def HG:SF:=(bC (bA (fI<|aC (fC .none)<|aC RW<|aC aBs<|aC (fC (.int 0))<|aC (fC (.int 1))<|aC xq5<|aC aLU<|aC (fC (.str ""))<|aC (fC (.str "0"))<|aC (fC (.str "01"))<|aC (bG aN)<|aC (fI aN)<|aC FC<|aC (JZ [((fC (.int 0)),(fC (.int 1)))])<|aC qM<|aC pU aN)<|cq 1)<|bC (bA (fOp dP (aE 1) qP)<|cq 1)<|bC (bA (fOp dP (aE 1) qE)<|cq 1)<|cF<|fOp ixF (aE 1)<|fOp dJ xq2<|fC (.int 29))
def qA:FN:=fnF 1 2 HG
abbrev mJ:Stmt:=top 43
noncomputable abbrev oW:Tc:=["_law_thing"]
def uJ:aT oW oW (aI mJ):=70
def CU(self:FN):EF:=(fLc [Y] (cQ<|aE 0) (cq 0) cK<|aM self xq4)
def vP(self:FN):SF:=(bC (sIf (gB<|AU "tuple"<|aE 0) (cF<|CU self) cJ)<|cF<|aE 0)
def dE:Nat->FN
 |0=>λ_ _=>Y
 |n+1=>fnF 1 1<|vP<|dE n
abbrev gQ:Stmt:=top 56
noncomputable abbrev mY:Tc:=["_law_deck_here","_law_groups","_law_many","_law_draw","_law_at","_law_group","_law_place","_law_bent","_law_kind"]
noncomputable abbrev iA:Tc:=["_law_deck_here","_law_groups","_law_many"]
def sc__law_bent_groups:aT mY iA (aI gQ):=70
def dY:EF:=(bG<|aC xq5 aN)
def rQ(γ:Ga)(M:Sto):dY γ M=Z (.d (.tuple [(.int (-1))]),M):=rfl
abbrev aOe:=fOp dJ (fOp kY (aE 3)<|fC (.int 8))<|aE 2
abbrev xq7:=rS<|aC (fSl (aE 5) gJ<|iL xq5)<|aC (aM iH<|aC (wB<|aC (fOp dP (aE 5)<|bG NU) aN) aN)<|aC (fOp dP (OR (aE 5)<|iL xq5)<|bG NU)<|aC (bG aN)<|aC (fOp dP (aE 5)<|bG xq1)<|aC (fC .none) aN
abbrev aOR:=fOp dJ (fOp kY (aE 3)<|fC (.int 64))<|fC (.int 10)
abbrev aOn:=fSl (aE 1) (iL<|fOp dP (aE 4)<|fC (.int 1)) gJ
abbrev aPT:=sIf (gB<|fOp (eqX false) (aE 8)<|fC (.int 7)) (cF<|fOp dP (fSl (aE 1) gJ<|iL<|aE 4) aOn) cJ
abbrev aOL:=sIf (gB<|fOp (eqX false) (aE 8)<|fC (.int 8)) (cF<|fOp dP (aE 1)<|bG VD) cJ
abbrev aOF:=sIf (gB<|fOp (eqX false) (aE 8)<|fC (.int 9)) (cF<|fOp dP (fSl (aE 1) (iL<|fC (.int 1)) gJ)<|fSl (aE 1) gJ<|iL<|fC (.int 1)) cJ
abbrev aPu:=cF<|fOp dP (fOp dP (fSl (aE 1) gJ<|iL<|aE 4)<|bG<|aC (fOp ixF (aE 7)<|aE 8) aN) aOn
def dM:SF:=(bC (bA xq2<|cq 3)<|bC (bA (fOp dJ (aE 3) WC)<|cq 4)<|bC (bA (fOp ixF (aE 1)<|aE 4)<|cq 5)<|bC (bA aOe<|cq 6)<|bC (bA xq7<|cq 7)<|bC (mG<|fS "list" eZ (aE 7)<|aC (fOp dP dY<|aE 5) aN)<|bC (bA aOR<|cq 8)<|bC aPT<|bC aOL<|bC aOF aPu)
def eJ:FN:=fnF 3 9 dM
abbrev mQ:Stmt:=top 44
def FQ:aT oW oW (aI mQ):=70
def wC:SF:=(cF<|OI "list" "tuple"<|aE 0)
def gY:FN:=fnF 1 1 wC
abbrev jE:Stmt:=top 45
noncomputable abbrev rM:Tc:=["_law_thing","_law_least","_law_most"]
def zW:aT rM rM (aI jE):=70
def kS:SF:=(cF<|kQ (AU "int"<|aE 0)<|kQ (RG<|AU "bool"<|aE 0)<|HC leI leI (aE 1) (aE 0)<|aE 2)
def hX:FN:=fnF 3 3 kS
abbrev iF:Stmt:=top 46
noncomputable abbrev nT:Tc:=["_law_many","_law_thing"]
def wZ:aT nT nT (aI iF):=70
abbrev aOi:=gB<|aM hX<|aC (aE 1)<|aC (fC (.int 0))<|aC (fOp VH (aE 0)<|fC (.int 1)) aN
def lD:EF:=(fLc [Z 0,Y] aBj (cq 1) (gF aOi)<|aE 1)
def dR:SF:=(bC (sIf (gF<|gB<|aM gY xq0) xq8 cJ)<|bC (sIf (gB<|fOp (eqX true) lD<|fI aN) xq8 cJ)<|cF<|fOp (eqX false) (aM uQ xq0)<|wB xq0)
def cE:FN:=fnF 2 2 dR
abbrev iD:Stmt:=top 54
noncomputable abbrev nK:Tc:=["_law_many","_law_places_here","_law_groups","_law_found","_law_k","_law_group"]
noncomputable abbrev iW:Tc:=["_law_many","_law_places_here","_law_groups"]
def sc__law_are_groups:aT nK iW (aI iD):=70
def lA:EF:=(fLc [Z 5,Y] aBj (cq 1) (gB<|fOp (inD false) (aE 1)<|aE 0)<|aE 1)
abbrev aQj:=fOp (eqX true) lA<|fI<|aC (fOp ixF (aE 1)<|aE 4) aN
def cY:SF:=(bC (sIf (gF<|gB<|aM cE<|aC (aE 0) VD) xq8 cJ)<|bC (sIf (gB aQj) xq8 cJ)<|bA (fOp dP (aE 3)<|aM uQ VD)<|cq 3)
abbrev aNe:=fOp (eqX true) (aM pO xq1) WC
abbrev xq3:=aC (aE 3) aN
def fE:SF:=(bC (sIf (gOr (gF<|gB<|aM gY xq1)<|gB aNe) xq8 cJ)<|bC (bA (fI aN)<|cq 3)<|bC (uA (nL xq1) (fR 2 aBP) cY)<|cF<|fOp (eqX false) (aM zO xq3)<|HL false xq4)
def cV:FN:=fnF 3 6 fE
abbrev eI:Stmt:=top 55
noncomputable abbrev jB:Tc:=["_law_ties","_law_groups","_law_found","_law_i","_law_j"]
noncomputable abbrev eU:Tc:=["_law_ties","_law_groups"]
def sc__law_between_groups:aT jB eU (aI eI):=70
def eC:EF:=(fLc [Z 3,Z 4,Y] aBj (cq 2) (LO (gB<|fOp (inD false) (aE 0)<|aE 2)<|gB<|fOp (inD false) (aE 1)<|aE 2)<|aE 2)
abbrev aNh:=aC (aE 3)<|aC (aE 4) aN
def cU:SF:=(sIf (gB<|fOp (eqX false) eC<|fI aN) (bA (fOp dP (aE 2)<|sF (aE 0)<|wX aNh)<|cq 2) cJ)
def jD:SF:=(bC (bA (fC (.int 0))<|cq 2)<|bC (uA (XH<|aE 0) (fR 2 aJe) cU)<|cF<|aE 2)
def eV:FN:=fnF 2 5 jD
abbrev iO:Stmt:=top 21
noncomputable abbrev pB:Tc:=["above","below","divisor"]
noncomputable abbrev jH:Tc:=["above","below"]
def sc_in_least_terms:aT pB jH (aI iO):=70
def jQ:SF:=(bC (bA (aM yH vH)<|cq 2) aOB)
def gC:FN:=fnF 2 3 jQ
abbrev oK:Stmt:=top 23
noncomputable abbrev yP:Tc:=["many"]
def IK:aT yP yP (aI oK):=70
def rC:SF:=(cF<|aM gC<|aC (aE 0)<|aC EW aN)
def lL:FN:=fnF 1 1 rC
abbrev FD:Stmt:=top 22
noncomputable abbrev aAh:Tc:=["amount"]
def aEx:aT aAh aAh (aI FD):=70
def NW:SF:=(cF<|fOp HV aCn<|fOp kY EW aFn)
def vA:FN:=fnF 1 1 NW
abbrev kW:Stmt:=top 35
noncomputable abbrev uE:Tc:=["web","group_of"]
def CY:aT uE uE (aI kW):=70
abbrev aLO:=gW (cq 1)<|gW (cq 2)<|gW (cq 3) IM
abbrev aMO:=fOp (eqX true) (sF (aE 0)<|IP<|aE 1)<|sF (aE 0)<|IP<|aE 2
def pC:EF:=(fLc [Z 1,Y,Y,Y] (cQ<|CV "Web" "ties"<|aE 0) (fR 3 aLO) (gB aMO)<|aM vA xq3)
def tX:SF:=(cF<|aM sumF<|aC pC aN)
def nI:FN:=fnF 2 2 tX
abbrev jL:Stmt:=top 33
noncomputable abbrev rK:Tc:=["web","places","groups","group_of"]
def sc_groups_weight:aT rK FV (aI jL):=70
def iQ:EF:=(aIJ (.dk []) [Y,Y,Y] (nL xq1) (fR 2 xq6) cK aBj (cq 2) cK (IP<|aE 2)<|aE 0)
def kX:SFX:=(xX (yQ (kM eF<|liA aBA) (DX "NoGroups")<|liS cJ)<|liS<|bC (bA iQ<|cq 3)<|cF<|aM lL<|aC (aM nI<|aC (aE 0) xq3) aN)
def eQ:FX:=fnX 3 4 kX
abbrev gT:Stmt:=top 57
noncomputable abbrev mL:Tc:=["_law_world","_law_places_here","_law_groups","_law_found","error"]
noncomputable abbrev iC:Tc:=["_law_world","_law_places_here","_law_groups"]
def sc__law_weight_told:aT mL iC (aI gT):=70
def fW:SF:=(bA (bG<|aC (fC (.str "no place"))<|aC (kQ (yU cS (Z false)<|aE 4)<|RG<|yU eD (Z false)<|aE 4) aN)<|cq 3)
def fX:SF:=(bA (bG<|aC (fC (.str "no groups"))<|aC (kQ (yU cS (Z false)<|aE 4)<|RG<|yU mD (Z false)<|aE 4) aN)<|cq 3)
def cR:SFX:=(CB (xCB pH<|FU (kM eQ<|liA aBA)<|liA aN)<|cq 3)
def mP:SF:=(bC (bA (fC .none)<|cq 3)<|bC (ET cR [⟨[("NoGroups",true),("NoPlace",false)],(Z 4),fX⟩,⟨[("NoGroups",false),("NoPlace",true)],(Z 4),fW⟩])<|cF<|aE 3)
def bS:FN:=fnF 3 5 mP
abbrev oZ:Stmt:=top 58
noncomputable abbrev yD:Tc:=["_law_world","_law_ties","_law_places_here","_law_groups","_law_kept","_law_found","_law_due","_law_weight_here"]
noncomputable abbrev qK:Tc:=["_law_world","_law_ties","_law_places_here","_law_groups"]
def sc__law_right:aT yD qK (aI oZ):=70
def uO:EF:=(bG<|aC (fC (.str "no groups"))<|aC RW aN)
abbrev LJ:=aC (aE 2) xq3
abbrev aKW:=aM pH<|aC (bG LJ) aN
abbrev TB:=aC (aE 1) xq3
abbrev aPf:=bA (aM pH<|aC (aM gV<|aC (aM eV TB)<|aC EW aN) aN)<|cq 7
abbrev aOx:=gOr (gB<|fOp (eqX true) (aE 5)<|aE 6)<|gB<|fOp (eqX true) (aM bS<|aC (aE 0) LJ)<|aE 7
def lK:SF:=(bC (bA aKW<|cq 4)<|bC (bA (tJ eF<|aC (aE 0) LJ)<|cq 5)<|bC (bA (aM cV<|aC UJ LJ)<|cq 6)<|bC (bA uO<|cq 7)<|bC (sIf (LB<|aE 6) aPf cJ)<|bC (sIf (gOr (gF<|gB<|AU "bool"<|aE 5) aOx) xq8 cJ)<|cF<|fOp (eqX false) aKW<|aE 4)
def iS:FN:=fnF 4 8 lK
abbrev kP:Stmt:=top 51
noncomputable abbrev sG:Tc:=["_law_deck_here","_law_many","_law_some"]
def sc__law_no_told:aT sG rH (aI kP):=70
def zC:EF:=(bG<|aC RW<|aC (fC (.int 2)) aN)
def AY:EF:=(bG<|aC xq5 DS)
def yY:EF:=(bG<|aC (fC (.int 0)) DS)
def zG:EF:=(bG<|aC (fC (.int 1)) DS)
def AJ:EF:=(bG DS)
def AG:EF:=(fI<|aC (fC (.int 0))<|aC (fC (.str "01"))<|aC (bG<|aC (fC (.int 0))<|aC (fC .none) aN)<|aC (bG<|aC (bG<|aC (fC (.int 0)) aGm) aN)<|aC (bG<|aC (fC (.int 0))<|aC aLU aN) aN)
def rY:SF:=(bC (bA (fI<|aC (bG aN)<|aC AJ<|aC zG<|aC yY<|aC (bG<|aC (fC (.int 0)) xq0)<|aC AY<|aC zC<|aC (fC .none) aN)<|cq 2)<|bC (bA (fOp dP (aE 2) AG)<|cq 2)<|cF<|fOp ixF (aE 2)<|fOp dJ xq2<|fC (.int 13))
def iR:FN:=fnF 2 3 rY
abbrev kR:Stmt:=top 59
def sc__law_refused:aT mL iC (aI kR):=70
def fY:SF:=(bA (kQ (yU cS (Z false)<|aE 4)<|RG<|yU eD (Z false)<|aE 4)<|cq 3)
def jJ:SFX:=(qZ<|kM eF<|liA aBA)
def AR:EF:=(bG<|aC (fC (.str "no place"))<|aC RW aN)
def sJ:SF:=(bC (bA aBs<|cq 3)<|bC (ET jJ [⟨[("NoGroups",false),("NoPlace",true)],(Z 4),fY⟩])<|cF<|kQ (aE 3)<|fOp (eqX false) (aM bS aBA) AR)
def fM:FN:=fnF 3 5 sJ
abbrev SZ:Stmt:=top 60
noncomputable abbrev aKa:Tc:=["_law_script","_law_deck_here","_law_k","_law_many","_law_ties","_law_world","_law_places_here","_law_groups","_law_things","_law_turn","_law_none"]
noncomputable abbrev aJm:Tc:=["_law_script"]
def sc_law:aT aKa aJm (aI SZ):=70
def NT:SF:=(mG<|fS "list" eZ (aE 8)<|aC (aM eJ<|aC (aE 1)<|aC (aE 7) xq3) aN)
abbrev aOA:=aC (aE 0)<|aC (aE 1)<|aC (fOp ixF (fI<|aC (aE 2)<|aC (aM uQ xq1) aN)<|fOp dJ (aE 3)<|fC (.int 2))<|aC (aE 4) aN
def NY:EF:=(fLc [Z 5,Z 4,Z 6,Z 2,Y] (cQ<|aE 8) (cq 4) cK<|aM iS aOA)
abbrev aOq:=fOp dP (fC (.int 2))<|fOp dJ aAX<|fC (.int 7)
abbrev aNn:=aC (aE 3)<|aC (aM oA<|aC (aE 4) aN) aN
abbrev aQn:=aM jP<|aC (aM mB<|aC (aE 1)<|aC (aE 3) NU)<|aC (aM pO NU) aN
abbrev aPg:=gF<|gB<|tJ eF<|aC (aE 5)<|aC (aE 6)<|aC (aE 7) aN
abbrev aOQ:=rS<|aC (aE 7)<|aC (aM (dE 4)<|aC (aE 7) aN)<|aC (OR (aE 7)<|iL xq5)<|aC (aM qA xq0)<|aC (bG aN)<|aC (bG<|aC (wQ xq3) aN) aN
abbrev aMc:=fS "list" eZ (aE 8)<|aC (aM (dE 4)<|aC (fOp ixF (aE 8) xq5) aN) aN
abbrev aOH:=gOr (gF<|gB<|aM fM<|aC (aE 5)<|aC (aE 10)<|aC (aE 7) aN)<|gF<|gB<|aM fM<|aC (aE 5)<|aC (aE 10)<|aC (aM qA xq0) aN
def aAk:SF:=(bC (bA aOq<|cq 3)<|bC (bA (aM qG TB)<|cq 4)<|bC (RX 4<|bA (KL "Web" iM aNn)<|cq 5)<|bC (bA (aM nM TB)<|cq 6)<|bC (bA aQn<|cq 7)<|bC (sIf aPg xq8 cJ)<|bC (bA aOQ<|cq 8)<|bC (uA (gL<|aC (fC (.int 6)) aN) (cq 9) NT)<|bC (aEE 8<|mG aMc)<|bC (sIf (gF<|gB<|aM wR<|aC NY aN) xq8 cJ)<|bC (bA (aM iR TB)<|cq 10)<|sIf aOH xq8 cJ)
abbrev aNY:=aM sN<|aC (aE 0)<|aC (fC (.int 480)) aN
def aJT:SF:=(bC (bA aNY<|cq 1)<|bC (uA (gL<|aC (fC (.int 4)) aN) (cq 2) aAk)<|cF RW)
def F_law:FN:=fnF 1 11 aJT
structure Txt(K:Fg)(mg:Str->Tf):Prop where
 hB:aAM mg ["all","bool","enumerate","int","isinstance","len","list","max","min","range","repr","set","sorted","sum","tuple","zip"]
 v119:∃t:Tok,mg "MOST_ABOVE"=Z (.int 1000000000000 t)
 v120:∃t:Tok,mg "BELOW"=Z (.int 55440 t)
 v121:∃t:Tok,mg "MOST_PLACES"=Z (.int 40 t)
 v111:mg "Web"=Z (.ref (bI K "Web"))
 v112:Cls K (bI K "Web")
 v24:jS K (bI K "Web") "many"
 v113:mg "NoGroups"=Z (.ref (bI K "NoGroups"))
 v26:W.excIn K (bI K "NoGroups") bmV "ValueError.__new__"=true
 v114:mg "NoPlace"=Z (.ref (bI K "NoPlace"))
 v28:W.excIn K (bI K "NoPlace") bmV "ValueError.__new__"=true
 v29:jS K (bI K "Web") "ties"
 v30:W.exmOne K (.ref (bI K "NoPlace")) (.ref (bI K "NoPlace"))=Z true
 v31:W.exmOne K (.ref (bI K "NoGroups")) (.ref (bI K "NoPlace"))=Z false
 v115:XC K (bI K "NoGroups")
 v116:XC K (bI K "NoPlace")
 v48:EC K (.ref (bI K "NoGroups")) eD=true
 v49:W.kitOne K (.type "NoneType") (.ref (bI K "NoGroups"))=Z false
 v117:mg "CutError"=Z (.ref (bI K "CutError"))
 v51:EC K (.ref (bI K "CutError")) cS=true
 v52:W.kitOne K (.type "NoneType") (.ref (bI K "CutError"))=Z false
 v53:W.exmOne K (.ref (bI K "NoPlace")) (.ref (bI K "NoGroups"))=Z false
 v54:W.exmOne K (.ref (bI K "NoGroups")) (.ref (bI K "NoGroups"))=Z true
 v55:EC K (.ref (bI K "NoPlace")) mD=true
 v56:W.kitOne K (.type "NoneType") (.ref (bI K "NoPlace"))=Z false
 v57:jS K (bI K "Web") "weights"
 v118:aIf K "Web" "__init__" "Web.__init__" iV
 v63:W.makesIn K (bI K "Web")=true
 v64:W.keepIn K (.ref (bI K "Web"))=true
 v65:Def K mg "_law_deck" qR
 v66:Def K mg "_law_pairs" oU
 v67:Def K mg "_law_weight" lW
 v68:Def K mg "_law_web" rZ
 v69:Def K mg "is_whole" tW
 v70:Def K mg "is_row" AO
 v71:Def K mg "common" zD
 v72:Def K mg "is_row_of" qW
 v73:Def K mg "has_amount_numbers" eX
 v74:Def K mg "is_in_parts" mZ
 v75:Def K mg "is_weight" rG
 v76:Def K mg "is_place" tI
 v77:Def K mg "are_unlike_places" fT
 v78:Def K mg "is_between_places" fU
 v79:Def K mg "is_tie" zI
 v80:Def K mg "kept_ties" rF
 v81:Def K mg "_law_lowest" mX
 v82:Def K mg "_law_rows" qU
 v83:Def K mg "_law_places" mO
 v84:Def K mg "_law_two" uD
 v85:Def K mg "_law_told" qC
 v86:Def K mg "_law_groups_of" iU
 v87:Def K mg "_law_numbers" kT
 v88:Def K mg "is_rising" qJ
 v89:Def K mg "are_rising_places" fN
 v90:Def K mg "refuse_no_told" iY
 v91:Def K mg "joined" zB
 v92:Def K mg "is_apart" tG
 v93:Def K mg "_law_any" tN
 v94:Def K mg "_law_listed" mJ
 v95:Def K mg "_law_bent_groups" gQ
 v96:Def K mg "_law_is_row" mQ
 v97:Def K mg "_law_is_whole" jE
 v98:Def K mg "_law_are_rising" iF
 v99:Def K mg "_law_are_groups" iD
 v100:Def K mg "_law_between_groups" eI
 v101:Def K mg "in_least_terms" iO
 v102:Def K mg "from_parts" oK
 v103:Def K mg "parts" FD
 v104:Def K mg "weight_apart" kW
 v105:Def K mg "groups_weight" jL
 v106:Def K mg "_law_weight_told" gT
 v107:Def K mg "_law_right" oZ
 v108:Def K mg "_law_no_told" kP
 v109:Def K mg "_law_refused" kR
 v110:Def K mg "law" SZ
section
variable{P:Ue}{w:World}{K:Fg}{mg:Str->Tf}{base:Heap}
def uW(T:Txt K mg):∀nm∈(["NoGroups","NoPlace"]:Tc),XC K (bI K nm):=(OP T.v115<|OP T.v116 aGL)
def KP(T:Txt K mg):Callee P w K mg base 1 "_law_deck" tY (spM K sN):=
 T.v65.okG (N:=CJ) (ps:=tY) (k:=0) (b:=CA) sc__law_deck 74 λf cdv A outer s H E a=>
  (aJ (aZ 2 (λ_=>sc__law_deck.nd)<|eN (aHc λ_=>rfl) 69 boot_list<|aA (aB 0) aD)
   (aJ (dC (bO (aPY 65 λ_=>a.units) (aB 2)<|eE aD)
    (aK<|aZ 2 (λ_=>sc__law_deck.nd)<|AI<|aA aG aD)
    cD)
   (aJ (aZ 3 (λ_=>sc__law_deck.nd)<|aW dB (cO fG (aB 2) aG) aG)
   (aJ (TV (aW iT (cO fG (aB 2) aG) aG)<|UW aCj (aB 2) aG)
   (aJ (aZ 4 (λ_=>sc__law_deck.nd)<|AI aD)
   (aJ (nG (λ_=>U2) 65 (gG 69<|aA (aB 1) aD) (aY 5 λ_=>sc__law_deck.nd)
    (aJ (aZ 6 (λ_=>sc__law_deck.nd)<|aW dB (aB 5)<|bM sM 69 A2f<|aA (aB 2) aD)
   (aJ (aZ 7 (λ_=>sc__law_deck.nd)<|aW dB (cO fG (aB 2)<|aB 6) aG)
   (aJ (dC (bO (oY 65 λ_=>a.units) (aB 3) aG)
    (aJ (aZ 7 (λ_=>sc__law_deck.nd)<|aW dB (aW eA (aW eA (cO fG (aB 2)<|aB 6)<|aW HB (aW HB (aB 5)<|aB 5) aG)<|aW HB aG<|aB 5) aG)
   (aJ (aZ 7 (λ_=>sc__law_deck.nd)<|aW dB (aW eA (aW HB (aB 7)<|cO fG (eE<|aA aG<|aA aG<|aA aG<|aA aG aD)<|aW dB (aB 5) aG) aG) aG)
   (aK (aZ 7 (λ_=>sc__law_deck.nd) (aW dB (aW HB (aB 7) (aB 7)) aG)))))
    (aK (TV (aW iT (cO fG (aB 2) (aB 6)) aG) (UW aCj (aB 2) (aB 6)))))
   (aK (qB (lO 65 (aB 4) (aA (aB 7) aD))))))))
   (aJ (qB<|TX 65<|aB 4)
   (aK (bD (aB 4))))))))))
def IA(T:Txt K mg):Callee P w K mg base 1 "_law_pairs" rH (spM K gI):=
 T.v66.okG (N:=yV) (ps:=rH) (k:=0) (b:=pX) sc__law_pairs 74 λf cdv A outer s H E a=>
  (aJ (aZ 2 (λ_=>sc__law_pairs.nd)<|aW dB (iP 65<|aB 0) aG)
   (aJ (aZ 3 (λ_=>sc__law_pairs.nd)<|AI aD)
   (aJ (dC (bO IE (aB 2) aG)
    (aJ (nF 3 (λ_=>sc__law_pairs.nd) (N':=(["_law_many","_law_k"]:Tc)) (cap:=[Z 1,Y]) 65 77 (gG 69<|aA (aB 1) aD) (aY 1 72) eY<|bB<|aA (aB 1)<|aA (aW dB (aW eA (aB 1) aG)<|aB 0) aD)
   (aK (dC (bO (oY 65 λ_=>a.units) (aB 2) aG)
    (aJ (aZ 4 (λ_=>sc__law_pairs.nd)<|iP 65<|aB 0)
   (aK (aZ 3 (λ_=>sc__law_pairs.nd) (aW (FZ 65) (aB 3) (eE (aA (bB (aA (aW dB (aB 4) (aB 1)) (aA (aW dB (aW iT (aB 4) aG) (aB 1)) aD))) (aA (bB (aA (aW dB (aW iT (aB 4) aG) (aB 1)) (aA (aW dB (aW iT (aB 4) aG) (aB 1)) aD))) aD)))))))
    cD)))
    (aK (dC (bO (oY 65 λ_=>a.units) (aB 2) aG)
    (aK<|nF 3 (λ_=>sc__law_pairs.nd) (N':=(["_law_k"]:Tc)) (cap:=[Y]) 65 77 (NG 69<|aA aG<|aA (aB 1) aD) (aY 0 72) eY<|bB<|aA aG<|aA (aB 0) aD)
    (aK (dC (bO (oY 65 λ_=>a.units) (aB 2) aG)
    (aK<|nF 3 (λ_=>sc__law_pairs.nd) (N':=(["_law_deck_here","_law_k"]:Tc)) (cap:=[Z 0,Y]) 65 77 (NG 69<|aA aG<|aA (aB 1) aD) (aY 1 72) eY<|bB<|aA (aW dB (iP 65<|aB 0)<|aB 1)<|aA (aB 1) aD)
    (aK (dC (bO (oY 65 λ_=>a.units) (aB 2) aG)
    (aJ (aZ 5 (λ_=>sc__law_pairs.nd)<|aW iT (aB 1) aG)
   (aJ (nG (λ_=>U2) 65 (gG 69<|aA (aB 1) aD) (aY 6 λ_=>sc__law_pairs.nd)
    (aK (aZ 3 (λ_=>sc__law_pairs.nd) (aW (FZ 65) (aB 3) (fK (N':=(["_law_j","_law_middle","_law_i"]:Tc)) (cap:=[Z 6,Z 5,Y]) 65 77 (gG 69 (aA (aB 6) aD)) (aY 2 72) (rB (bO (oY 65 (λ_=>a.units)) (gU IE (aB 2) (aB 1)) (gU IE (aB 0) (aB 1)))) (bB (aA (aB 2) (aA (aB 0) aD))))))))
   (aK (qB (lO 65 (aB 3) (aA (bB (aA aG (aA (aW PR (aB 1) aG) aD))) aD))))))
    (aK (dC (bO (oY 65 λ_=>a.units) (aB 2) aG)
    (aJ (aZ 5 (λ_=>sc__law_pairs.nd)<|aW iT (aB 1) aG)
   (aJ (nF 3 (λ_=>sc__law_pairs.nd) (N':=(["_law_middle","_law_k"]:Tc)) (cap:=[Z 5,Y]) 65 77 (gG 69<|aA (aW eA (aB 5) aG) aD) (aY 1 72) eY<|bB<|aA (aB 1)<|aA (aW dB (aW eA (aB 1) aG)<|aW eA (aB 0) aG) aD)
   (aK (aZ 3 (λ_=>sc__law_pairs.nd) (aW (FZ 65) (aW (FZ 65) (aB 3) (fK (N':=(["_law_k"]:Tc)) (cap:=[Y]) 65 77 (NG 69 (aA (aB 5) (aA (aW PR (aB 1) aG) aD))) (aY 0 72) eY (bB (aA (aB 0) (aA (aW eA (aB 0) aG) aD))))) (eE (aA (bB (aA (aB 5) (aA (aW PR (aB 1) aG) aD))) aD)))))))
    (aK (dC (bO IE (aB 2) aG)
    (aK (nG (λ_=>U2) 65 (gG 69<|aA (aB 1) aD) (aY 6 λ_=>sc__law_pairs.nd)
    (aK (aZ 3 (λ_=>sc__law_pairs.nd) (aW (FZ 65) (aB 3) (fK (N':=(["_law_j","_law_deck_here","_law_i"]:Tc)) (cap:=[Z 6,Z 0,Y]) 65 77 (gG 69 (aA (aB 6) aD)) (aY 2 72) (rB (bO aEG (aW dB (iP 65 (aB 1)) aG) aG)) (bB (aA (aB 2) (aA (aB 0) aD)))))))))
    cD)))))))))))
   (aK (bD (aB 3))))))
def ER(T:Txt K mg):Callee P w K mg base 1 "_law_weight" oO (spM K jX):=
 T.v67.okG (N:=vW) (ps:=oO) (k:=0) (b:=oJ) sc__law_weight 73 λf cdv A outer s H E a=>
  (aJ (aZ 1 (λ_=>sc__law_weight.nd)<|eE<|aA aG<|aA aG<|aA aG<|aA aG<|aA aG<|aA aG<|aA aG<|aA aG<|aA (aW HB aG<|aW aCv aG aG)<|aA aG<|aA aG<|aA aG aD)
   (aK (bD (cO fG (aB 1) (aW dB (aB 0) aG)))))
def QR(T:Txt K mg):Callee P w K mg base 2 "_law_web" rH (spM K qG):=
 T.v68.okG (N:=FI) (ps:=rH) (k:=1) (b:=DV) sc__law_web 74 λf cdv A outer s H E a=>
  (aJ (aZ 2 (λ_=>sc__law_web.nd)<|iP 65<|aB 0)
   (aJ (aZ 3 (λ_=>sc__law_web.nd) RA)
   (aJ (nG (λ_=>U2) 65 (iG 65<|aAQ<|aU (λ_=>IA T) a.le<|aA (aB 0)<|aA (aB 1) aD) (jI 65 65<|bJ (aY 4 λ_=>sc__law_web.nd)<|bJ (aY 5 λ_=>sc__law_web.nd) fZ)
    (aJ (aZ 6 (λ_=>sc__law_web.nd) aG)
   (aJ (dC (bO (oY 65 λ_=>a.units) (aW dB (aB 2) aG) aG)
    (aK<|aZ 6 (λ_=>sc__law_web.nd)<|aU (λ_=>ER T) a.le<|aA (iP 65<|aB 0) aD)
    cD)
   (aK (dC (IF<|aCr (bO (LI 65 λ_=>a.units) (aB 4)<|aB 5)<|aAu<|bO aEG (aB 6) aG)
    (aK<|YI (λ_=>a.u1) (aB 3) (zK<|aA (bM (aLV λ_=>rfl) 69 boot_min<|aA (aB 4)<|aA (aB 5) aD)<|aA (bM (aKK λ_=>rfl) 69 boot_max<|aA (aB 4)<|aA (aB 5) aD) aD)<|aB 6)
    cD)))))
   (aK (bD (aB 3))))))
def oG(T:Txt K mg):Callee P w K mg base 1 "is_whole" DP (spM K iE):=
 T.v69.okG (N:=DP) (ps:=DP) (k:=0) (b:=GX) RI 73 λf cdv A outer s H E a=>
  (aK<|bD<|eB (zM (T:="int") 65 66 (aB 0) (λ_=>bR) 69 69 boot_int)<|iJ<|GA<|zM (T:="bool") 65 66 (aB 0) (λ_=>bR) 69 69 boot_bool)
def AC(T:Txt K mg):Callee P w K mg base 1 "is_row" DP (spM K tR):=
 T.v70.okG (N:=DP) (ps:=DP) (k:=0) (b:=QB) aBM 73 λf cdv A outer s H E a=>
  (aK<|bD<|ZY (T:="list") (U:="tuple") 65 66 66 (aB 0) (λ_=>bR) 69 69 69 boot_list A1c)
def IQ(T:Txt K mg):Callee P w K mg base 1 "common" SN (spM K yH):=
 T.v71.okG (N:=SN) (ps:=SN) (k:=0) (b:=QZ) sc_common 74 λf cdv A outer s H E a=>
  (aJ (QA (λ_=>U2) (aCZ 65<|aB 1)<|aK<|VR 0 1 65 (λ_=>sc_common.nd)<|aA (aB 1)<|aA (aW dB (aB 0)<|aB 1) aD)
   (aK (bD (aB 0))))
def qF(T:Txt K mg):Callee P w K mg base 2 "is_row_of" CG (spM K iK):=
 T.v72.okG (N:=CG) (ps:=CG) (k:=1) (b:=BW) KW 74 λf cdv A outer s H E a=>
  (aK<|bD<|eB (aU (λ_=>AC T) a.le<|aA (aB 0) aD)<|iJ<|gU (oY 65 λ_=>a.units) (bM sM 69 A2f<|aA (aB 0) aD)<|aB 1)
def rT(T:Txt K mg):Callee P w K mg base 3 "has_amount_numbers" DP (spM K cA):=
 T.v73.okG (N:=DP) (ps:=DP) (k:=2) (b:=cP) rP 73 λf cdv A outer s H E a=>
  (aJ (dC (IF<|tM (eW<|eG<|aU (λ_=>qF T) a.le<|aA (aB 0)<|aA aG aD)<|tM (eW<|eG<|aU (λ_=>oG T) a.le<|aA (cO fG (aB 0) aG) aD)<|tQ<|eW<|eG<|aU (λ_=>oG T) a.le<|aA (cO fG (aB 0) aG) aD)
   (aK<|bD gX)
   cD)
   (aK (bD (eB (gU aQc (cO fG (aB 0) aG) aG) (iJ (gU aQc (cO fG (aB 0) aG) aG))))))
def FK(T:Txt K mg):Callee P w K mg base 4 "is_in_parts" DP (spM K dF):=
 T.v74.okG (N:=DP) (ps:=DP) (k:=3) (b:=eR) ES 73 λf cdv A outer s H E a=>
  (aK<|bD<|eB (aU (λ_=>rT T) a.le<|aA (aB 0) aD)<|eB (gU (oY 65 λ_=>a.units) (aW dB (tK λ_=>T.v120)<|cO fG (aB 0) aG) aG)<|iJ<|gU (oY 65 λ_=>a.units) (aU (λ_=>IQ T) a.le<|aA (cO fG (aB 0) aG)<|aA (cO fG (aB 0) aG) aD) aG)
def LN(T:Txt K mg):Callee P w K mg base 5 "is_weight" DP (spM K fL):=
 T.v75.okG (N:=DP) (ps:=DP) (k:=4) (b:=kH) LR 73 λf cdv A outer s H E a=>
  (aK<|bD<|eB (aU (λ_=>FK T) a.le<|aA (aB 0) aD)<|iJ<|gU aIW (cO fG (aB 0) aG)<|tK λ_=>T.v119)
def uC(T:Txt K mg):Callee P w K mg base 2 "is_place" FW (spM K fV):=
 T.v76.okG (N:=FW) (ps:=FW) (k:=1) (b:=qD) OY 74 λf cdv A outer s H E a=>
  (aK<|bD<|eB (aU (λ_=>oG T) a.le<|aA (aB 1) aD)<|iJ<|RZ aIW IE aG (aB 1)<|aB 0)
def rV(T:Txt K mg):Callee P w K mg base 3 "are_unlike_places" lF (spM K cG):=
 T.v77.okG (N:=lF) (ps:=lF) (k:=2) (b:=dD) tS 76 λf cdv A outer s H E a=>
  (aK<|bD<|eB (aU (λ_=>uC T) a.le<|aA (aB 0)<|aA (aB 1) aD)<|eB (aU (λ_=>uC T) a.le<|aA (aB 0)<|aA (aB 2) aD)<|iJ<|gU (LI 65 λ_=>a.units) (aB 1)<|aB 2)
def rW(T:Txt K mg):Callee P w K mg base 4 "is_between_places" FW (spM K bN):=
 T.v78.okG (N:=FW) (ps:=FW) (k:=3) (b:=cZ) sL 74 λf cdv A outer s H E a=>
  (aK<|bD<|eB (aU (λ_=>qF T) a.le<|aA (aB 1)<|aA aG aD)<|eB (aU (λ_=>rV T) a.le<|aA (aB 0)<|aA (cO fG (aB 1) aG)<|aA (cO fG (aB 1) aG) aD)<|iJ<|gU IE (cO fG (aB 1) aG)<|cO fG (aB 1) aG)
def aBd(T:Txt K mg):Callee P w K mg base 6 "is_tie" FW (spM K mK):=
 T.v79.okG (N:=FW) (ps:=FW) (k:=5) (b:=pF) aAI 74 λf cdv A outer s H E a=>
  (aK<|bD<|eB (aU (λ_=>rW T) a.le<|aA (aB 0)<|aA (aB 1) aD)<|iJ<|aU (λ_=>LN T) a.le<|aA (cO fG (aB 1) aG) aD)
def LV(T:Txt K mg):Callee P w K mg base 7 "kept_ties" uR (spM K kD):=
 T.v80.okG (N:=BX) (ps:=uR) (k:=6) (b:=sC) sc_kept_ties 74 λf cdv A outer s H E a=>
  (aJ (dC (eW<|eG<|aU (λ_=>AC T) a.le<|aA (aB 1) aD)
   (aK GH)
   cD)
   (aJ (aZ 2 (λ_=>sc_kept_ties.nd) RA)
   (aJ (nG (λ_=>U2) 65 (DA 65 69<|aA (aB 1) aD) (jI 65 65<|bJ (aY 3 λ_=>sc_kept_ties.nd)<|bJ (aY 4 λ_=>sc_kept_ties.nd) fZ)
    (aJ (dC (IF<|tM (eW<|eG<|aU (λ_=>aBd T) a.le<|aA (aB 0)<|aA (aB 4) aD)<|tQ<|aNC (λ_=>a.u1) (zK<|aA (cO fG (aB 4) aG)<|aA (cO fG (aB 4) aG) aD)<|aB 2)
    (aK GH)
    cD)
   (aK (YI (λ_=>a.u1) (aB 2) (zK (aA (cO fG (aB 4) aG) (aA (cO fG (aB 4) aG) aD))) (eN (nQ 65) 69 A1c (aA (cO fG (aB 4) aG) aD))))))
   (aK (bD (eN (nQ 65) 69 A1c (aA (fK (N':=(["i","j","weight"]:Tc)) (cap:=[Y,Y,Y]) 65 77 (iG 65 (aCI 65 (λ_=>a.units2) 65 69 (aB 2))) (jI 65 65 (bJ (jI 65 65 (bJ (aY 0 72) (bJ (aY 1 72) fZ))) (bJ (aY 2 72) fZ))) (rB (bO aEG (cO fG (aB 2) aG) aG)) (bB (aA (aB 0) (aA (aB 1) (aA (aB 2) aD))))) aD)))))))
def KZ(T:Txt K mg):LA P w K mg base 8 "Web" CK (spM K iM):=
 T.v118.okI (N:=CK) (ps:=CK) (k:=7) (b:=uM) T.v63 T.v64 T.v111 MC 76 λf cdv A outer s H E a=>
  (aJ (dC (IF<|tM (eW<|eG<|aU (λ_=>oG T) a.le<|aA (aB 1) aD)<|tM (bO IE (aB 1) aG)<|tQ<|bO aEG (aB 1)<|tK λ_=>T.v121)
   (aK GH)
   cD)
   (aJ (VQ (nm:="Web") 65 T.v112 T.v24 (aB 0)<|aB 1)
   (aJ (VQ (nm:="Web") 65 T.v112 T.v29 (aB 0)<|aU (λ_=>LV T) a.le<|aA (aB 1)<|aA (aB 2) aD)
   (aK (VQ (nm:="Web") 65 T.v112 T.v57 (aB 0) (aLa (.inl ⟨rfl,rfl⟩) (N':=(["i","j","weight"]:Tc)) (cap:=[Y,Y,Y]) (λ_=>a.u0) 65 77 (iG 65 (zL (nm:="Web") 65 T.v112 T.v29 (aB 0))) (jI 65 65 (bJ (aY 0 72) (bJ (aY 1 72) (bJ (aY 2 72) fZ)))) eY (zK (aA (aB 0) (aA (aB 1) aD))) (aB 2)))))))
def sY(T:Txt K mg):Callee P w K mg base 1 "_law_lowest" oH (spM K gV):=
 T.v81.okG (N:=vL) (ps:=oH) (k:=0) (b:=oP) sc__law_lowest 74 λf cdv A outer s H E a=>
  (aJ (VR 2 3 65 (λ_=>sc__law_lowest.nd)<|aA (aB 0)<|aA (aB 1) aD)
   (aJ (QA (λ_=>U2) (bO aEG (aB 3) aG)<|aK<|VR 2 3 65 (λ_=>sc__law_lowest.nd)<|aA (aB 3)<|aA (aW dB (aB 2)<|aB 3) aD)
   (aK (bD (bB (aA (aW iT (aB 0) (aB 2)) (aA (aW iT (aB 1) (aB 2)) aD)))))))
def LC(T:Txt K mg):Callee P w K mg base 2 "_law_rows" BF (spM K oA):=
 T.v82.okG (N:=BF) (ps:=BF) (k:=1) (b:=sD) LZ 73 λf cdv A outer s H E a=>
  (aK<|bD<|fK (N':=(["_law_ties","_law_i","_law_j"]:Tc)) (cap:=[Z 0,Y,Y]) 65 77 (iG 65<|bM (aIC 65 (λ_=>a.units2) λ_=>rfl) 69 boot_sorted<|aA (aB 0) aD) (jI 65 65<|bJ (aY 1 72)<|bJ (aY 2 72) fZ) eY<|bB<|aA (aB 1)<|aA (aB 2)<|aA (aU (λ_=>sY T) a.le<|aA (DB (λ_=>a.u1) (aB 0)<|zK<|aA (aB 1)<|aA (aB 2) aD)<|aA aG aD) aD)
def FP(T:Txt K mg):Callee P w K mg base 1 "_law_places" rH (spM K jU):=
 T.v83.okG (N:=rH) (ps:=rH) (k:=0) (b:=wF) GJ 74 λf cdv A outer s H E a=>
  (aK<|bD<|eN (nQ λ_=>rfl) 69 A1c<|aA (fK (N':=(["_law_deck_here","_law_place"]:Tc)) (cap:=[Z 0,Y]) 65 77 (gG 69<|aA (aB 1) aD) (aY 1 72) (rB<|bO (oY 65 λ_=>a.units) (aW dB (iP 65<|aB 0) aG) aG)<|aB 1) aD)
def PJ(T:Txt K mg):Callee P w K mg base 1 "_law_two" rH (spM K qQ):=
 T.v84.okG (N:=GL) (ps:=rH) (k:=0) (b:=FJ) sc__law_two 74 λf cdv A outer s H E a=>
  (aJ (aZ 2 (λ_=>sc__law_two.nd)<|aW dB (iP 65<|aB 0)<|aB 1)
   (aK (bD (bB (aA (aB 2) (aA (aW dB (aW eA (aW eA (aB 2) aG) (aW dB (iP 65 (aB 0)) (aW PR (aB 1) aG))) (aB 1)) aD))))))
def LF(T:Txt K mg):Callee P w K mg base 2 "_law_told" rH (spM K nM):=
 T.v85.okG (N:=BZ) (ps:=rH) (k:=1) (b:=BI) sc__law_told 74 λf cdv A outer s H E a=>
  (aJ (aZ 2 (λ_=>sc__law_told.nd)<|aU (λ_=>FP T) a.le<|aA (aB 0)<|aA (aB 1) aD)
   (aJ (aZ 3 (λ_=>sc__law_told.nd)<|aU (λ_=>PJ T) a.le<|aA (aB 0)<|aA (aB 1) aD)
   (aJ (dC (bO IE (bM sM 69 A2f<|aA (aB 2) aD) aG)
    (aK<|aZ 2 (λ_=>sc__law_told.nd)<|eN (nQ λ_=>rfl) 69 A1c<|aA (MJ 65 65 69 69<|aA (aW eA (aB 2)<|aB 3) aD) aD)
    cD)
   (aK (bD (aB 2))))))
def xM(T:Txt K mg):Callee P w K mg base 1 "_law_groups_of" jG (spM K jP):=
 T.v86.okG (N:=pS) (ps:=jG) (k:=0) (b:=pM) sc__law_groups_of 74 λf cdv A outer s H E a=>
  (aJ (aZ 2 (λ_=>sc__law_groups_of.nd)<|AI aD)
   (aJ (nG (λ_=>U2) 65 (gG 69<|aA (aB 1) aD) (aY 3 λ_=>sc__law_groups_of.nd)
    (aK (qB (lO 65 (aB 2) (aA (eN (nQ 65) 69 A1c (aA (fK (N':=(["_law_k","_law_numbers_here","_law_place"]:Tc)) (cap:=[Z 3,Z 0,Y]) 65 77 (gG 69 (aA (bM sM 69 A2f (aA (aB 0) aD)) aD)) (aY 2 72) (rB (bO (oY 65 (λ_=>a.units)) (cO fG (aB 1) (aB 2)) (aB 0))) (aB 2)) aD)) aD)))))
   (aK (bD (eN (nQ 65) 69 A1c (aA (aB 2) aD))))))
def CT(T:Txt K mg):Callee P w K mg base 1 "_law_numbers" nB (spM K mB):=
 T.v87.okG (N:=sE) (ps:=nB) (k:=0) (b:=sA) sc__law_numbers 76 λf cdv A outer s H E a=>
  (aJ (nF 3 (λ_=>sc__law_numbers.nd) (N':=(["_law_places_here","_law_deck_here","_law_place"]:Tc)) (cap:=[Z 2,Z 0,Y]) 65 77 (gG 69<|aA (aB 1) aD) (aY 2 72) eY<|aW dB (iP 65<|aB 1)<|bM sM 69 A2f<|aA (aB 0) aD)
   (aJ (nG (λ_=>U2) 65 (DA 65 69<|aA (aB 2) aD) (jI 65 65<|bJ (aY 4 λ_=>sc__law_numbers.nd)<|bJ (aY 5 λ_=>sc__law_numbers.nd) fZ)
    (aK (TV (aB 4) (UW aCj (aB 3) (aB 5)))))
   (aK (bD (aB 3)))))
def OB(T:Txt K mg):Callee P w K mg base 1 "is_rising" BS (spM K nU):=
 T.v88.okG (N:=BS) (ps:=BS) (k:=0) (b:=sO) OC 73 λf cdv A outer s H E a=>
  (aK<|bD<|bM (SR 65 λ_=>rfl) 69 boot_all<|aA (fK (N':=(["one","other"]:Tc)) (cap:=[Y,Y]) 65 77 (WV 65 69<|aA (aB 0)<|aA (BJ 65 (aB 0) (jY aG) nO) aD) (jI 65 65<|bJ (aY 0 72)<|bJ (aY 1 72) fZ) eY<|gU IE (aB 0)<|aB 1) aD)
def kB(T:Txt K mg):Callee P w K mg base 3 "are_rising_places" FW (spM K bT):=
 T.v89.okG (N:=FW) (ps:=FW) (k:=2) (b:=dA) sP 74 λf cdv A outer s H E a=>
  (aK<|bD<|eB (aU (λ_=>AC T) a.le<|aA (aB 1) aD)<|eB (bM (SR 65 λ_=>rfl) 69 boot_all<|aA (fK (N':=(["many","one"]:Tc)) (cap:=[Z 0,Y]) 65 77 (iG 65<|aB 1) (aY 1 72) eY<|aU (λ_=>uC T) a.le<|aA (aB 0)<|aA (aB 1) aD) aD)<|iJ<|aU (λ_=>OB T) a.le<|aA (aB 1) aD)
def xP(T:Txt K mg):nY P w K mg base 4 "refuse_no_told" pL (spX K jN):=
 T.v90.okX (N:=pL) (ps:=pL) (k:=3) (b:=cL) yT 74 λf cdv A outer s H E a=>
  (yE (aMP (IF<|tM (eW<|eG<|aU (λ_=>kB T) a.le<|aA (zL (nm:="Web") 65 T.v112 T.v24<|aB 0)<|aA (aB 1) aD)<|tQ<|bO IE (bM sM 69 A2f<|aA (aB 1) aD) aG)
   (yE<|EU (λi=>YR i) 65 65 (λ_=>T.v114) T.v28)
   (KU cD)))
def aAV(T:Txt K mg):Callee P w K mg base 1 "joined" QL (spM K FH):=
 T.v91.okG (N:=QL) (ps:=QL) (k:=0) (b:=SQ) aBY 73 λf cdv A outer s H E a=>
  (aK<|bD<|eN (nQ λ_=>rfl) 69 A1c<|aA (bM (RT λ_=>rfl) 69 boot_sorted<|aA (aGN (N':=(["heap","place"]:Tc)) (cap:=[Y,Y]) 65 77 (iG 65<|aB 0) (aY 0 72) eY (iG 65<|aB 0) (aY 1 72) eY<|aB 1) aD) aD)
def oB(T:Txt K mg):nY P w K mg base 5 "is_apart" FV (spX K eF):=
 T.v92.okX (N:=FV) (ps:=FV) (k:=4) (b:=xC) QK 76 λf cdv A outer s H E a=>
  (RN (OU<|CZ (λi=>YR i) (λ_=>xP T) a.le<|HD<|aA (aB 0)<|aA (aB 1) aD)
   (KU (aJ (dC (IF<|tM (eW<|eG<|aU (λ_=>qF T) a.le<|aA (aB 2)<|aA (bM sM 69 A2f<|aA (aB 1) aD) aD)<|tQ<|eW<|eG<|bM (SR 65 λ_=>rfl) 69 boot_all<|aA (fK (N':=(["web","group"]:Tc)) (cap:=[Z 0,Y]) 65 77 (iG 65<|aB 2) (aY 1 72) eY<|aU (λ_=>kB T) a.le<|aA (zL (nm:="Web") 65 T.v112 T.v24<|aB 0)<|aA (aB 1) aD) aD)
    (aK<|bD gX)
    cD)
   (aJ (dC (bO (LI 65 λ_=>a.units) (aU (λ_=>aAV T) a.le<|aA (aB 2) aD)<|RJ 65 69 69<|aA (zL (nm:="Web") 65 T.v112 T.v24<|aB 0) aD)
    (aK<|bD gX)
    cD)
   (aK (bD (bM (SR 65 65) 69 boot_all (aA (fK (N':=(["place","group"]:Tc)) (cap:=[Y,Y]) 65 77 (WV 65 69 (aA (aB 1) (aA (aB 2) aD))) (jI 65 65 (bJ (aY 0 72) (bJ (aY 1 72) fZ))) eY (gU (aGC 65 (λ_=>a.units1)) (aB 0) (aB 1))) aD))))))))
def CI(T:Txt K mg):Callee P w K mg base 1 "_law_any" wO (spM K qA):=
 T.v93.okG (N:=GC) (ps:=wO) (k:=0) (b:=HG) sc__law_any 73 λf cdv A outer s H E a=>
  (aJ (aZ 1 (λ_=>sc__law_any.nd)<|eE<|aA zP<|aA gX<|aA gX<|aA aG<|aA aG<|aA (CF BQ aG)<|aA (aW aCv aG aG)<|aA qN<|aA qN<|aA qN<|aA (bB aD)<|aA (eE aD)<|aA aFr<|aA (aGU<|aGz aG aG aNs)<|aA (bB<|aA aG aD)<|aA (eE<|aA aG aD) aD)
   (aJ (aZ 1 (λ_=>sc__law_any.nd)<|aW eA (aB 1)<|eE<|aA (bB<|aA aG<|aA aG aD)<|aA (bB<|aA (bB<|aA aG aD)<|aA aG aD)<|aA (bB<|aA zP aD)<|aA (bB<|aA gX aD)<|aA (bB<|aA aG<|aA gX aD)<|aA (bB<|aA qN<|aA aG aD)<|aA (bB<|aA (bB aD) aD)<|aA (bB<|aA (bB aD)<|aA (bB aD) aD) aD)
   (aJ (aZ 1 (λ_=>sc__law_any.nd)<|aW eA (aB 1)<|eE<|aA (bB<|aA aG<|aA aG<|aA aG<|aA aG aD)<|aA (eE<|aA (eE<|aA aG aD) aD)<|aA (bB<|aA (CF BQ aG)<|aA aG aD)<|aA (bB<|aA aG<|aA aG aD)<|aA (bB<|aA (bB<|aA aG<|aA aG<|aA (bB<|aA aG<|aA aG aD) aD) aD) aD)
   (aK (bD (cO fG (aB 1) (aW dB (iP 65 (aB 0)) aG)))))))
theorem mR(T:Txt K mg):∀n:Nat,Callee P w K mg base (n+1) "_law_listed" oW (spM K<|dE n)
 |0=>(T.v94.okNone (N:=oW) (ps:=oW) (k:=0) uJ (by intro _ _ _ _ _ _ _ a;apply ar1 a;intros;rfl)).mono 66
 |n+1=>(T.v94.okG (N:=oW) (ps:=oW) (k:=n+1) (b:=vP<|dE n) uJ 73 λf cdv A outer s H E c=>
  (aJ (dC (eG<|zM (T:="tuple") 65 66 (aB 0) (λ_=>bR) 69 69 A1c)
   (aK<|bD<|fK (N':=(["_law_part"]:Tc)) (cap:=[Y]) 65 77 (iG 65<|aB 0) (aY 0 72) eY<|aU (λ_=>mR T n) (λ_=>c.mono 61)<|aA (aB 0) aD)
   cD)
   (aK (bD (aB 0))))).mono 61
def vJ(T:Txt K mg):Callee P w K mg base 1 "_law_bent_groups" iA (spM K eJ):=
 T.v95.okG (N:=mY) (ps:=iA) (k:=0) (b:=dM) sc__law_bent_groups 76 λf cdv A outer s H E a=>
  (aJ (aZ 3 (λ_=>sc__law_bent_groups.nd)<|iP 65<|aB 0)
   (aJ (aZ 4 (λ_=>sc__law_bent_groups.nd)<|aW dB (aB 3)<|bM sM 69 A2f<|aA (aB 1) aD)
   (aJ (aZ 5 (λ_=>sc__law_bent_groups.nd)<|cO fG (aB 1)<|aB 4)
   (aJ (aZ 6 (λ_=>sc__law_bent_groups.nd)<|aW dB (aW iT (aB 3) aG)<|aB 2)
   (aJ (aZ 7 (λ_=>sc__law_bent_groups.nd)<|AI<|aA (BJ 65 (aB 5) nO<|jY<|CF BQ aG)<|aA (eN (nQ λ_=>rfl) 69 A1c<|aA (MJ 65 65 69 69<|aA (aW eA (aB 5)<|bB<|aA (aB 6) aD) aD) aD)<|aA (aW eA (aCV 65 (aB 5)<|jY<|CF BQ aG)<|bB<|aA (aB 6) aD)<|aA (bB aD)<|aA (aW eA (aB 5)<|bB<|aA (aB 2) aD)<|aA zP aD)
   (aJ (qB<|lO 65 (aB 7)<|aA (aW eA (bB<|aA (CF BQ aG) aD)<|aB 5) aD)
   (aJ (aZ 8 (λ_=>sc__law_bent_groups.nd)<|aW dB (aW iT (aB 3) aG) aG)
   (aJ (dC (bO (oY 65 λ_=>a.units) (aB 8) aG)
    (aK<|bD<|aW eA (BJ 65 (aB 1) nO<|jY<|aB 4)<|BJ 65 (aB 1) (jY<|aW eA (aB 4) aG) nO)
    cD)
   (aJ (dC (bO (oY 65 λ_=>a.units) (aB 8) aG)
    (aK<|bD<|aW eA (aB 1)<|bB<|aA (aB 5) aD)
    cD)
   (aJ (dC (bO (oY 65 λ_=>a.units) (aB 8) aG)
    (aK<|bD<|aW eA (BJ 65 (aB 1) (jY aG) nO)<|BJ 65 (aB 1) nO<|jY aG)
    cD)
   (aK (bD (aW eA (aW eA (BJ 65 (aB 1) nO (jY (aB 4))) (bB (aA (cO fG (aB 7) (aB 8)) aD))) (BJ 65 (aB 1) (jY (aW eA (aB 4) aG)) nO))))))))))))))
def tZ(T:Txt K mg):Callee P w K mg base 1 "_law_is_row" oW (spM K gY):=
 T.v96.okG (N:=oW) (ps:=oW) (k:=0) (b:=wC) FQ 73 λf cdv A outer s H E a=>
  (aK<|bD<|ZY (T:="list") (U:="tuple") 65 66 66 (aB 0) (λ_=>bR) 69 69 69 boot_list A1c)
def zH(T:Txt K mg):Callee P w K mg base 1 "_law_is_whole" rM (spM K hX):=
 T.v97.okG (N:=rM) (ps:=rM) (k:=0) (b:=kS) zW 76 λf cdv A outer s H E a=>
  (aK<|bD<|eB (zM (T:="int") 65 66 (aB 0) (λ_=>bR) 69 69 boot_int)<|eB (GA<|zM (T:="bool") 65 66 (aB 0) (λ_=>bR) 69 69 boot_bool)<|iJ<|RZ aIW aIW (aB 1) (aB 0)<|aB 2)
def xE(T:Txt K mg):Callee P w K mg base 2 "_law_are_rising" nT (spM K cE):=
 T.v98.okG (N:=nT) (ps:=nT) (k:=1) (b:=dR) wZ 74 λf cdv A outer s H E a=>
  (aJ (dC (eW<|eG<|aU (λ_=>tZ T) a.le<|aA (aB 1) aD)
   (aK<|bD gX)
   cD)
   (aJ (dC (bO (LI 65 λ_=>a.units) (fK (N':=(["_law_many","_law_one"]:Tc)) (cap:=[Z 0,Y]) 65 77 (iG 65<|aB 1) (aY 1 72) (rB<|eW<|eG<|aU (λ_=>zH T) a.le<|aA (aB 1)<|aA aG<|aA (aW PR (aB 0) aG) aD)<|aB 1)<|eE aD)
    (aK<|bD gX)
    cD)
   (aK (bD (gU (oY 65 (λ_=>a.units)) (eN (VJ 65) 69 boot_list (aA (aB 1) aD)) (MJ 65 65 69 69 (aA (aB 1) aD)))))))
def xI(T:Txt K mg):Callee P w K mg base 3 "_law_are_groups" iW (spM K cV):=
 T.v99.okG (N:=nK) (ps:=iW) (k:=2) (b:=fE) sc__law_are_groups 76 λf cdv A outer s H E a=>
  (aJ (dC (IF<|tM (eW<|eG<|aU (λ_=>tZ T) a.le<|aA (aB 2) aD)<|tQ<|bO (LI 65 λ_=>a.units) (bM sM 69 A2f<|aA (aB 2) aD)<|bM sM 69 A2f<|aA (aB 1) aD)
   (aK<|bD gX)
   cD)
   (aJ (aZ 3 (λ_=>sc__law_are_groups.nd)<|eE aD)
   (aJ (nG (λ_=>U2) 65 (DA 65 69<|aA (aB 2) aD) (jI 65 65<|bJ (aY 4 λ_=>sc__law_are_groups.nd)<|bJ (aY 5 λ_=>sc__law_are_groups.nd) fZ)
    (aJ (dC (eW<|eG<|aU (λ_=>xE T) a.le<|aA (aB 0)<|aA (aB 5) aD)
    (aK<|bD gX)
    cD)
   (aJ (dC (bO (LI 65 λ_=>a.units) (fK (N':=(["_law_group","_law_place"]:Tc)) (cap:=[Z 5,Y]) 65 77 (iG 65<|aB 1) (aY 1 72) (rB<|bO (aGC 65 λ_=>a.units1) (aB 1)<|aB 0)<|aB 1)<|eE<|aA (cO fG (aB 1)<|aB 4) aD)
    (aK<|bD gX)
    cD)
   (aK (aZ 3 (λ_=>sc__law_are_groups.nd) (aW eA (aB 3) (eN (VJ 65) 69 boot_list (aA (aB 5) aD))))))))
   (aK (bD (gU (oY 65 (λ_=>a.units)) (bM (RT 65) 69 boot_sorted (aA (aB 3) aD)) (aDn false 65 69 69 (aA (aB 0) aD))))))))
def pW(T:Txt K mg):Callee P w K mg base 1 "_law_between_groups" eU (spM K eV):=
 T.v100.okG (N:=jB) (ps:=eU) (k:=0) (b:=jD) sc__law_between_groups 74 λf cdv A outer s H E a=>
  (aJ (aZ 2 (λ_=>sc__law_between_groups.nd) aG)
   (aJ (nG (λ_=>U2) 65 (aHE<|aB 0) (jI 65 65<|bJ (aY 3 λ_=>sc__law_between_groups.nd)<|bJ (aY 4 λ_=>sc__law_between_groups.nd) fZ)
    (aK (dC (bO (oY 65 λ_=>a.units) (fK (N':=(["_law_i","_law_j","_law_group"]:Tc)) (cap:=[Z 3,Z 4,Y]) 65 77 (iG 65<|aB 1) (aY 2 72) (rB<|IF<|aCr (bO (aGC 65 λ_=>a.units1) (aB 0)<|aB 2)<|aAu<|bO (aGC 65 λ_=>a.units1) (aB 1)<|aB 2)<|aB 2)<|eE aD)
    (aK<|aZ 2 (λ_=>sc__law_between_groups.nd)<|aW eA (aB 2)<|DB (λ_=>a.u1) (aB 0)<|zK<|aA (aB 3)<|aA (aB 4) aD)
    cD)))
   (aK (bD (aB 2)))))
def yW(T:Txt K mg):Callee P w K mg base 2 "in_least_terms" jH (spM K gC):=
 T.v101.okG (N:=pB) (ps:=jH) (k:=1) (b:=jQ) sc_in_least_terms 74 λf cdv A outer s H E a=>
  (aJ (aZ 2 (λ_=>sc_in_least_terms.nd)<|aU (λ_=>IQ T) a.le<|aA (aB 0)<|aA (aB 1) aD)
   (aK (bD (bB (aA (aW iT (aB 0) (aB 2)) (aA (aW iT (aB 1) (aB 2)) aD))))))
def II(T:Txt K mg):Callee P w K mg base 3 "from_parts" yP (spM K lL):=
 T.v102.okG (N:=yP) (ps:=yP) (k:=2) (b:=rC) IK 73 λf cdv A outer s H E a=>
  (aK<|bD<|aU (λ_=>yW T) a.le<|aA (aB 0)<|aA (tK λ_=>T.v120) aD)
def aDd(T:Txt K mg):Callee P w K mg base 1 "parts" aAh (spM K vA):=
 T.v103.okG (N:=aAh) (ps:=aAh) (k:=0) (b:=NW) aEx 73 λf cdv A outer s H E a=>
  (aK<|bD<|aW HB (cO fG (aB 0) aG)<|aW iT (tK λ_=>T.v120)<|cO fG (aB 0) aG)
def CS(T:Txt K mg):Callee P w K mg base 2 "weight_apart" uE (spM K nI):=
 T.v104.okG (N:=uE) (ps:=uE) (k:=1) (b:=tX) CY 74 λf cdv A outer s H E a=>
  (aK<|bD<|bM (aMV 65 λ_=>rfl) 69 boot_sum<|aA (fK (N':=(["group_of","i","j","weight"]:Tc)) (cap:=[Z 1,Y,Y,Y]) 65 77 (iG 65<|zL (nm:="Web") 65 T.v112 T.v29<|aB 0) (jI 65 65<|bJ (aY 1 72)<|bJ (aY 2 72)<|bJ (aY 3 72) fZ) (rB<|bO (LI 65 λ_=>a.units) (DB (λ_=>a.u1) (aB 0)<|mk_one<|aB 1)<|DB (λ_=>a.u1) (aB 0)<|mk_one<|aB 2)<|aU (λ_=>aDd T) a.le<|aA (aB 3) aD) aD)
def zJ(T:Txt K mg):nY P w K mg base 6 "groups_weight" FV (spX K eQ):=
 T.v105.okX (N:=rK) (ps:=FV) (k:=5) (b:=kX) sc_groups_weight 76 λf cdv A outer s H E a=>
  (RN (aHU (CZ (λi=>YR i) (λ_=>oB T) a.le<|HD<|aA (aB 0)<|aA (aB 1)<|aA (aB 2) aD)
   (yE<|EU (λi=>YR i) 65 65 (λ_=>T.v113) T.v26)
   (KU cD))
   (KU (aJ (TJ 3 (λ_=>sc_groups_weight.nd) (N':=(["at","group","place"]:Tc)) (cap:=[Y,Y,Y]) (λ_=>a.u0) 65 77 (DA 65 69<|aA (aB 2) aD) (jI 65 65<|bJ (aY 0 72)<|bJ (aY 1 72) fZ) eY (iG 65<|aB 1) (aY 2 72) eY (mk_one<|aB 2)<|aB 0)
   (aK (bD (aU (λ_=>II T) a.le (aA (aU (λ_=>CS T) a.le (aA (aB 0) (aA (aB 3) aD))) aD)))))))
def lB(T:Txt K mg):Callee P w K mg base 7 "_law_weight_told" iC (spM K bS):=
 T.v106.okG (N:=mL) (ps:=iC) (k:=6) (b:=mP) sc__law_weight_told 76 λf cdv A outer s H E a=>
  (aJ (aZ 3 (λ_=>sc__law_weight_told.nd) zP)
   (aJ (aFa (λ_=>⟨rfl,rfl,rfl⟩) 65 (yE<|aFY 3 (λ_=>sc__law_weight_told.nd)<|aEu (DF 65 (λ_=>a.gd) λ_=>a.u200) 69 boot_repr<|max_cons (CZ (λi=>aJX (λ_=>⟨rfl,rfl,rfl⟩) i) (λ_=>zJ T) a.le<|HD<|aA (aB 0)<|aA (aB 1)<|aA (aB 2) aD)<|HD aD) (LL (tab:=[("NoGroups",true),("NoPlace",false)]) (n:=(Z 4)) (.ref (bI K "NoGroups")) (λ_=>⟨rfl,rfl,rfl⟩) (λ_=>.inl T.v113) (λ_=>⟨sc__law_weight_told.nd,rfl,rfl⟩) (lQ T.v54<|lQ T.v53 EY) (aK<|aZ 3 (λ_=>sc__law_weight_told.nd)<|bB<|aA qN<|aA (eB (vG (tab:=cS) (nn:=Z false) (c:=(.ref (bI K "CutError"))) 65 (.own _) (zS λ_=>T.v117) (vB (uW T) T.v51 rfl) (vD T.v52) (aB 4) (λ_=>bR) 69)<|iJ<|GA<|vG (tab:=mD) (nn:=Z false) (c:=(.ref (bI K "NoPlace"))) 65 (.own _) (zS λ_=>T.v114) (vB (uW T) T.v55 rfl) (vD T.v56) (aB 4) (λ_=>bR) 69) aD)
   (LL (tab:=[("NoGroups",false),("NoPlace",true)]) (n:=(Z 4)) (.ref (bI K "NoPlace")) (λ_=>⟨rfl,rfl,rfl⟩) (λ_=>.inl T.v114) (λ_=>⟨sc__law_weight_told.nd,rfl,rfl⟩) (lQ T.v31<|lQ T.v30 EY) (aK<|aZ 3 (λ_=>sc__law_weight_told.nd)<|bB<|aA qN<|aA (eB (vG (tab:=cS) (nn:=Z false) (c:=(.ref (bI K "CutError"))) 65 (.own _) (zS λ_=>T.v117) (vB (uW T) T.v51 rfl) (vD T.v52) (aB 4) (λ_=>bR) 69)<|iJ<|GA<|vG (tab:=eD) (nn:=Z false) (c:=(.ref (bI K "NoGroups"))) 65 (.own _) (zS λ_=>T.v113) (vB (uW T) T.v48 rfl) (vD T.v49) (aB 4) (λ_=>bR) 69) aD)
   aDG)))
   (aK (bD (aB 3)))))
def HY(T:Txt K mg):Callee P w K mg base 8 "_law_right" qK (spM K iS):=
 T.v107.okG (N:=yD) (ps:=qK) (k:=7) (b:=lK) sc__law_right (by sleep 994) λf cdv A outer s H E a=>
  (aJ (aZ 4 (λ_=>sc__law_right.nd)<|bM (DF 65 (λ_=>a.gd) λ_=>a.u200) 69 boot_repr<|aA (bB<|aA (aB 2)<|aA (aB 3) aD) aD)
   (aJ (aZ 5 (λ_=>sc__law_right.nd)<|KH (λ_=>oB T) a.le<|aA (aB 0)<|aA (aB 2)<|aA (aB 3) aD)
   (aJ (aZ 6 (λ_=>sc__law_right.nd)<|aU (λ_=>xI T) a.le<|aA (zL (nm:="Web") 65 T.v112 T.v24<|aB 0)<|aA (aB 2)<|aA (aB 3) aD)
   (aJ (aZ 7 (λ_=>sc__law_right.nd)<|bB<|aA qN<|aA gX aD)
   (aJ (dC (aCZ 65<|aB 6)
    (aK<|aZ 7 (λ_=>sc__law_right.nd)<|bM (DF 65 (λ_=>a.gd) λ_=>a.u200) 69 boot_repr<|aA (aU (λ_=>sY T) a.le<|aA (aU (λ_=>pW T) a.le<|aA (aB 1)<|aA (aB 3) aD)<|aA aG aD) aD)
    cD)
   (aJ (dC (IF<|tM (eW<|eG<|zM (T:="bool") 65 66 (aB 5) (λ_=>bR) 69 69 boot_bool)<|tM (bO (LI 65 λ_=>a.units) (aB 5)<|aB 6)<|tQ<|bO (LI 65 λ_=>a.units) (aU (λ_=>lB T) a.le<|aA (aB 0)<|aA (aB 2)<|aA (aB 3) aD)<|aB 7)
    (aK<|bD gX)
    cD)
   (aK (bD (gU (oY 65 (λ_=>a.units)) (bM (DF 65 (λ_=>a.gd) (λ_=>a.u200)) 69 boot_repr (aA (bB (aA (aB 2) (aA (aB 3) aD))) aD)) (aB 4))))))))))
def CM(T:Txt K mg):Callee P w K mg base 1 "_law_no_told" rH (spM K iR):=
 T.v108.okG (N:=sG) (ps:=rH) (k:=0) (b:=rY) sc__law_no_told 74 λf cdv A outer s H E a=>
  (aJ (aZ 2 (λ_=>sc__law_no_told.nd)<|eE<|aA (bB aD)<|aA (bB<|aA aG aD)<|aA (bB<|aA aG<|aA aG aD)<|aA (bB<|aA aG<|aA aG aD)<|aA (bB<|aA aG<|aA (aB 1) aD)<|aA (bB<|aA (CF BQ aG)<|aA aG aD)<|aA (bB<|aA gX<|aA aG aD)<|aA zP aD)
   (aJ (aZ 2 (λ_=>sc__law_no_told.nd)<|aW eA (aB 2)<|eE<|aA aG<|aA qN<|aA (bB<|aA aG<|aA zP aD)<|aA (bB<|aA (bB<|aA aG<|aA aG aD) aD)<|aA (bB<|aA aG<|aA (aW aCv aG aG) aD) aD)
   (aK (bD (cO fG (aB 2) (aW dB (iP 65 (aB 0)) aG))))))
def rL(T:Txt K mg):Callee P w K mg base 8 "_law_refused" iC (spM K fM):=
 T.v109.okG (N:=mL) (ps:=iC) (k:=7) (b:=sJ) sc__law_refused 76 λf cdv A outer s H E a=>
  (aJ (aZ 3 (λ_=>sc__law_refused.nd) gX)
   (aJ (aFa (λ_=>⟨rfl,rfl,rfl⟩) 65 (yE<|OU<|CZ (λi=>aJX (λ_=>⟨rfl,rfl,rfl⟩) i) (λ_=>oB T) a.le<|HD<|aA (aB 0)<|aA (aB 1)<|aA (aB 2) aD) (LL (tab:=[("NoGroups",false),("NoPlace",true)]) (n:=(Z 4)) (.ref (bI K "NoPlace")) (λ_=>⟨rfl,rfl,rfl⟩) (λ_=>.inl T.v114) (λ_=>⟨sc__law_refused.nd,rfl,rfl⟩) (lQ T.v31<|lQ T.v30 EY) (aK<|aZ 3 (λ_=>sc__law_refused.nd)<|eB (vG (tab:=cS) (nn:=Z false) (c:=(.ref (bI K "CutError"))) 65 (.own _) (zS λ_=>T.v117) (vB (uW T) T.v51 rfl) (vD T.v52) (aB 4) (λ_=>bR) 69)<|iJ<|GA<|vG (tab:=eD) (nn:=Z false) (c:=(.ref (bI K "NoGroups"))) 65 (.own _) (zS λ_=>T.v113) (vB (uW T) T.v48 rfl) (vD T.v49) (aB 4) (λ_=>bR) 69)
   aDG))
   (aK (bD (eB (aB 3) (iJ (gU (oY 65 (λ_=>a.units)) (aU (λ_=>lB T) a.le (aA (aB 0) (aA (aB 1) (aA (aB 2) aD)))) (bB (aA qN (aA gX aD))))))))))
def fn_law(T:Txt K mg):∃f fd,mg "law"=Z (.ref f)/\(∀(s:Ub)(u:Tz),BindsTo s fd ⟨[u],[]⟩ [("_law_script",u)])/\∀base,mE P w K mg base CX0 10 f fd aJm (spM K F_law):=
 T.v110.okLG (N:=aKa) (k:=9) (b:=aJT) sc_law rfl 73 λbase f cdv A outer s H E a=>
  (aJ (aZ 1 (λ_=>sc_law.nd)<|aU (λ_=>KP T) a.le<|aA (aB 0)<|aA aG aD)
   (aJ (nG (λ_=>U2) 65 (gG 69<|aA aG aD) (aY 2 λ_=>sc_law.nd)
    (aJ (aZ 3 (λ_=>sc_law.nd)<|aW eA aG<|aW dB (iP 65<|aB 1) aG)
   (aJ (aZ 4 (λ_=>sc_law.nd)<|aU (λ_=>QR T) a.le<|aA (aB 1)<|aA (aB 3) aD)
   (aJ (aHD 4<|aZ 5 (λ_=>sc_law.nd)<|aJg (λ_=>KZ T) 65 a.le<|aA (aB 3)<|aA (aU (λ_=>LC T) a.le<|aA (aB 4) aD) aD)
   (aJ (aZ 6 (λ_=>sc_law.nd)<|aU (λ_=>LF T) a.le<|aA (aB 1)<|aA (aB 3) aD)
   (aJ (aZ 7 (λ_=>sc_law.nd)<|aU (λ_=>xM T) a.le<|aA (aU (λ_=>CT T) a.le<|aA (aB 1)<|aA (aB 3)<|aA (aB 6) aD)<|aA (bM sM 69 A2f<|aA (aB 6) aD) aD)
   (aJ (dC (eW<|eG<|KH (λ_=>oB T) a.le<|aA (aB 5)<|aA (aB 6)<|aA (aB 7) aD)
    (aK<|bD gX)
    cD)
   (aJ (aZ 8 (λ_=>sc_law.nd)<|AI<|aA (aB 7)<|aA (aU (λ_=>mR T 4) a.le<|aA (aB 7) aD)<|aA (aCV 65 (aB 7)<|jY<|CF BQ aG)<|aA (aU (λ_=>CI T) a.le<|aA (aB 1) aD)<|aA (bB aD)<|aA (bB<|aA (RJ 65 69 69<|aA (aB 3) aD) aD) aD)
   (aJ (nG (λ_=>U2) 65 (gG 69<|aA aG aD) (aY 9 λ_=>sc_law.nd)
    (aK (qB (lO 65 (aB 8) (aA (aU (λ_=>vJ T) a.le (aA (aB 1) (aA (aB 7) (aA (aB 3) aD)))) aD)))))
   (aJ (aLe 8<|qB<|lO 65 (aB 8)<|aA (aU (λ_=>mR T 4) a.le<|aA (cO fG (aB 8)<|CF BQ aG) aD) aD)
   (aJ (dC (eW<|eG<|bM (SR 65 λ_=>rfl) 69 boot_all<|aA (fK (N':=(["_law_world","_law_ties","_law_places_here","_law_k","_law_thing"]:Tc)) (cap:=[Z 5,Z 4,Z 6,Z 2,Y]) 65 77 (iG 65<|aB 8) (aY 4 72) eY<|aU (λ_=>HY T) a.le<|aA (aB 0)<|aA (aB 1)<|aA (cO fG (eE<|aA (aB 2)<|aA (eN (VJ λ_=>rfl) 69 boot_list<|aA (aB 2) aD) aD)<|aW dB (aB 3) aG)<|aA (aB 4) aD) aD)
    (aK<|bD gX)
    cD)
   (aJ (aZ 10 (λ_=>sc_law.nd)<|aU (λ_=>CM T) a.le<|aA (aB 1)<|aA (aB 3) aD)
   (aK (dC (IF<|tM (eW<|eG<|aU (λ_=>rL T) a.le<|aA (aB 5)<|aA (aB 10)<|aA (aB 7) aD)<|tQ<|eW<|eG<|aU (λ_=>rL T) a.le<|aA (aB 5)<|aA (aB 10)<|aA (aU (λ_=>CI T) a.le<|aA (aB 1) aD) aD)
    (aK<|bD gX)
    cD))))))))))))))
   (aK (bD gX))))
def txt_mk{e:Th}{g:Array (Tf)}{i:Tz}(X:K.In h)(G:h.Ns ce mg)(v0:W.nsIn K ce "all"=Z Y)(v1:W.nsIn K ce "bool"=Z Y)(v2:W.nsIn K ce "enumerate"=Z Y)(v3:W.nsIn K ce "int"=Z Y)(v4:W.nsIn K ce "isinstance"=Z Y)(v5:W.nsIn K ce "len"=Z Y)(v6:W.nsIn K ce "list"=Z Y)(v7:W.nsIn K ce "max"=Z Y)(v8:W.nsIn K ce "min"=Z Y)(v9:W.nsIn K ce "range"=Z Y)(x:W.nsIn K ce "repr"=Z Y)(y:W.nsIn K ce "set"=Z Y)(z:W.nsIn K ce "sorted"=Z Y)(A:W.nsIn K ce "sum"=Z Y)(B:W.nsIn K ce "tuple"=Z Y)(C:W.nsIn K ce "zip"=Z Y)(D:W.nsIn K ce "MOST_ABOVE"=Z (Z (.int 1000000000000 p)))(E:W.nsIn K ce "BELOW"=Z (Z (.int 55440 q)))(F:W.nsIn K ce "MOST_PLACES"=Z (Z (.int 40 r)))(s:W.nsIn K ce "Web"=Z (Z (.ref c)))(H:W.plainGet K c Str.empty=true)(I:W.hasDictIn K c=true)(J:W.plainOver K c=true)(L:W.findIn K (.ref c) "__setattr__"=Z (Z (.builtin "object.__setattr__")))(v24:W.findIn K (.ref c) "many"=Z Y)(t:W.nsIn K ce "NoGroups"=Z (Z (.ref a)))(v26:W.excIn K a bmV "ValueError.__new__"=true)(u:W.nsIn K ce "NoPlace"=Z (Z (.ref b)))(v28:W.excIn K b bmV "ValueError.__new__"=true)(v29:W.findIn K (.ref c) "ties"=Z Y)(v30:W.exmOne K (.ref b) (.ref b)=Z true)(v31:W.exmOne K (.ref a) (.ref b)=Z false)(M:W.findIn K (.ref a) "__getattribute__"=Z (Z (.builtin "BaseException.__getattribute__")))(N:W.findIn K (.ref a) "__getattr__"=Z Y)(O:W.subIn K (.ref a) (.type "BaseException")=Z true)(Q:(W.clsIn K a).isSome=true)(R:W.findIn K (.ref a) "__class__"=Z (Z (.builtin "object.__class__")))(S:W.specialIn K (.builtin "object.__class__") "__get__"=Z (Z (.builtin "getset_descriptor.__get__")))(T:W.takesIn K (.builtin "object.__class__")=Z true)(U:W.mroIn K a (.type "object")=Z true)(V:W.findIn K (.ref b) "__getattribute__"=Z (Z (.builtin "BaseException.__getattribute__")))(a0:W.findIn K (.ref b) "__getattr__"=Z Y)(a1:W.subIn K (.ref b) (.type "BaseException")=Z true)(a2:(W.clsIn K b).isSome=true)(a3:W.findIn K (.ref b) "__class__"=Z (Z (.builtin "object.__class__")))(a4:W.specialIn K (.builtin "object.__class__") "__get__"=Z (Z (.builtin "getset_descriptor.__get__")))(a5:W.takesIn K (.builtin "object.__class__")=Z true)(a6:W.mroIn K b (.type "object")=Z true)(v48:EC K (.ref a) eD=true)(v49:W.kitOne K (.type "NoneType") (.ref a)=Z false)(v:W.nsIn K ce "CutError"=Z (Z (.ref o)))(v51:EC K (.ref o) cS=true)(v52:W.kitOne K (.type "NoneType") (.ref o)=Z false)(v53:W.exmOne K (.ref b) (.ref a)=Z false)(v54:W.exmOne K (.ref a) (.ref a)=Z true)(v55:EC K (.ref b) mD=true)(v56:W.kitOne K (.type "NoneType") (.ref b)=Z false)(v57:W.findIn K (.ref c) "weights"=Z Y)(a7:W.findIn K (.ref c) "__init__"=Z (Z (.ref n)))(a8:K.lookup n=Z ⟨i,e,.func (W.fnOf "__init__" "Web.__init__" (eK iV) (bU iV) (aI iV) .none j k l f d m),g⟩)(a9:W.codeIn K d "Web.__init__"=true)(aa:W.keepIn K (.ref n)=true)(ab:W.isFn K (.ref n)=true)(v63:W.makesIn K c=true)(v64:W.keepIn K (.ref c)=true)(v65:Def K mg "_law_deck" qR)(v66:Def K mg "_law_pairs" oU)(v67:Def K mg "_law_weight" lW)(v68:Def K mg "_law_web" rZ)(v69:Def K mg "is_whole" tW)(v70:Def K mg "is_row" AO)(v71:Def K mg "common" zD)(v72:Def K mg "is_row_of" qW)(v73:Def K mg "has_amount_numbers" eX)(v74:Def K mg "is_in_parts" mZ)(v75:Def K mg "is_weight" rG)(v76:Def K mg "is_place" tI)(v77:Def K mg "are_unlike_places" fT)(v78:Def K mg "is_between_places" fU)(v79:Def K mg "is_tie" zI)(v80:Def K mg "kept_ties" rF)(v81:Def K mg "_law_lowest" mX)(v82:Def K mg "_law_rows" qU)(v83:Def K mg "_law_places" mO)(v84:Def K mg "_law_two" uD)(v85:Def K mg "_law_told" qC)(v86:Def K mg "_law_groups_of" iU)(v87:Def K mg "_law_numbers" kT)(v88:Def K mg "is_rising" qJ)(v89:Def K mg "are_rising_places" fN)(v90:Def K mg "refuse_no_told" iY)(v91:Def K mg "joined" zB)(v92:Def K mg "is_apart" tG)(v93:Def K mg "_law_any" tN)(v94:Def K mg "_law_listed" mJ)(v95:Def K mg "_law_bent_groups" gQ)(v96:Def K mg "_law_is_row" mQ)(v97:Def K mg "_law_is_whole" jE)(v98:Def K mg "_law_are_rising" iF)(v99:Def K mg "_law_are_groups" iD)(v100:Def K mg "_law_between_groups" eI)(v101:Def K mg "in_least_terms" iO)(v102:Def K mg "from_parts" oK)(v103:Def K mg "parts" FD)(v104:Def K mg "weight_apart" kW)(v105:Def K mg "groups_weight" jL)(v106:Def K mg "_law_weight_told" gT)(v107:Def K mg "_law_right" oZ)(v108:Def K mg "_law_no_told" kP)(v109:Def K mg "_law_refused" kR)(v110:Def K mg "law" SZ):Txt K mg:=by
 cases DH s;cases DH t;cases DH u;cases DH v;exact⟨(cH (F5 X G v0)<|cH (F5 X G v1)<|cH (F5 X G v2)<|cH (F5 X G v3)<|cH (F5 X G v4)<|cH (F5 X G v5)<|cH (F5 X G v6)<|cH (F5 X G v7)<|cH (F5 X G v8)<|cH (F5 X G v9)<|cH (F5 X G x)<|cH (F5 X G y)<|cH (F5 X G z)<|cH (F5 X G A)<|cH (F5 X G B)<|cH (F5 X G C) aFx),⟨_,A1b X G D⟩,⟨_,A1b X G E⟩,⟨_,A1b X G F⟩,A1b X G s,⟨H,I,J,L⟩,v24,A1b X G t,v26,A1b X G u,v28,v29,v30,v31,⟨⟨M,N,O,Q⟩,R,S,T,U⟩,⟨⟨V,a0,a1,a2⟩,a3,a4,a5,a6⟩,v48,v49,A1b X G v,v51,v52,v53,v54,v55,v56,v57,aIA rfl a7 a8 a9 aa ab,v63,v64,v65,v66,v67,v68,v69,v70,v71,v72,v73,v74,v75,v76,v77,v78,v79,v80,v81,v82,v83,v84,v85,v86,v87,v88,v89,v90,v91,v92,v93,v94,v95,v96,v97,v98,v99,v100,v101,v102,v103,v104,v105,v106,v107,v108,v109,v110⟩
end
end Q60
end
end
section
namespace Q60
variable{L M M' M0 M3:Sto}{γ γ' γ1:Ga}{N c k' l m n q t' v w:Nat}{d p r x:Ua}{J S a b i j md y z:Int}{e f:EF}{xs:T5}{us ws:Tv Tie}{ns ps qs vs:T6}{ds es gs ys:T3}{g10 g3 g4 g5 g6 g9:Te}{fa:AF}{g:GF}{kp:Bool}{s:Str}{c':Cell}
open PySem PySem.Spec PyProof.Rows L2
local macro_rules | `(tactic| simp! [$a,*]) => `(tactic| simp only [fnF, fnX, xX, PZ, aOU, qZ, CB, kM, BY, aPP, liA, liE, liS, DX, ET, NS, aQq, aEr, setG, yU, tJ, bC, sIf, cF, aPH, cJ, bA, mG, cq, fR, gW, IM, hSub, gOr, LO, gF, gB, LB, aGj, aM, aC, aN, aE, fC, fOp, fUn, kQ, fOr, RG, fIf, HC, asB, bG, fI, rS, kI, AU, OI, pI, ifS, aNt, VH, HV, kY, dJ, aAT, ltI, leI, gtI, geI, Option.bind_some, Option.bind_none, Option.map_some, List.getElem?_cons_zero, List.getElem?_cons_succ, List.length_cons, List.length_nil, List.set_cons_zero, List.set_cons_succ, List.map_cons, List.map_nil, List.replicate_zero, List.replicate_succ, List.cons_append, List.nil_append, List.append_nil, if_true, ite_true, ite_false, Nat.reduceAdd, Nat.reduceSub, reduceIte, Bool.not_true, Bool.not_false, Bool.false_eq_true, $a,*])
noncomputable def xU:Ua->Bool
 |.int _=>true
 |_=>false
noncomputable def oS:Ua->Bool
 |.list _=>true
 |.tuple _=>true
 |_=>false
def mW(x:Ua)(M:Sto):iE [.d x] M=Z (.d (.bool (xU x)),M):=by cases x<;>rfl
def yN(x:Ua)(M:Sto):tR [.d x] M=Z (.d (.bool (oS x)),M):=by cases x<;>rfl
def fJ(d:Ua)(n:Int):Bool:=match aR d with
 |some ds=>((ds.length:Int)==n)
 |none=>false
def fP(x:Ua)(n:Int)(M:Sto):iK [.d x,.d (.int n)] M=Z (.d (.bool (fJ x n)),M):=by cases x<;>rfl
def QG(x y:Int):Int.gcd y (x % y)=Int.gcd x y:=by
 rw[Int.gcd_comm x y];have:x % y=x-y*(x / y):=by have:=Int.emod_add_mul_ediv x y;omega
 rw[this];simp
noncomputable abbrev I(n:Int):CD:=.d (.int n)
def fB{x:Int}(h:0<y):nD x y=true:=by simp[nD,h]
theorem BR(M:Sto):∀(n:Nat)(x y:Int),0<=x->0<=y->y.toNat<n->
 gS (LB<|aE 1) aPd n [Z (I x),Z<|I y] M=Z (.nx [Z (I<|Int.gcd x y),Z<|I 0],M)
 |0=>λ_ _ _ _ h=>61
 |n+1=>λx y u o h=>by
  by_cases e:y=0
  .subst e;have:(Int.gcd x 0:Int)=x:=by rw[Int.gcd_zero_right];omega
   rw[this];rfl
  .have k:0<y:=61
   have ih:=BR M n y (x % y) o (Y7 _ e) (by have:=S7 x k;omega);rw[QG]at ih;rw[<- ih];have t:(y != 0)=true:=by simp[e]
   simp only[gS,LB,aE,aGj,SC,aC,fOp,aN,dJ,pI,ifS,fB k,t,Option.bind,A0c,A0t,A0g,List.set]
def PB(M:Sto)(ha:0<=a)(k:0<=b):yH [I a,I b] M=Z (I<|Int.gcd a b,M):=by
 have h:wU [Z (I a),Z<|I b] M=_:=PP<|BR M (b.toNat+1) a b ha k<|Y8 _;show((bC wU _ [Z (I a),Z<|I b] M).bind _)=_;unfold bC;rw[h];rfl
noncomputable abbrev B(b:Bool):CD:=.d (.bool b)
def xW(d:Ua):Bool:=match aR d with
 |some [.int a,.int b]=>decide (0<=a)&&decide (1<=b)
 |_=>false
def aFy(h:fJ x 2=true):∃a b,x=.list [a,b]\/x=.tuple [a,b]:=by
 unfold fJ at h;cases x with
 |list ds=>
  have h:((ds.length:Int)==2)=true:=h;obtain _|⟨a,_|⟨b,_|⟨c,r⟩⟩⟩:=ds
  .simp at h
  .simp at h
  .exact⟨a,b,.inl rfl⟩
  .simp at h;omega
 |tuple ds=>
  have h:((ds.length:Int)==2)=true:=h;obtain _|⟨a,_|⟨b,_|⟨c,r⟩⟩⟩:=ds
  .simp at h
  .simp at h
  .exact⟨a,b,.inr rfl⟩
  .simp at h;omega
 |_=>simp[aR]at h
def SV(h:fJ x 2=false):xW x=false:=by
 unfold xW;unfold fJ at h;cases q:aR x with
 |none=>rfl
 |some ds=>
  rw[q]at h;obtain _|⟨a,_|⟨b,_|⟨c,r⟩⟩⟩:=ds
  .rfl
  .cases a<;>rfl
  .simp at h
  .cases a<;>cases b<;>rfl
def aQS{a b:Ua}:ixF (.d (.list [a,b])) (I 0) M=Z (.d a,M):=rfl
def aQK{a b:Ua}:ixF (.d (.list [a,b])) (I 1) M=Z (.d b,M):=rfl
def aQZ{a b:Ua}:ixF (.d (.tuple [a,b])) (I 0) M=Z (.d a,M):=rfl
def aRc{a b:Ua}:ixF (.d (.tuple [a,b])) (I 1) M=Z (.d b,M):=rfl
def aPI{p q:Bool}:(if p=true then Z (B q,M)else Z (B false,M))=Z (B (p&&q),M):=by cases p<;>rfl
def dU(x:Ua)(M:Sto):cA [.d x] M=Z (B<|xW x,M):=by
 cases h:fJ x 2 with
 |false=>
  rw[SV h];simp![cA,cP,fP,h]
 |true=>
  obtain⟨a,b,rfl|rfl⟩:=aFy h
  .cases a<;>cases b<;>first|rfl|(rename_i a b;simp![cA,cP,fP,h,mW,aQS,aQK,xU,aPI];rfl)
  .cases a<;>cases b<;>first|rfl|(rename_i a b;simp![cA,cP,fP,h,mW,aQZ,aRc,xU,aPI];rfl)
noncomputable def P(k:Bool)(a b:Int):Ua:=if k then .list [.int a,.int b]else .tuple [.int a,.int b]
def aND:ixF (.d (P k a b)) (I 0) M=Z (I a,M):=by cases k<;>rfl
def aPN:ixF (.d (P k a b)) (I 1) M=Z (I b,M):=by cases k<;>rfl
def NV:eqX false (I i) (I j) M=Z (B (i==j),M):=rfl
def aIi:eqX true (I i) (I j) M=Z (B (!(i==j)),M):=rfl
def vU:dP (I i) (I j) M=Z (I (i+j),M):=rfl
def aDo:xW (P k a b)=(decide (0<=a)&&decide (1<=b)):=by cases k<;>rfl
def aHe(n m:Nat):((n:Int)==(m:Int))=(n==m):=by
 rw[A0y];simp;omega
noncomputable def pK(a b:Int):Bool:=decide (0<=a)&&decide (1<=b)&&(55440 % b==0)&&(Int.gcd a b==1)&&decide (a<=1000000000000)
def vZ(k:Bool)(a b:Int)(M:Sto):dF [.d (P k a b)] M=Z (B (decide (0<=a)&&decide (1<=b)&&(55440 % b==0)&&(Int.gcd a b==1)),M):=by
 cases h:(decide (0<=a)&&decide (1<=b))with
 |false=>
  simp![dF,eR,dU,aDo,h,A0u]
 |true=>
  have o:=h;rw[A9]at h;have u:=C8 h.1;have A:=C8 h.2;have hm:nD 55440 b=true:=fB 61;cases t:(55440 % b==0)with
  |false=>simp![dF,eR,dU,aDo,o,aND,aPN,hm,NV,t,U8,A0u]
  |true=>
   simp![dF,eR,dU,aDo,o,aND,aPN,hm,NV,t,U8,PB M u<|Int.le_trans 66 A];rw[show(1:Int)=((1:Nat):Int)from rfl,aHe]
def OW(k:Bool)(a b:Int)(M:Sto):fL [.d (P k a b)] M=Z (B<|pK a b,M):=by
 cases h:(decide (0<=a)&&decide (1<=b)&&(55440 % b==0)&&(Int.gcd a b==1))with
 |false=>
  have e:pK a b=false:=by unfold pK;rw[h];rfl
  rw[e];simp![fL,kH,vZ,h]
 |true=>
  have e:pK a b=decide (a<=1000000000000):=by unfold pK;rw[h];rfl
  rw[e];simp![fL,kH,vZ,h,aND]
def YJ(h:1<=b):1<=(Int.gcd a b:Int):=by
 have:Int.gcd a b≠0:=λz=>by have:=(Int.gcd_eq_zero_iff.mp z).2;omega
 omega
def aFq(h:1<=b):(Int.gcd a b:Int)<=b:=Int.le_of_dvd 61<|Int.gcd_dvd_right a b
def wsm(h:0<=y)(o:y<2 ^ 200):y.natAbs<BV:=by
 have k:y.natAbs<2 ^ 200:=61
 exact C9 k<|Nat.pow_le_pow_right 66 66
def uT{x:Int}(h:0<y)(k:y.natAbs<BV):vQ x y=true:=by simp[vQ,h,k]
def aGF{x:Int}(h:x.natAbs<2 ^ 64):lZ x y=true:=by simp only[lZ,B8 h,Bool.true_or]
def aPF(h:pK a b=true):0<=a/\a<=1000000000000/\1<=b/\b<=55440:=by
 unfold pK at h;simp only[A9,S0,A0f]at h;let⟨⟨⟨⟨k,o⟩,t⟩,_⟩,u⟩:=h;exact⟨k,u,o,Int.le_of_dvd 66<|Int.dvd_of_emod_eq_zero t⟩
def lJ(x:Ua):Bool:=match aR x with
 |some [.int a,.int b]=>pK a b
 |_=>false
noncomputable def R2'(k:Bool)(p q:Ua):Ua:=if k then .list [p,q]else .tuple [p,q]
def aCe(k:Bool)(p q:Ua):aR (R2' k p q)=Z [p,q]:=by cases k<;>rfl
def aGw(h:fJ x 2=true):∃k p q,x=R2' k p q:=by
 obtain⟨a,b,rfl|rfl⟩:=aFy h
 .exact⟨true,a,b,rfl⟩
 .exact⟨false,a,b,rfl⟩
def aIl(h:xW x=true):∃k a b,x=P k a b:=by
 have o:fJ x 2=true:=by
  cases e:fJ x 2 with
  |true=>rfl
  |false=>rw[SV e]at h;cases h
 let⟨k,p,q,rfl⟩:=aGw o;unfold xW at h;rw[aCe]at h;cases p<;>cases q<;>first|exact⟨k,_,_,rfl⟩|simp at h
def aHy(k:Bool)(a b:Int):lJ (P k a b)=pK a b:=by cases k<;>rfl
def PD(h:xW x=false):lJ x=false:=by
 unfold xW at h;unfold lJ;split
 .rename_i a b e;rw[e]at h;dsimp only at h;unfold pK;rw[h];rfl
 .rfl
def PV(x:Ua)(M:Sto):fL [.d x] M=Z (B<|lJ x,M):=by
 cases h:xW x with
 |false=>
  rw[PD h];have e:dF [.d x] M=Z (B false,M):=by simp![dF,eR,dU,h]
  simp![fL,kH,e]
 |true=>
  let⟨k,a,b,rfl⟩:=aIl h;rw[aHy];exact OW k a b M
theorem lU:∀ds:T3,kI (ds.map .d)=Z ds
 |[]=>rfl
 |d::ds=>by
  show(kI<|ds.map .d).map (d::·)=_;rw[lU ds];rfl
structure Tie where
 i:Int
 j:Int
 a:Int
 b:Int
deriving DecidableEq
noncomputable def Tie.key(t:Tie):Tv Key:=[.inl t.i,.inl t.j]
noncomputable def Tie.val(t:Tie):CD:=.d (.tuple [.int t.a,.int t.b])
def bL(ts:Tv Tie):Tv (Tv Key×CD):=ts.map λt=>(t.key,t.val)
def aIp{ts:Tv Tie}{t:Tie}(h:∀s∈ts,s.key≠t.key):lkC (bL ts) t.key=Y:=by
 unfold lkC bL;rw[List.find?_map];have:List.find? ((λk=>decide (k.1=t.key)) ∘ λs:Tie=>(s.key,s.val)) ts=Y:=List.find?_eq_none.mpr λs hs=>by simpa using h s hs
 rw[this];rfl
def ZF{ts:Tv Tie}{t:Tie}(h:∀s∈ts,s.key≠t.key):putD (bL ts) t.key t.val=bL (ts++[t]):=by
 unfold putD
 have:((bL ts).any λk=>decide (k.1=t.key))=false:=by
  rw[bL,List.any_map];exact List.any_eq_false.mpr λs hs=>by simpa using h s hs
 rw[this,B7 C4];unfold bL;rw[E3];rfl
def sz(hn:n<=1000):n<=bv:=by rw[J7];exact C5 hn 66
noncomputable def f1(t:Tie):T3:=[.tuple [.int t.i,.int t.j],.tuple [.int t.a,.int t.b]]
noncomputable def f2(t:Tie):T3:=[.int t.i,.int t.j,.tuple [.int t.a,.int t.b]]
def eqv_tt{c d:Int}:cn (.tuple [.int a,.int b]) (.tuple [.int c,.int d])=(a==c&&(b==d&&true)):=rfl
def zF{f:Tie->T3}{i:Nat}(h:i<us.length):(us.map f).getD i []=f us[i]:=68
noncomputable def t0:Tie:=⟨0,0,0,0⟩
def JS(us:Tv Tie):(List.range us.length).map (λi=>us.getD i t0)=us:=by
 refine A1t λi=>?_;rw[D7];by_cases h:i<us.length
 .rw[A2i h,C0 h];show Z (us.getD i t0)=_;rw[D9,C0 h];rfl
 .rw[A0n 68,A0n 61];rfl
def aCF{i:Nat}(h:i<us.length):us.getD i t0=us[i]:=68
def aPl(s t:Tie):(nR (f1 s)<|f1 t).isSome=true:=by
 unfold f1 nR;split
 .unfold nR;split
  .rfl
  .rfl
 .rfl
def aHB(h:us.length<64):∃vs:Tv Tie,vs.Perm us/\hV (us.map f1)=Z (vs.map λt=>.tuple (f1 t)):=by
 by_cases k:2<=us.length
 .have o:sortable (us.map f1)=true:=by
   have hd:rJ (us.map f1)=true:=by unfold rJ;rw[A2n];exact C3.mpr λt _=>rfl
   unfold sortable;rw[A6,B8 k,B8 h,hd,Bool.or_true,U8,U8,Bool.and_true,A9];refine⟨C3.mpr λr u=>?_,C3.mpr λi hi=>C3.mpr λj A=>?_⟩
   .let⟨t,_,rfl⟩:=D3.mp u;rfl
   .rw[zF (E4.mp hi),zF<|E4.mp A];exact aPl _ _
  have pm:=nX (n:=(us.map f1).length) (vK<|us.map f1) 68;rw[A6]at pm;have mem:∀i∈jK (vK<|us.map f1) us.length,i<us.length:=λi hi=>E4.mp<|pm.mem_iff.mp hi
  have B:SX (us.map f1)=((jK (vK<|us.map f1) us.length).map λi=>us.getD i t0).map λt=>.tuple (f1 t):=by
   unfold SX;rw[A6,J0];refine O8 λi hi=>?_;show PyData.tuple ((us.map f1).getD i [])=.tuple (f1<|us.getD i t0);rw[zF (mem i hi),aCF<|mem i hi]
  refine⟨(jK (vK<|us.map f1) us.length).map λi=>us.getD i t0,?_,?_⟩
  .have:=pm.map λi=>us.getD i t0
   rwa [JS]at this
  .unfold hV;rw[o,A8 rfl,B]
 .have C:us.length<2:=61
  refine⟨us,.refl _,?_⟩;unfold hV
  have:sortable (us.map f1)=false:=by
   unfold sortable;rw[A6,D0 k];rfl
  rw[this,B7 C4,A6,A8 C,J0];rfl
noncomputable def big(t:Tie):Bool:=decide (t.a > 0)
def eO(vs:Tv Tie):T3:=(vs.filter big).map λt=>.tuple (f2 t)
def aCf{f:AF}{c:TF}{M1 M2:Sto}(it:f γ M=Z (xs,M1))(k:xs.length<=bv)(e:lcF g c h xs (qI cap γ) M1=Z (ds.map .d,M2))(hd:ds.length<=bv):fLc cap f g c h γ M=Z (.d (.list ds),M2):=by
 have o:BL cap f g c h γ M=Z (ds.map .d,M2):=by
  unfold BL;rw[it,A2,A8 k];exact e
 show(BL cap f g c h γ M).bind _=_;rw[o,A2,lU,A2,A8 hd]
abbrev kG:GF:=fR 2<|gW (fR 2 xq6)<|gW (cq 2) IM
abbrev kC:TF:=gB<|fOp gtI aCT<|fC (.int 0)
abbrev kE:EF:=bG aBA
theorem JB{M:Sto}:∀(vs:Tv Tie)(s1 s2 s3:Te),lcF kG kC kE (vs.map λt=>.d (.tuple (f1 t))) [s1,s2,s3] M=Z ((eO vs).map .d,M)
 |[]=>λ_ _ _=>rfl
 |t::vs=>λs1 s2 s3=>by
  have ih:=JB (M:=M) vs (Z<|I t.i) (Z<|I t.j)<|Z (.d (.tuple [.int t.a,.int t.b]));have k:kG (.d (.tuple (f1 t))) [s1,s2,s3] M=Z ([Z (I t.i),Z<|I t.j,Z (.d (.tuple [.int t.a,.int t.b]))],M):=rfl;have o:kC [Z (I t.i),Z<|I t.j,Z (.d (.tuple [.int t.a,.int t.b]))] M=Z (big t,M):=rfl
  have u:kE [Z (I t.i),Z<|I t.j,Z (.d (.tuple [.int t.a,.int t.b]))] M=Z (.d (.tuple (f2 t)),M):=by
   have A:3<=bv:=sz 66;simp![kE,f2,A8 A,Nat.zero_add]
  rw[C6];unfold lcF;rw[k,A2];rw[o,A2];by_cases h:big t=true
  .rw[A8 h,u,A2];rw[ih,A2];unfold eO;rw[U4 h];rfl
  .rw[B7 h,ih];unfold eO;rw[U5 h]
theorem SL:∀us:Tv Tie,vV (bL us)=Z (us.map λt=>(t.key,.tuple [.int t.a,.int t.b]))
 |[]=>rfl
 |t::us=>by
  show(vV<|bL us).bind _=_;rw[SL us];rfl
def aGI(us:Tv Tie):(us.map λt=>(t.key,PyData.tuple [.int t.a,.int t.b])).map aAO=us.map f1:=by
 rw[J0];rfl
def aDi{vs:Tv Tie}(h:vs.length<=1000):(eO vs).length<=bv:=by
 unfold eO;rw[A6];exact sz<|C5 (Y4 ..) h
def dW(us:Tv Tie):T3:=us.map λt=>.tuple (f2 t)
def Ok(n:Int)(us:Tv Tie):Prop:=(∀t∈us,pK t.a t.b=true/\0<=t.i/\t.i<t.j/\t.j<n)/\(us.map Tie.key).Nodup/\us.length<64
def VX(nd:(us.map Tie.key).Nodup):((us.filter big).map Tie.key).Nodup:=(List.filter_sublist.map Tie.key).nodup nd
theorem OS{N:Sto}:∀(ws ts:Tv Tie)(s1 s2 s3:Te),((ts++ws).map Tie.key).Nodup->ts.length+ws.length<1000->
 dcF N.length (fR 3<|gW (cq 0) VN) cK (wX vH) (aE 2) ((dW ws).map .d) [s1,s2,s3] (N++[.dt (bL ts)])=Z (N++[.dt (bL (ts++ws))])
 |[]=>λts _ _ _ _ _=>by rw[J8];rfl
 |t::ws=>λts s1 s2 s3 nd B=>by
  have h:∀s∈ts,s.key≠t.key:=λs hs q=>by
   rw[E3,Y3]at nd;exact nd.2.2 _ (A2j hs) _ 67 q
  have ih:=OS (N:=N) ws (ts++[t]) (Z<|I t.i) (Z<|I t.j) (Z t.val) 68 68;have k:(N++[.dt (bL ts)])[N.length]?=Z (.dt (bL ts)):=67
  have len:(bL ts).length<bv:=by unfold bL;rw[A6,J7];omega
  have st:AZ (N++[.dt (bL ts)]) (.c N.length) (.inr t.key) t.val=Z (N++[.dt (bL (ts++[t]))]):=by
   simp only[AZ,k,A8 len,ZF h];rw[List.set_append_right _ _ (B3 _),A1u];rfl
  have o:(Tie.key t).length<=bv:=sz (show 2<=1000 by decide)
  have u:wX vH [Z (I t.i),Z<|I t.j,Z t.val] (N++[.dt (bL ts)])=Z (.inr t.key,N++[.dt (bL ts)]):=by
   have A:keysOf [I t.i,I t.j]=Z t.key:=rfl;simp![wX,A,A8 o]
  show dcF _ _ _ _ _ (.d (.tuple (f2 t))::(dW ws).map .d) [s1,s2,s3] _=_;unfold dcF;rw[show fR 3 (gW (cq 0) VN) (.d (.tuple (f2 t))) [s1,s2,s3] (N++[.dt (bL ts)])=Z ([Z (I t.i),Z<|I t.j,Z t.val],N++[.dt (bL ts)])from rfl,A2];rw[show cK [Z (I t.i),Z<|I t.j,Z t.val] (N++[.dt (bL ts)])=Z (true,N++[.dt (bL ts)])from rfl,A2];rw[A8 rfl,u,A2];rw[show aE 2 [Z (I t.i),Z<|I t.j,Z t.val] (N++[.dt (bL ts)])=Z (t.val,N++[.dt (bL ts)])from rfl,A2];rw[st,A2,ih,L7];rfl
def aQC(w:Nat)(n:Int)(vs:Tv Tie):Cell:=.obj "Web" [("many",I n),("ties",.d (.tuple (eO vs))),("weights",.c (w+2))]
def aMH(w:Nat)(n:Int)(us vs:Tv Tie):Tv Cell:=[aQC w n vs,.dt (bL us),.dt (bL<|vs.filter big)]
def UE{fs:Tu}:objOf "Web" (M++(.obj "Web" fs::L)) (.c M.length)=Z (M.length,fs):=by
 have:(M++(Cell.obj "Web" fs::L))[M.length]?=Z (.obj "Web" fs):=67
 simp only[objOf,this,A0g]
def HE{c:Cell}:(M++(c::L)).set M.length c'=M++(c'::L):=68
noncomputable def R3(k:Bool)(p q w:Ua):Ua:=if k then .list [p,q,w]else .tuple [p,q,w]
def yO(k:Bool)(p q w:Ua):aR (R3 k p q w)=Z [p,q,w]:=by cases k<;>rfl
def aGi(h:fJ x 3=true):∃k p q w,x=R3 k p q w:=by
 have o:∀ds:T3,((ds.length:Int)==3)=true->∃p q w,ds=[p,q,w]:=λds h=>by
  match ds,h with
  |[p,q,w],_=>exact⟨p,q,w,rfl⟩
  |[],h=>exact absurd h 66
  |[_],h=>exact absurd h 67
  |[_,_],h=>exact absurd h 67
  |_::_::_::_::r,h=>
   have:((r.length+1+1+1+1:Nat):Int)=3:=68
   omega
 cases x with
 |list ds=>let⟨p,q,w,rfl⟩:=o ds h;exact⟨true,p,q,w,rfl⟩
 |tuple ds=>let⟨p,q,w,rfl⟩:=o ds h;exact⟨false,p,q,w,rfl⟩
 |_=>cases h
noncomputable def plc(n:Int):Ua->Bool
 |.int i=>decide (0<=i)&&decide (i<n)
 |_=>false
def qX(n:Int)(p:Ua)(M:Sto):fV [I n,.d p] M=Z (B<|plc n p,M):=by
 cases h:xU p with
 |false=>
  have e:plc n p=false:=by cases p<;>first|rfl|cases h
  rw[e];simp![fV,qD,mW,h]
 |true=>
  obtain⟨i,rfl⟩:∃i,p=.int i:=by cases p<;>first|exact⟨_,rfl⟩|cases h
  have k:plc n (.int i)=(decide (0<=i)&&decide (i<n)):=rfl;rw[k];cases o:decide (0<=i)<;>simp![fV,qD,mW,h,o,U8,A0u]
def ulk(n:Int)(p q:Ua):Bool:=match p,q with
 |.int i,.int j=>plc n p&&(plc n q&&!(i==j))
 |_,_=>false
def xV{n:Int}(h:plc n p=true):∃i,p=.int i/\0<=i/\i<n:=by
 cases p with
 |int i=>simp only[plc,A9,S0]at h;exact⟨i,rfl,h.1,h.2⟩
 |_=>cases h
def aJI(n:Int)(p q:Ua)(M:Sto):cG [I n,.d p,.d q] M=Z (B<|ulk n p q,M):=by
 cases h:plc n p with
 |false=>
  have e:ulk n p q=false:=by
   unfold ulk;split
   .rw[h];rfl
   .rfl
  rw[e];simp![cG,dD,qX,h]
 |true=>
  let⟨i,rfl,_⟩:=xV h;cases k:plc n q with
  |false=>
   have e:ulk n (.int i) q=false:=by
    unfold ulk;split
    .rw[k,A0u,Bool.and_false]
    .rfl
   rw[e];simp![cG,dD,qX,h,k]
  |true=>
   let⟨j,rfl,_⟩:=xV k;have e:ulk n (.int i) (.int j)=!(i==j):=by show(plc n (.int i)&&(plc n (.int j)&&!(i==j)))=_;rw[h,k];rfl
   rw[e];simp![cG,dD,qX,h,k,aIi]
def lC(n:Int)(r:Ua):Tx Tie:=match aR r with
 |some [.int i,.int j,w]=>match aR w with
  |some [.int a,.int b]=>if 0<=i/\i<j/\j<n/\pK a b=true then Z ⟨i,j,a,b⟩else Y
  |_=>Y
 |_=>Y
def aBy{w:Ua}(h:lJ w=true):∃a b,aR w=Z [.int a,.int b]/\pK a b=true:=by
 unfold lJ at h;split at h
 .rename_i a b e;exact⟨a,b,e,h⟩
 .cases h
def XF{n:Int}{w:Ua}(k:aR r=Z [.int i,.int j,w])(o:aR w=Z [.int a,.int b])(h:0<=i/\i<j/\j<n/\pK a b=true):lC n r=Z ⟨i,j,a,b⟩:=by
 unfold lC;rw[k];dsimp only;rw[o];dsimp only;rw[A8 h]
def yL{n:Int}{t:Tie}(h:lC n r=Z t):∃w,aR r=Z [.int t.i,.int t.j,w]/\aR w=Z [.int t.a,.int t.b]/\0<=t.i/\t.i<t.j/\t.j<n/\pK t.a t.b=true:=by
 unfold lC at h;split at h
 .rename_i i j w k;split at h
  .rename_i a b o;split at h
   .rename_i c;cases h;exact⟨w,k,o,c⟩
   .cases h
  .cases h
 .cases h
def ix3(k:Bool)(p q w:Ua)(M:Sto):ixF (.d (R3 k p q w)) (I 0) M=Z (.d p,M)/\ixF (.d (R3 k p q w)) (I 1) M=Z (.d q,M)/\ixF (.d (R3 k p q w)) (I 2) M=Z (.d w,M):=by cases k<;>exact⟨rfl,rfl,rfl⟩
def aFk(n:Int)(r:Ua)(M:Sto):mK [I n,.d r] M=Z (B (lC n r).isSome,M):=by
 cases C:fJ r 3 with
 |false=>
  have e:lC n r=Y:=by
   cases h:lC n r with
   |none=>rfl
   |some t=>
    let⟨w,o,_⟩:=yL h;unfold fJ at C;rw[o]at C;cases C
  have A:bN [I n,.d r] M=Z (B false,M):=by
   simp![bN,cZ,fP,C]
  rw[e];simp![mK,pF,A,A2u]
 |true=>
  let⟨k,p,q,w,rfl⟩:=aGi C;let⟨K,O,Q⟩:=ix3 k p q w M;cases u:ulk n p q with
  |false=>
   have e:lC n (R3 k p q w)=Y:=by
    cases h:lC n (R3 k p q w)with
    |none=>rfl
    |some t=>
     let⟨P,o,_,F,E,G,_⟩:=yL h;rw[yO]at o;cases o
     have:ulk n (.int t.i) (.int t.j)=true:=by
      have ne:(!(t.i==t.j))=true:=68
      show(plc n (.int t.i)&&(plc n (.int t.j)&&!(t.i==t.j)))=true;rw[ne];simp only[plc,B8 F,B8 G,B8 (show t.i<n by omega),B8 (show(0:Int)<=t.j by omega),U8]
     rw[this]at u;cases u
   have A:bN [I n,.d (R3 k p q w)] M=Z (B false,M):=by
    simp![bN,cZ,fP,C,K,O,aJI,u]
   rw[e];simp![mK,pF,A,A2u]
  |true=>
   obtain⟨i,j,rfl,rfl,F,G⟩:∃i j,p=.int i/\q=.int j/\0<=i/\j<n:=by
    unfold ulk at u;split at u
    .rename_i i j;rw[A9,A9]at u;let⟨i',R,T,_⟩:=xV u.1;let⟨j',U,_,V⟩:=xV u.2.1;cases R;cases U;exact⟨i,j,rfl,rfl,T,V⟩
    .cases u
   have A:bN [I n,.d (R3 k (.int i) (.int j) w)] M=Z (B<|decide (i<j),M):=by
    simp![bN,cZ,fP,C,K,O,aJI,u]
   cases E:decide (i<j)with
   |false=>
    have e:lC n (R3 k (.int i) (.int j) w)=Y:=by
     cases h:lC n (R3 k (.int i) (.int j) w)with
     |none=>rfl
     |some t=>
      let⟨P,o,_,_,z,_⟩:=yL h;rw[yO]at o;cases o;exact absurd z<|of_decide_eq_false E
    rw[E]at A;rw[e];simp![mK,pF,A,A2u]
   |true=>
    rw[E]at A
    have e:(lC n<|R3 k (.int i) (.int j) w).isSome=lJ w:=by
     cases D:lJ w with
     |true=>
      let⟨a,b,W,X⟩:=aBy D;rw[XF (yO ..) W ⟨F,C8 E,G,X⟩];rfl
     |false=>
      cases h:lC n (R3 k (.int i) (.int j) w)with
      |none=>rfl
      |some t=>
       let⟨P,o,h2,_,_,_,H⟩:=yL h;rw[yO]at o;cases o;unfold lJ at D;rw[h2]at D;dsimp only at D;rw[H]at D;cases D
    rw[e];simp![mK,pF,A,Q,PV]
abbrev LG(n:Int)(x:CD)(c k:Nat)(r:Ua):Ga:=[Z (I n),Z x,Z (.c c),Z<|I (k:Nat),Z (.d r)]
noncomputable def eM(k:Nat)(l:T3):T5:=(l.zipIdx k).map λp=>.d (.tuple [.int (p.2:Nat),p.1])
def zY(k:Nat)(r:Ua)(l:T3):eM k (r::l)=.d (.tuple [.int (k:Nat),r])::eM (k+1) l:=rfl
abbrev G2:GF:=fR 2 aJe
def aOD{n:Int}{x:CD}{k:Nat}:G2 (.d (.tuple [.int (k:Nat),r])) [Z (I n),Z x,Z (.c c),g3,g4] M=Z (LG n x c k r,M):=rfl
def iZ{c:Cell}:(M++[c])[M.length]?=Z c:=68
def aQO{w:Ua}(h:aR w=Z [.int a,.int b])(M:Sto):iH [.d w] M=Z (.d (.tuple [.int a,.int b]),M):=by
 cases w<;>first|(cases h;rfl)|cases h
def aME{n:Int}{t:Tie}(h:pK t.a t.b=true/\0<=t.i/\t.i<t.j/\t.j<n):lC n (.tuple (f2 t))=Z t:=
 XF rfl rfl ⟨h.2.1,h.2.2.1,h.2.2.2,h.1⟩
def aAN{n:Int}{x:CD}{M:Sto}{ts:Tv Tie}(G:ts.length<1000)(ht:lC n (.tuple (f2 t))=Z t)(o:∀s∈ts,s.key≠t.key):
 hW (LG n x M.length k (.tuple (f2 t))) (M++[.dt (bL ts)])=Z (.nx (LG n x M.length k (.tuple (f2 t))),M++[.dt (bL (ts++[t]))]):=by
 have u:=aFk n (.tuple (f2 t)) (M++[.dt (bL ts)]);rw[ht,Option.isSome_some]at u;have B:ixF (.d (.tuple (f2 t))) (I 0) (M++[.dt (bL ts)])=Z (I t.i,M++[.dt (bL ts)]):=rfl;have C:ixF (.d (.tuple (f2 t))) (I 1) (M++[.dt (bL ts)])=Z (I t.j,M++[.dt (bL ts)]):=rfl;have D:ixF (.d (.tuple (f2 t))) (I 2) (M++[.dt (bL ts)])=Z (.d (.tuple [.int t.a,.int t.b]),M++[.dt (bL ts)]):=rfl;have E:=aQO (w:=.tuple [.int t.a,.int t.b]) rfl (M++[.dt (bL ts)]);have A:(M++[Cell.dt (bL ts)])[M.length]?=Z (.dt (bL ts)):=iZ;have h:keysOf [I t.i,I t.j]=Z t.key:=rfl;have F:(Tie.key t).length<=bv:=sz (show 2<=1000 by decide);have at_:atD (M++[.dt (bL ts)]) (.c M.length) (.inr t.key)=Z Y:=by simp only[atD,A,aIp o]
 have len:(bL ts).length<bv:=by unfold bL;rw[A6,J7];omega
 have st:AZ (M++[.dt (bL ts)]) (.c M.length) (.inr t.key) (.d (.tuple [.int t.a,.int t.b]))=Z (M++[.dt (bL (ts++[t]))]):=by
  have pn:putD (bL ts) t.key (.d (.tuple [.int t.a,.int t.b]))=bL (ts++[t]):=ZF o;simp only[AZ,A,A8 len,pn];rw[HE]
 simp![hW,u,aGV,wX,B,C,D,h,A8 F,at_,AQ,E,st,A2u]
theorem JR{n:Int}{x:CD}{M:Sto}:∀(ws ts:Tv Tie)(k:Nat)(g3 g4:Te),((ts++ws).map Tie.key).Nodup->(∀t∈ws,lC n (.tuple (f2 t))=Z t)->ts.length+ws.length<1000->
 ∃o u,mH G2 hW (eM k<|dW ws) [Z (I n),Z x,Z (.c M.length),g3,g4] (M++[.dt (bL ts)])=Z (.nx [Z (I n),Z x,Z (.c M.length),o,u],M++[.dt (bL (ts++ws))])
 |[]=>λts k g3 g4 _ _ _=>⟨g3,g4,by rw[J8];rfl⟩
 |t::ws=>λts k g3 g4 nd ok A=>by
  have B:∀s∈ts,s.key≠t.key:=λs hs e=>by
   rw[E3,Y3]at nd;exact nd.2.2 _ (A2j hs) _ (A2j<|B0 ..) e
  rw[D8]at A;have tn:=aAN (x:=x) (M:=M) (k:=k) 61 (ok t<|B0 ..) B;have e:ts++t::ws=ts++[t]++ws:=67
  rw[e]at nd ⊢;let⟨a,b,h⟩:=JR ws (ts++[t]) (k+1) (Z<|I (k:Nat)) (Z (.d (.tuple (f2 t)))) nd (λs hs=>ok s<|A7 _ hs) 68;refine⟨a,b,?_⟩;rw[<- h];show mH G2 hW (.d (.tuple [.int (k:Nat),.tuple (f2 t)])::eM (k+1) (dW ws)) _ _=_
  conv=>lhs;unfold mH
  rw[aOD,A2];rw[tn,A2]
def aIo{n:Int}{l:T3}{c:CD}(hd:aR d=Z l):nL xq0 [Z (I n),Z (.d d),Z c,Y,Y] M=Z (eM 0 l,M):=by
 simp![nL,hd];rfl
def aHw{n:Int}{M:Sto}(ok:Ok n us):
 ∃vs:Tv Tie,vs.Perm us/\kD [I n,.d (.list (dW us))] M=Z (.d (.tuple (eO vs)),M++[.dt (bL us)]):=by
 let⟨o,nd,h⟩:=ok;let⟨g3,g4,u⟩:=JR (x:=.d (.list (dW us))) (M:=M) us [] 0 Y Y 68 (λt ht=>aME<|o t ht) 68;let⟨vs,pm,A⟩:=aHB h;refine⟨vs,pm,?_⟩;have k:oS (.list (dW us))=true:=rfl;have B:(M++[Cell.dt []])=M++[.dt (bL [])]:=rfl;have C:(M++[Cell.dt (bL us)])[M.length]?=Z (.dt (bL us)):=iZ;have F:vs.length<64:=by rw[pm.length_eq];exact h
 have it:cQ (AB<|aE 2) [Z (I n),Z (.d (.list (dW us))),Z (.c M.length),g3,g4] (M++[.dt (bL us)])=Z (vs.map λt=>.d (.tuple (f1 t)),M++[.dt (bL us)]):=by
  have s1:AB (aE 2) [Z (I n),Z (.d (.list (dW us))),Z (.c M.length),g3,g4] (M++[.dt (bL us)])=Z (.d (.list (vs.map λt=>.tuple (f1 t))),M++[.dt (bL us)]):=by
   simp![AB,C,SL,aGI,A]
  unfold cQ;rw[s1,A2];show(Z (vs.map λt=>PyData.tuple<|f1 t)).bind _=_;rw[A2,J0];rfl
 have D:vT [Z (I n),Z (.d (.list (dW us))),Z (.c M.length),g3,g4] (M++[.dt (bL us)])=Z (.d (.list (eO vs)),M++[.dt (bL us)]):=by
  exact aCf it (sz 68) (JB vs Y Y Y)<|aDi 61
 have E:iH [.d (.list (eO vs))] (M++[.dt (bL us)])=Z (.d (.tuple (eO vs)),M++[.dt (bL us)]):=rfl;have hi:aR (.list (dW us))=Z (dW us):=rfl;simp![kD,sC,yN,k,AA,B,uA,aIo hi,u,D,E]
def aIR{n:Int}{M:Sto}(ok:Ok n us)(U:1<=n)(A:n<=40):
 ∃vs:Tv Tie,vs.Perm us/\iM [.c M.length,I n,.d (.list (dW us))] (M++[.obj "Web" []])=Z (.d .none,M++aMH M.length n us vs):=by
 let⟨vs,pm,h⟩:=aHw (M:=M++[.obj "Web" [("many",I n)]]) ok;let⟨o,nd,k⟩:=ok;refine⟨vs,pm,?_⟩;have C:iE [I n] (M++[.obj "Web" []])=Z (B true,M++[.obj "Web" []]):=mW _ _;have D:decide (n<1)=false:=D0 61;have E:decide (n > 40)=false:=D0 61;have o:objOf "Web" (M++[.obj "Web" []]) (.c M.length)=Z (M.length,[]):=UE;have s1:(M++[Cell.obj "Web" []]).set M.length (.obj "Web" (UX "many" (I n) []))=M++[.obj "Web" [("many",I n)]]:=HE
 have h:kD [I n,.d (.list (dW us))] (M++[.obj "Web" [("many",I n)]])=Z (.d (.tuple (eO vs)),M++[.obj "Web" [("many",I n)],.dt (bL us)]):=by
  rw[h,L7];rfl
 have F:objOf "Web" (M++[.obj "Web" [("many",I n)],.dt (bL us)]) (.c M.length)=Z (M.length,([("many",I n)]:Tu)):=UE;have G:UX "ties" (.d (.tuple (eO vs))) ([("many",I n)]:Tu)=([("many",I n),("ties",.d (.tuple (eO vs)))]:Tu):=rfl;have s2:(M++[Cell.obj "Web" [("many",I n)],.dt (bL us)]).set M.length (.obj "Web" [("many",I n),("ties",.d (.tuple (eO vs)))])=M++[.obj "Web" [("many",I n),("ties",.d (.tuple (eO vs)))],.dt (bL us)]:=HE;have t:∀L,objOf "Web" (M++(.obj "Web" [("many",I n),("ties",.d (.tuple (eO vs)))]::L)) (.c M.length)=Z (M.length,([("many",I n),("ties",.d (.tuple (eO vs)))]:Tu)):=λL=>UE;have H:List.lookup ("ties":Str) [("many",I n),("ties",.d (.tuple (eO vs)))]=Z (.d (.tuple (eO vs))):=rfl
 have it:cQ (CV "Web" "ties"<|aE 0) [Z (.c M.length),Z<|I n,Z (.d (.list (dW us)))] (M++[.obj "Web" [("many",I n),("ties",.d (.tuple (eO vs)))],.dt (bL us)])=Z ((dW<|vs.filter big).map .d,M++[.obj "Web" [("many",I n),("ties",.d (.tuple (eO vs)))],.dt (bL us)]):=by
  have:CV "Web" "ties" (aE 0) [Z (.c M.length),Z<|I n,Z (.d (.list (dW us)))] (M++[.obj "Web" [("many",I n),("ties",.d (.tuple (eO vs)))],.dt (bL us)])=Z (.d (.tuple (eO vs)),M++[.obj "Web" [("many",I n),("ties",.d (.tuple (eO vs)))],.dt (bL us)]):=by
   simp![CV,t,H]
  unfold cQ;rw[this];rfl
 have V:(vs.filter big).length<=vs.length:=Y4 ..;have W:vs.length<64:=by rw[pm.length_eq];exact k
 have K:(vs.map Tie.key).Nodup:=(pm.map Tie.key).nodup_iff.mpr nd;have ln:(M++[Cell.obj "Web" [("many",I n),("ties",.d (.tuple (eO vs)))],.dt (bL us)]).length=M.length+2:=by rw[B6];rfl
 have u:=OS (N:=M++[.obj "Web" [("many",I n),("ties",.d (.tuple (eO vs)))],.dt (bL us)]) (vs.filter big) [] Y Y Y (by rw[A1o];exact VX K) (by simp only[Z5];omega);rw[A1o]at u
 have O:pA [Z (.c M.length),Z<|I n,Z (.d (.list (dW us)))] (M++[.obj "Web" [("many",I n),("ties",.d (.tuple (eO vs)))],.dt (bL us)])=Z (.c (M.length+2),M++[.obj "Web" [("many",I n),("ties",.d (.tuple (eO vs)))],.dt (bL us),.dt (bL<|vs.filter big)]):=by
  unfold pA fDc;rw[it,A2];dsimp only;rw[show qI [Y,Y,Y] [Z (CD.c M.length),Z<|I n,Z (.d (.list (dW us)))]=[Y,Y,Y]from rfl,show(M++[Cell.obj "Web" [("many",I n),("ties",CD.d (.tuple (eO vs)))],.dt (bL us)]++[Cell.dt []])=M++[Cell.obj "Web" [("many",I n),("ties",CD.d (.tuple (eO vs)))],.dt (bL us)]++[Cell.dt (bL [])]from rfl,u,A2,ln,L7];rfl
 have P:UX "weights" (.c (M.length+2)) ([("many",I n),("ties",.d (.tuple (eO vs)))]:Tu)=([("many",I n),("ties",.d (.tuple (eO vs))),("weights",.c (M.length+2))]:Tu):=rfl;have s3:(M++[Cell.obj "Web" [("many",I n),("ties",.d (.tuple (eO vs)))],.dt (bL us),.dt (bL<|vs.filter big)]).set M.length (.obj "Web" [("many",I n),("ties",.d (.tuple (eO vs))),("weights",.c (M.length+2))])=M++aMH M.length n us vs:=HE;have Q:([]:Tu).length<1000:=66
 have R:([("many",I n)]:Tu).length<1000:=by show 1<1000;decide
 have T:([("many",I n),("ties",.d (.tuple (eO vs)))]:Tu).length<1000:=by show 2<1000;decide
 simp![iM,uM,C,D,E,IX,o,s1,h,F,G,s2,O,t,P,s3,A0g,A8 Q,A8 R,A8 T,show(0:Nat)<1000 from by decide,show(0+1:Nat)<1000 from by decide,show(1:Nat)<1000 from by decide,show(2:Nat)<1000 from by decide,show(0+1+1:Nat)<1000 from by decide]
def aQ{f g:SF}(h:f γ M=Z (.nx γ',M')):bC f g γ M=g γ' M':=by simp only[bC,h,A2]
def jR{f g:SF}{x:CD}(h:f γ M=Z (.rt x,M')):bC f g γ M=Z (.rt x,M'):=by simp only[bC,h,A2]
def bH{i:Nat}{x:CD}(h:f γ M=Z (x,M')):bA f (cq i) γ M=Z (.nx (γ.set i<|Z x),M'):=by simp only[bA,cq,h,A2]
def gK{ps:Nat}{b:SF}{x:CD}(h:xs.length=ps)(k:b (xs.map Z++List.replicate (N-xs.length) Y) M=Z (.rt x,M')):fnF ps N b xs M=Z (x,M'):=by simp only[fnF,A8 h,k,A2]
def mU{f:AF}{b:SF}{M1:Sto}{r:Tx (Out×Sto)}(h:f γ M=Z (xs,M1))(k:mH g b xs γ M1=r):uA f g b γ M=r:=by simp only[uA,h,A2,k]
def pG{b:SF}{x:CD}{M1 M2:Sto}(h:g x γ M=Z (γ1,M1))(o:b γ1 M1=Z (.nx k,M2)):mH g b (x::xs) γ M=mH g b xs k M2:=by
 conv=>lhs;unfold mH
 rw[h,A2];rw[o];rfl
def aF{g:AF}{M1 M2:Sto}{x:CD}(h:f γ M=Z (x,M1))(k:g γ M1=Z (xs,M2)):aC f g γ M=Z (x::xs,M2):=by simp only[aC,h,k,A2]
def aP:aN γ M=Z ([],M):=rfl
def aV{F:FN}{M1 M2:Sto}{y:CD}(ha:fa γ M=Z (xs,M1))(h:F xs M1=Z (y,M2)):aM F fa γ M=Z (y,M2):=by simp only[aM,ha,A2,h]
def bF{k:F2}{g:EF}{M1 M2:Sto}{a b c:CD}(o:f γ M=Z (a,M1))(t:g γ M1=Z (b,M2))(h:k a b M2=Z (c,M3)):fOp k f g γ M=Z (c,M3):=by simp only[fOp,o,t,A2,h]
def dN{M1:Sto}{b:Bool}(h:f γ M=Z (B b,M1)):gB f γ M=Z (b,M1):=by
 unfold gB;rw[h];rfl
def eP{c:TF}{a b:SF}(h:c γ M=Z (true,M')):sIf c a b γ M=a γ M':=by simp only[sIf,h,A2,A0g]
def bY{c:TF}{a b:SF}(h:c γ M=Z (false,M')):sIf c a b γ M=b γ M':=by simp only[sIf,h,A2,A0l,A2p]
def aDB:fC (.int i) γ M=Z (I i,M):=rfl
def aGR{c:Cell}:(M++[c]).set M.length c'=M++[c']:=68
noncomputable def lw(lo hi:Int):Ua->Bool
 |.int i=>decide (lo<=i)&&decide (i<=hi)
 |_=>false
def aQY(p:Ua)(lo hi:Int)(M:Sto):hX [.d p,I lo,I hi] M=Z (B<|lw lo hi p,M):=by
 cases p with
 |int i=>
  have h:lw lo hi (.int i)=(decide (lo<=i)&&decide (i<=hi)):=rfl;have k:AM "int" (.int i)=true:=rfl;have o:AM "bool" (.int i)=false:=rfl;rw[h];cases t:decide (lo<=i)<;>simp![hX,kS,k,o,t,U8,A0u]
 |_=>rfl
def aIb(h:aR r=Z ds)(M:Sto):pO [.d r] M=Z (I ds.length,M):=by
 cases r<;>first|(cases h;rfl)|cases h
abbrev Inn(n:Nat)(p:Int):Prop:=0<=p/\p<n
def lM{o:Type}{xs:Tv o}{k:Nat}{x:o}(h:xs[k]?=Z x):atI xs (k:Int)=Z x:=by
 have t:=(B9.mp h).1;unfold atI ixN;rw[A8 (Int.natCast_nonneg k),A8 61,A2,U1,h]
def XA{h:Type}{ds:Tv h}{lo hi:Tk}:∀x∈fH ds lo hi,x∈ds:=λx k=>by
 exact List.mem_of_mem_drop<|List.mem_of_mem_take k
def YD{h:Type}(ds:Tv h)(lo hi:Tk):(fH ds lo hi).length<=ds.length:=by
 unfold fH;rw[A0r,A1k];omega
def YC{h:Type}{ds:Tv h}(k:0<=a)(o:a<ds.length):(fH ds Y<|Z a).length+(fH ds (Z (a+1)) Y).length+1=ds.length:=by
 obtain⟨q,rfl⟩:∃q:Nat,a=(q:Nat):=⟨a.toNat,61⟩;unfold fH;rw[HT.sIx_none,HT.sIx_none,show((q:Nat):Int)+1=((q+1:Nat):Int)from rfl,HT.sIx_nat,HT.sIx_nat,A0r,A1k,A0r,A1k];omega
def sl_tup{lo:Tk}:slF (.d (.tuple ds)) lo hi M=Z (.d (.tuple (fH ds lo hi)),M):=rfl
def jT{xs:T3}(k:xs.length+ys.length<=1000):dP (.d (.tuple xs)) (.d (.tuple ys)) M=Z (.d (.tuple (xs++ys)),M):=by
 cases xs with
 |nil=>rfl
 |cons x xs=>
  have h:(x::xs:T3)≠[]/\(x::xs).length+ys.length<=bv:=⟨67,sz k⟩;show(if (x::xs:T3)≠[]/\(x::xs).length+ys.length<=bv then Z (CD.d (.tuple (x::xs++ys)),M)else Y)=_;rw[A8 h]
def DE{o:Type}{ds:Tv o}{k m:Int}(hm:0<m)(u:(ds.length:Int)=m):∃d,atI ds (k % m)=Z d/\d∈ds:=by
 have A:=Y7 k (show m≠0 by omega);have B:=S7 k hm;have h:(k % m).toNat<ds.length:=61
 obtain⟨q,t⟩:∃q:Nat,k % m=(q:Nat):=⟨(k % m).toNat,61⟩;rw[t]at h ⊢;exact⟨ds[q],lM<|C0 h,U9 h⟩
abbrev cI(xs:T6):Cell:=.lst (xs.map λi=>I i)
def Li(M:Sto)(c:Nat)(xs:T6):Prop:=M[c]?=Z (cI xs)
structure Oth(c:Nat)(M M':Sto):Prop where
 len:M'.length=M.length
 at_:∀i,i≠c->M'[i]?=M[i]?
def Li.lt{xs:T6}(h:Li M c xs):c<M.length:=(B9.mp h).1
def Li.set{xs ys:T6}(h:Li M c xs):Li (M.set c<|cI ys) c ys/\Oth c M (M.set c<|cI ys):=
 ⟨by unfold Li;rw[F0 h.lt],by rw[Z6],λi hi=>by rw[F6 (Y6 hi)]⟩
def Li.oth{d:Nat}{xs:T6}(h:Li M c xs)(o:Oth d M M')(ne:c≠d):Li M' c xs:=by unfold Li;rw[o.at_ c ne];exact h
def Li.app{xs:T6}(h:Li M c xs):Li (M++L) c xs:=by unfold Li;rw[Y0 h.lt];exact h
def Li.ty{xs:T6}(h:Li M c xs):tyB "list" M (.c c)=true:=by
 unfold Li at h;simp only[tyB,h];decide
def Li.ln{xs:T6}(h:Li M c xs):pO [.c c] M=Z (I xs.length,M):=by
 unfold Li at h;simp only[pO,h,A6]
def aQg{o:Type}{xs:Tv o}{p:Int}(h:Inn xs.length p):∃z,atI xs p=Z z/\z∈xs:=by
 obtain⟨q,rfl⟩:∃q:Nat,p=(q:Nat):=⟨p.toNat,61⟩;have k:q<xs.length:=61
 exact⟨xs[q],lM<|C0 k,U9 k⟩
def Li.ix{xs:T6}{p:Int}(h:Li M c xs)(t:Inn xs.length p):∃z,ixF (.c c) (I p) M=Z (I z,M):=by
 let⟨z,k,o⟩:=aQg (xs:=xs.map λi=>I i) (by simp;omega);let⟨y,_,rfl⟩:=D3.mp o;refine⟨y,?_⟩;unfold Li at h;simp only[ixF,h,k,A2]
def Li.put{xs:T6}{p:Int}(h:Li M c xs)(k:Inn xs.length p):∃ys,ys.length=xs.length/\EV (.c c) (I p) (I z) M=Z (M.set c<|cI ys):=by
 obtain⟨q,rfl⟩:∃q:Nat,p=(q:Nat):=⟨p.toNat,61⟩;refine⟨xs.set q z,by rw[Z6],?_⟩
 have hn:ixN (xs.map λi=>I i).length (q:Int)=Z q:=by
  unfold ixN;rw[A8 (Int.natCast_nonneg q),A8 68,U1]
 unfold Li at h;simp only[EV,h,hn,A2,cI,List.map_set]
def Li.push{xs:T6}(h:Li M c xs)(k:xs.length<1000):eZ (.c c) [I z] M=Z (.d .none,M.set c<|cI (xs++[z])):=by
 have l:(xs.map λi=>I i).length<bv:=by rw[A6,J7];omega
 unfold Li at h;simp only[eZ,h,A8 l,cI,E3,List.map_singleton]
def Li.pop{xs:T6}(h:Li M c (xs++[z])):FB (.c c) [] M=Z (I z,M.set c<|cI xs):=by
 have k:((xs++[z]).map λi=>I i)[((xs++[z]).map λi=>I i).length-1]?=Z (I z):=by
  rw[A6,B6,E9,Nat.add_sub_cancel,D7,Z3<|B3 _,A1u];rfl
 have o:((xs++[z]).map λi=>I i).dropLast=xs.map λi=>I i:=by
  rw[E3,List.map_singleton,List.dropLast_concat]
 unfold Li at h;simp only[FB,h,k,o,A2]
def Rn(x:Int):Prop:=0<=x/\x<2147483647
def aFO(h:0<b)(k:b<=2147483647):Rn (y % b):=⟨Y7 _ 61,Int.lt_of_lt_of_le (S7 _ h) k⟩
def Dk(M:Sto)(c m:Nat):Prop:=∃xs,Li M c xs/\m<=xs.length/\∀x∈xs,Rn x
def Dk.app(h:Dk M c m):Dk (M++L) c m:=let⟨xs,a,b⟩:=h;⟨xs,a.app,b⟩
def Dk.pop(h:Dk M c (m+1)):∃z M',FB (.c c) [] M=Z (I z,M')/\Dk M' c m/\Oth c M M'/\Rn z:=by
 let⟨xs,a,b,r⟩:=h;obtain rfl|⟨ys,z,rfl⟩:=List.eq_nil_or_concat xs
 .simp at b
 .rw[List.concat_eq_append]at a b r;rw[B6,E9]at b;exact⟨z,_,a.pop,⟨ys,(a.set).1,61,λx k=>r x<|E2 _ k⟩,(a.set).2,r z 67⟩
def Dk.ty(h:Dk M c m):tyB "list" M (.c c)=true:=let⟨_,a,_⟩:=h;a.ty
def yC(lo:Int)(n:Nat):iB lo (n+1)=I lo::iB (lo+1) n:=by
 unfold iB;rw[List.range_succ_eq_map,C6,J0];refine congr (Z7 List.cons ?_) (O8 λk _=>?_)
 .show CD.d (.int (lo+((0:Nat):Int)))=I lo;rw[show lo+((0:Nat):Int)=lo by omega]
 .show CD.d (.int (lo+((k+1:Nat):Int)))=.d (.int (lo+1+(k:Nat)));rw[show lo+((k+1:Nat):Int)=lo+1+(k:Nat)by omega]
def aFP(h:i.natAbs<2 ^ 64):lZ i j=true:=by unfold lZ;rw[B8 h];rfl
def mul_r(h:j.natAbs<2 ^ 64):lZ i j=true:=by unfold lZ;rw[B8 h,Bool.or_true];rfl
def nab(h:0<=z)(k:z<b)(o:b<=2 ^ 62):z.natAbs<2 ^ 64:=61
abbrev GD(s many:CD)(r d:Nat)(o:Int)(k at_ one:Te):Ga:=[Z s,Z many,Z (.c r),Z<|I o,Z (.c d),k,at_,one]
def aBh{s:CD}{r d:Nat}{k:Int}{xs ds:T6}{g6 W:Te}(C:Li M r xs)(hd:Li M d ds)(ne:r≠d)(x0:0<xs.length)(U:ds.length<1000)(X:0<=k)(k1:k<1000)(rd:∀x∈ds,Rn x):
 ∃D A H K M',eS (GD s many r d o (Z<|I k) g6 W) M=Z (.nx (GD s many r d o (Z<|I k) H K),M')/\Li M' r D/\Li M' d A/\D.length=xs.length/\A.length=ds.length+1/\∀x∈A,Rn x:=by
 have u:∀y,Rn y->∀x∈ds++[y],Rn x:=λy hy x hx=>by
  obtain h|h:=D5.mp hx
  .exact rd x h
  .rw[B4.mp h];exact hy
 have ln:=C.ln;have O:=Y7 k (show(xs.length:Int)≠0 by omega);have P:=S7 k (show(0:Int)<xs.length by omega);let⟨z,ix⟩:=C.ix ⟨O,P⟩;have Q:nD k xs.length=true:=fB 61;have V:∀y,nD y 1000000=true:=λy=>fB 66;have m3:∀y,nD y 2147483629=true:=λy=>fB 66;have m4:∀y,nD y 2147483647=true:=λy=>fB 66;have m5:∀y,nD y 4=true:=λy=>fB 66;have dv:∀y,vQ y 1000000=true:=λy=>uT 66<|wsm 66 66;let⟨ys,yl,st⟩:=C.put (z:=z / 1000000) ⟨O,P⟩;generalize (xs.length:Int)=J at ln O P ix Q st;cases h:(o==0)with
 |true=>
  let⟨c,hc,E⟩:=DE (ds:=([.int 48271,.int 69621,.int 39373,.int 40692]:T3)) (m:=4) 66 rfl
  obtain⟨B,rfl,R⟩:∃v:Int,c=.int v/\v.natAbs<2 ^ 64:=by
   simp only[C1,Y9,A2e]at E;obtain rfl|rfl|rfl|rfl:=E<;>exact⟨_,rfl,66⟩
  have xk:ixF (.d (.list [.int 48271,.int 69621,.int 39373,.int 40692])) (I (k % 4)) M=Z (I B,M):=by
   show(atI [PyData.int 48271,.int 69621,.int 39373,.int 40692] (k % 4)).bind _=_;rw[hc];rfl
  have q1:lZ k k=true:=aFP<|nab X k1 66;have q2:lZ (k*k) 16807=true:=mul_r 66;have q3:lZ 3 k=true:=aFP 66;have q4:∀y,lZ y B=true:=λy=>mul_r R;have a1:∀i j:Int,dP (I i) (I j) M=Z (I (i+j),M):=λi j=>rfl;have q5:∀y,lZ (y % 2147483647) (y % 2147483647)=true:=λy=>aFP<|nab (Y7 _ 66) (S7 _ 66) 66;generalize hv:(z+k*k*16807+3*k) % 2147483629=G;have T:=λy=>hd.push (z:=y) U;refine⟨xs,ds++[(G*B+7) % 2147483647*((G*B+7) % 2147483647) % 2147483629],Z<|I (k % J),Z<|I ((G*B+7) % 2147483647*((G*B+7) % 2147483647) % 2147483629),_,?_,C.oth (hd.set).2 ne,(hd.set).1,rfl,by rw[B6,E9],u _<|aFO 66 66⟩;simp![eS,ln,Q,V,ix,NV,h,q1,q2,q3,a1,m3,hv,DN,m5,xk,q4,m4,q5,fS,hd.ty,T]
 |false=>
  have F:=C.set (ys:=ys);have t:=hd.oth F.2<|Y6 ne;have T:=t.push (z:=z % 1000000) U;refine⟨ys,ds++[z % 1000000],Z<|I (k % J),Z<|I (z % 1000000),_,?_,F.1.oth (t.set).2 ne,(t.set).1,yl,by rw[B6,E9],u _<|aFO 66 66⟩;simp![eS,ln,Q,V,ix,NV,h,dv,st,fS,t.ty,T]
theorem IU{s:CD}{r d:Nat}:∀(m:Nat)(k:Int)(M:Sto)(xs ds:T6)(g5 g6 u:Te),Li M r xs->Li M d ds->r≠d->0<xs.length->0<=k->k+m<900->ds.length+m<900->(∀x∈ds,Rn x)->
 ∃h A B C M',mH (cq 5) eS (iB k m) (GD s many r d o g5 g6 u) M=Z (.nx (GD s many r d o A B C),M')/\Li M' d h/\h.length=ds.length+m/\∀x∈h,Rn x
 |0=>λk M xs ds g5 g6 u G hd ne H K _ _ D=>⟨ds,g5,g6,u,M,rfl,hd,rfl,D⟩
 |m+1=>λk M xs ds g5 g6 u G hd ne H K X hl D=>by
  let⟨E,F,O,P,M1,t,Q,R,h3,h4,T⟩:=aBh G hd ne H 61 K 61 D;let⟨h,U,b6,b7,M',l,V,h6,W⟩:=IU m (k+1) M1 E F (Z<|I k) O P Q R ne 61 61 61 61 T;refine⟨h,U,b6,b7,M',?_,V,61,W⟩;rw[yC,pG rfl t];exact l
theorem GZ(n:Nat)(M:Sto):∀ns:T6,uB n M (ns.map λi=>I i)=Z (ns.map .int)
 |[]=>by unfold uB;rfl
 |i::ns=>by
  rw[C6];unfold uB;rw[TU,A2,GZ n M ns];rfl
theorem oE:∀ns:T6,PyData.canLayAll0 (ns.map .int)=true
 |[]=>rfl
 |n::ns=>by show(true&&PyData.canLayAll0 (ns.map .int))=true;rw[oE ns];rfl
theorem lV:∀ns:T6,PyData.depthAll (ns.map .int)=0
 |[]=>rfl
 |n::ns=>by show max 0 (PyData.depthAll<|ns.map .int)=0;rw[lV ns];rfl
def HQ(ns:T6):cj (.list (ns.map .int))=true:=by
 unfold cj;have h:PyData.canLay0 (.list (ns.map .int))=true:=oE ns;have k:PyData.depth (.list (ns.map .int))=1:=by show PyData.depthAll (ns.map .int)+1=1;rw[lV]
 rw[h,k];rfl
def aHg(h:Li M c ns):eqY false (.c c) (.d (.list [])) M=Z (B ns.isEmpty,M):=by
 have s1:snap 5 M (.c c)=Z (.list (ns.map .int)):=by
  unfold snap;rw[h];show(uB 4 M (ns.map λi=>I i)).bind _=_;rw[GZ];rfl
 have s2:snap 5 M (.d (.list []))=Z (.list []):=by rw[TU]
 show eqC false (.c c) (.d (.list [])) M=_;unfold eqC;rw[s1,A2,s2,A2,HQ,show cj (.list [])=true from rfl];cases ns<;>rfl
def aPG{x:CD}(sm:cW J=true):gL xq0 (x::Z (I J)::γ) M=Z (iB 0 J.toNat,M):=by
 simp![gL,sm]
def aKH(ns:T6):∃c M,sN [.d (.list (ns.map .int)),I 480] []=Z (.c c,M)/\Dk M c 480:=by
 have t:(0:Nat)<=bv:=E6 _;have s1:(1:Nat)<=bv:=66
 have st:∀(r:Nat)(M:Sto)(xs:T6),Li M r xs->0<xs.length->∃c M',(bC (bA aKk<|cq 3)
 (bC aOW
 (bC (bA (rS aN)<|cq 4)
 (bC (uA (gL xq0) (cq 5) eS)
 (bC (mG<|fS "list" lT (aE 4) aN)
 (cF (aE 4))))))) [Z (.d (.list (ns.map .int))),Z (I 480),Z (.c r),Y,Y,Y,Y,Y] M=Z (.rt (.c c),M')/\Dk M' c 480:=by
  intro r M xs k x0;let⟨z,ix⟩:=k.ix (p:=0) ⟨66,61⟩;have K:∀y,nD y 2=true:=λy=>fB 66;have O:∀y,vQ y 2=true:=λy=>uT 66<|wsm 66 66;let⟨ys,yl,pt⟩:=k.put (p:=0) (z:=z / 2) ⟨66,61⟩;have u:=(k.set (ys:=ys)).1;have A:=u.app (L:=[Cell.lst []]);have G:(M.set r<|cI ys).length=M.length:=by rw[Z6]
  have hd:Li (M.set r (cI ys)++[Cell.lst []]) M.length []:=by
   unfold Li;rw[<- G,Z3<|B3 _,A1u];rfl
  have rl:=k.lt;let⟨ds,a5,a6,a7,M',P,h,Q,R⟩:=IU 480 0 _ ys [] Y Y Y A hd 61 61 66 66 66 (λx B=>by simp at B);have T:gL xq0 (GD (.d (.list (ns.map .int))) (I 480) r M.length (z % 2) Y Y Y) (M.set r (cI ys)++[Cell.lst []])=Z (iB 0 480,M.set r (cI ys)++[Cell.lst []]):=aPG 66;have U:=mU T P
  have V:lT (.c M.length) [] M'=Z (.d .none,M'.set M.length<|cI ds.reverse):=by
   have:=h;unfold Li at this;simp only[lT,this];rw[cI,List.map_reverse]
  refine⟨M.length,M'.set M.length<|cI ds.reverse,?_,ds.reverse,(h.set).1,by rw[Y2,Q];exact B3 _,λx B=>R x<|List.mem_reverse.mp B⟩
  have W:bA aKk (cq 3) [Z (.d (.list (ns.map .int))),Z<|I 480,Z (.c r),Y,Y,Y,Y,Y] M=Z (.nx [Z (.d (.list (ns.map .int))),Z<|I 480,Z (.c r),Z<|I (z % 2),Y,Y,Y,Y],M):=by
   simp![ix,K]
  have X:bA (fOp kY aCT<|fC (.int 2)) (hSub (aE 2) (fC (.int 0)) EV) [Z (.d (.list (ns.map .int))),Z<|I 480,Z (.c r),Z<|I (z % 2),Y,Y,Y,Y] M=Z (.nx [Z (.d (.list (ns.map .int))),Z<|I 480,Z (.c r),Z<|I (z % 2),Y,Y,Y,Y],M.set r<|cI ys):=by
   simp![ix,O,pt]
  have a3:bA (rS aN) (cq 4) [Z (.d (.list (ns.map .int))),Z<|I 480,Z (.c r),Z<|I (z % 2),Y,Y,Y,Y] (M.set r<|cI ys)=Z (.nx (GD (.d (.list (ns.map .int))) (I 480) r M.length (z % 2) Y Y Y),M.set r (cI ys)++[Cell.lst []]):=by
   simp![t,G]
  rw[aQ W,aQ X,aQ a3,aQ U];simp![fS,h.ty,V]
 have l0:IT [.d (.list (ns.map .int))] []=Z (.c 0,[cI ns]):=by
  show Z (CD.c 0,[]++[Cell.lst ((ns.map PyData.int).map .d)])=_;rw[J0];rfl
 have h0:Li [cI ns] 0 ns:=rfl;have o:=aHg h0
 have H:bA (aM IT xq4) (cq 2) [Z (.d (.list (ns.map .int))),Z<|I 480,Y,Y,Y,Y,Y,Y] []=Z (.nx [Z (.d (.list (ns.map .int))),Z<|I 480,Z (.c 0),Y,Y,Y,Y,Y],[cI ns]):=by
  simp![l0]
 cases C:ns.isEmpty with
 |true=>
  rw[C]at o;let⟨c,M',D,E⟩:=st 1 ([cI ns]++[cI [4]]) [4] rfl 66;refine⟨c,M',gK rfl ?_,E⟩
  have F:sIf aKt aLc cJ [Z (.d (.list (ns.map .int))),Z<|I 480,Z (.c 0),Y,Y,Y,Y,Y] [cI ns]=Z (.nx [Z (.d (.list (ns.map .int))),Z<|I 480,Z (.c 1),Y,Y,Y,Y,Y],[cI ns]++[cI [4]]):=by
   simp![t,s1,o];rfl
  show bC _ _ [Z (.d (.list (ns.map .int))),Z<|I 480,Y,Y,Y,Y,Y,Y] []=_;rw[aQ H,aQ F];exact D
 |false=>
  rw[C]at o;let⟨c,M',D,E⟩:=st 0 [cI ns] ns rfl (by cases ns with|nil=>cases C|cons _ _=>simp);refine⟨c,M',gK rfl ?_,E⟩
  have F:sIf aKt aLc cJ [Z (.d (.list (ns.map .int))),Z<|I 480,Z (.c 0),Y,Y,Y,Y,Y] [cI ns]=Z (.nx [Z (.d (.list (ns.map .int))),Z<|I 480,Z (.c 0),Y,Y,Y,Y,Y],[cI ns]):=by
   simp![t,s1,o]
  show bC _ _ [Z (.d (.list (ns.map .int))),Z<|I 480,Y,Y,Y,Y,Y,Y] []=_;rw[aQ H,aQ F];exact D
structure Ex(c:Nat)(M M':Sto):Prop where
 len:M.length<=M'.length
 at_:∀i,i<M.length->i≠c->M'[i]?=M[i]?
def Ex.refl(c:Nat)(M:Sto):Ex c M M:=⟨B3 _,λ_ _ _=>rfl⟩
def Ex.trans{M1 M2:Sto}(a:Ex c M M1)(b:Ex c M1 M2):Ex c M M2:=⟨C5 a.len b.len,λi h n=>(b.at_ i (C9 h a.len) n).trans (a.at_ i h n)⟩
def Oth.ex(o:Oth c M M'):Ex c M M':=⟨Nat.le_of_eq o.len.symm,λi _ n=>o.at_ i n⟩
def Ex.app(c:Nat)(M L:Sto):Ex c M (M++L):=⟨by rw[B6];omega,λi h _=>Y0 h⟩
def Ex.to{i:Nat}{x:Cell}(e:Ex c M M')(h:M[i]?=Z x)(n:i≠c):M'[i]?=Z x:=by rw[e.at_ i (B9.mp h).1 n];exact h
def Ex.put{j:Nat}{x:Cell}(e:Ex c M M')(h:M.length<=j):Ex c M (M'.set j x):=⟨by rw[Z6];exact e.len,λi hi n=>by rw[F6 61];exact e.at_ i hi n⟩
def Dk.le(h:Dk M c m)(l:n<=m):Dk M c n:=let⟨xs,a,b,r⟩:=h;⟨xs,a,C5 l b,r⟩
def Dk.lt(h:Dk M c m):c<M.length:=let⟨_,a,_⟩:=h;a.lt
def Dk.put{j:Nat}{x:Cell}(h:Dk M c m)(n:j≠c):Dk (M.set j x) c m:=let⟨xs,a,b⟩:=h;⟨xs,by unfold Li;rw[F6 n];exact a,b⟩
def Dk.popE(h:Dk M c (m+1)):∃z M',FB (.c c) [] M=Z (I z,M')/\Dk M' c m/\Ex c M M'/\Rn z:=let⟨z,M',a,b,d,r⟩:=h.pop;⟨z,M',a,b,d.ex,r⟩
def pop_at(k:γ[v]?=Z (Z (.c c)))(ty:tyB "list" M (.c c)=true)(h:FB (.c c) [] M=Z (I z,M')):fS "list" FB (aE v) aN γ M=Z (I z,M'):=by
 simp only[fS,aE,k,aN,A2,ty,A0g,h]
theorem uZ{g:GF}{b:SF}{n:Nat}{Inv:Nat->Ga->Sto->Prop}(step:∀k,k<n->∀γ M,Inv k γ M->∃γ1 γ' M',g (I (k:Nat)) γ M=Z (γ1,M)/\b γ1 M=Z (.nx γ',M')/\Inv (k+1) γ' M'):
 ∀(m k:Nat)(γ:Ga)(M:Sto),k+m=n->Inv k γ M->∃γ' M',mH g b (iB (k:Nat) m) γ M=Z (.nx γ',M')/\Inv n γ' M'
 |0=>λk γ M h i=>⟨γ,M,rfl,by rw[<- h];exact i⟩
 |m+1=>λk γ M h i=>by
  let⟨γ1,o,M1,t,u,i1⟩:=step k 61 γ M i;let⟨γ',M',A,i2⟩:=uZ step m (k+1) o M1 61 i1;refine⟨γ',M',?_,i2⟩;rw[yC,pG t u,show((k:Nat):Int)+1=((k+1:Nat):Int)by omega];exact A
theorem LM{g:GF}{c:TF}{e:EF}{X E:CD->Prop}{Inv:Nat->Ga->Sto->Prop}
 (step:∀m x γ M,X x->Inv (m+1) γ M->∃γ1,g x γ M=Z (γ1,M)/\∃b M2,c γ1 M=Z (b,M2)/\(b=false->Inv m γ1 M2)/\(b=true->∃y M3,e γ1 M2=Z (y,M3)/\E y/\Inv m γ1 M3)):
 ∀(xs:T5)(γ:Ga)(M:Sto),(∀x∈xs,X x)->Inv xs.length γ M->∃ys γ' M',lcF g c e xs γ M=Z (ys,M')/\(∀y∈ys,E y)/\ys.length<=xs.length/\Inv 0 γ' M'
 |[]=>λγ M _ i=>⟨[],γ,M,rfl,λy h=>by simp at h,B3 _,i⟩
 |x::xs=>λγ M o i=>by
  let⟨γ1,C,b,M2,D,F,ht⟩:=step _ x γ M (o x B0) i;cases b with
  |false=>
   let⟨ys,γ',M',t,u,A,B⟩:=LM step xs γ1 M2 (λy k=>o y<|A7 _ k)<|F rfl;refine⟨ys,γ',M',?_,u,Nat.le_succ_of_le A,B⟩;simp only[lcF,C,A2,D,A0l,A2p,t]
  |true=>
   let⟨y,M3,G,k,H⟩:=ht rfl;let⟨ys,γ',M',t,u,A,B⟩:=LM step xs γ1 M3 (λy k=>o y<|A7 _ k) H;refine⟨y::ys,γ',M',?_,λz hz=>?_,Nat.succ_le_succ A,B⟩
   .simp only[lcF,C,A2,D,A0g,G,t]
   .obtain rfl|hz:=C1.mp hz
    .exact k
    .exact u z hz
def Rg(lo hi:Int)(x:CD):Prop:=∃k:Int,x=I k/\lo<=k/\k<hi
def pY{lo:Int}{n:Nat}:∀x∈iB lo n,Rg lo (lo+n) x:=λx h=>by
 let⟨k,o,rfl⟩:=D3.mp h;have:=E4.mp o;exact⟨lo+(k:Nat),rfl,61,61⟩
def dO(lo:Int)(n:Nat):(iB lo n).length=n:=by unfold iB;rw[A6,O0]
def aEa(h:fa γ M=Z ([I J],M))(sm:cW J=true):gL fa γ M=Z (iB 0 J.toNat,M):=by
 simp only[gL,h,A2,sm,A0g]
def aHr(h:fa γ M=Z ([I i,I j],M))(s1:cW i=true)(s2:cW j=true):BN fa γ M=Z (iB i (j-i).toNat,M):=by
 simp only[BN,h,A2];rw[A8 ⟨s1,s2⟩]
def JT(h:-1000<=i)(k:i<=1000):cW i=true:=by
 unfold cW;rw[A9];exact⟨B8 61,B8 61⟩
def aDF{f:AF}{c:TF}{M1 M2:Sto}{ys:T5}(it:f γ M=Z (xs,M1))(h:xs.length<=1000)(l:lcF g c e xs (qI cap γ) M1=Z (ys,M2))(k:ys.length<=1000):HX cap f g c e γ M=Z (.c M2.length,M2++[.lst ys]):=by
 unfold HX rS BL;rw[it,A2,A8<|sz h,l,A2,A8<|sz k]
def kN{f:AF}{c:TF}{M1 M2:Sto}(it:f γ M=Z (xs,M1))(h:xs.length<=1000)(l:lcF g c e xs (qI cap γ) M1=Z (ds.map .d,M2))(k:ds.length<=1000):fLc cap f g c e γ M=Z (.d (.list ds),M2):=aCf it (sz h) l<|sz k
theorem MN{E:Ua->Prop}:∀{ys:T5},(∀y∈ys,∃d,y=.d d/\E d)->∃ds:T3,ys=ds.map .d/\∀d∈ds,E d
 |[]=>λ_=>⟨[],rfl,λd h=>by simp at h⟩
 |y::ys=>λh=>by
  let⟨d,rfl,hd⟩:=h y B0;let⟨ds,rfl,hs⟩:=MN λz hz=>h z<|A7 _ hz;refine⟨d::ds,rfl,λz hz=>?_⟩;obtain rfl|hz:=C1.mp hz
  .exact hd
  .exact hs z hz
def gR{x:CD}(h:f γ M=Z (x,M')):cF f γ M=Z (.rt x,M'):=by
 unfold cF;rw[h,A2]
def CC(h:f γ M=Z (.d d,M'))(e:aR d=Z ds):cQ f γ M=Z (ds.map .d,M'):=by
 simp only[cQ,h,A2,e]
theorem EB{o:Type}{i:Nat}{c:TF}{e:EF}{k:Ga}{M:Sto}(f:o->CD)(p:o->Bool)(h:o->Ua):∀(xs:Tv o)(γ:Ga),(∀y,γ.set i y=k.set i y)->(∀x∈xs,c (k.set i<|Z<|f x) M=Z (p x,M)/\(p x=true->e (k.set i<|Z<|f x) M=Z (.d (h x),M)))->lcF (cq i) c e (xs.map f) γ M=Z (((xs.filter p).map h).map .d,M)
 |[]=>λγ _ _=>rfl
 |x::xs=>λγ t u=>by
  let⟨A,B⟩:=u x B0;have ih:=EB f p h xs (k.set i<|Z<|f x) (λy=>List.set_set ..) (λy C=>u y<|A7 _ C);rw[C6];unfold lcF;rw[show cq i (f x) γ M=Z (k.set i<|Z<|f x,M)by unfold cq;rw[t],A2];rw[A,A2];dsimp only;cases q:p x with
  |false=>rw[B7 66,ih,U5 68]
  |true=>
   rw[A8 rfl,B q,A2];rw[ih,U4 q];rfl
def aMW{o:Type}{i:Nat}{k:Ga}(f:o->CD)(h:o->Ua)(xs:Tv o)(t:∀x∈xs,e (k.set i<|Z<|f x) M=Z (.d (h x),M)):lcF (cq i) cK e (xs.map f) k M=Z ((xs.map h).map .d,M):=by
 have:=EB (c:=cK) f (λ_=>true) h xs k 65 λx u=>⟨rfl,λ_=>t x u⟩
 rwa [List.filter_eq_self.mpr λ_ _=>rfl]at this
def aCS{i:Nat}{ds:T3}{h:Ua->Ua}(k:f γ M=Z (.d d,M))(hd:aR d=Z ds)(t:ds.length<=900)(o:∀x∈ds,e ((qI cap γ).set i (Z (.d x))) M=Z (.d (h x),M)):
 fLc cap (cQ f) (cq i) cK e γ M=Z (.d (.list (ds.map h)),M):=
 kN (CC k hd) 68 (aMW CD.d h ds o) 68
def aOS:gtI (I i) (I j) M=Z (B<|decide (j<i),M):=rfl
def OE{e:Ua}(hd:aR d=Z ds)(h:atI ds i=Z e):ixF (.d d) (I i) M=Z (.d e,M):=by
 show(aR d).bind _=_;rw[hd,A2,h];rfl
def aQR{h:Type}(x:h)(r:Tv h):atI (x::r) 0=Z x:=lM rfl
def aQN{h:Type}(x y:h)(r:Tv h):atI (x::y::r) 1=Z y:=lM (k:=1) rfl
def rX{i:Nat}{x:CD}(h:γ[i]?=Z (Z x)):aE i γ M=Z (x,M):=by simp only[aE,h]
def xY{h:FM}{M1 M2:Sto}{x y:CD}(k:f γ M=Z (x,M1))(ty:tyB T M1 x=true)(ha:fa γ M1=Z (xs,M2))(e:h x xs M2=Z (y,M3)):fS T h f fa γ M=Z (y,M3):=by
 unfold fS;rw[k,A2];rw[A8 ty,ha,A2];exact e
def yG{M1:Sto}{x:CD}(h:f γ M=Z (x,M1)):mG f γ M=Z (.nx γ,M1):=by
 unfold mG;rw[h,A2]
def wG{M1:Sto}(h:f γ M=Z (I z,M1))(k:0<b):fOp dJ f (fC (.int b)) γ M=Z (I (z % b),M1):=by
 refine bF h rfl ?_;show(ifS (nD z b) (.int (z % b))).bind _=_;rw[fB k];rfl
def aDD(h:M[c]?=Z (.lst xs)):tyB "list" M (.c c)=true:=by simp only[tyB,h];decide
def HI{y:CD}(h:M[c]?=Z (.lst xs))(k:xs.length<900):eZ (.c c) [y] M=Z (.d .none,M.set c (.lst (xs++[y]))):=by
 have l:xs.length<bv:=by rw[J7];omega
 simp only[eZ,h,A8 l]
def NF{f:AF}{M1:Sto}(h:f γ M=Z (xs,M1))(k:xs.length<=900):rS f γ M=Z (.c M1.length,M1++[.lst xs]):=by
 unfold rS;rw[h,A2];exact A8<|sz (show xs.length<=1000 by omega)
def AL{M1:Sto}(h:f γ M=Z (I z,M1))(k:0<b)(o:b<2 ^ 200):fOp kY f (fC (.int b)) γ M=Z (I (z / b),M1):=by
 refine bF h rfl ?_;show(ifS (vQ z b) (.int (z / b))).bind _=_;rw[uT k (wsm 61 o)];rfl
def aOr{l u:OF}{x r:CD}{p q:Tk}(k:f γ M=Z (x,M))(o:l γ M=Z (p,M))(t:u γ M=Z (q,M))(h:slF x p q M=Z (r,M)):fSl f l u γ M=Z (r,M):=by
 unfold fSl;rw[k,A2];rw[o,A2];rw[t,A2];exact h
def aER:ltI (I i) (I j) M=Z (B<|decide (i<j),M):=rfl
def jM{g:EF}{M1 M2:Sto}(h:f γ M=Z (I z,M1))(k:g γ M1=Z (I b,M2))(o:0<b):fOp dJ f g γ M=Z (I (z % b),M2):=by
 refine bF h k ?_;have:=fB (x:=z) o;show pI (λi j=>ifS (nD i j)<|PyData.int (i % j)) (I z) (I b) M2=_;simp only[pI,ifS,this,A0g,A2]
def aNz{M1:Sto}(h:f γ M=Z (.c c,M1))(k:M1[c]?=Z (.lst (ds.map .d))):yF f γ M=Z (.d (.list ds),M1.set c .dead):=by
 unfold yF;rw[h,A2];dsimp only;rw[k];dsimp only;rw[lU,A2]
theorem aDk{k:Type}{g:GF}{e:EF}{M:Sto}{Inv:Ga->Prop}(f:k->CD)(h:k->Ua):∀(xs:Tv k),(∀x∈xs,∀γ,Inv γ->∃γ1,g (f x) γ M=Z (γ1,M)/\e γ1 M=Z (.d (h x),M)/\Inv γ1)->∀γ,Inv γ->lcF g cK e (xs.map f) γ M=Z ((xs.map h).map .d,M)
 |[]=>λ_ _ _=>rfl
 |x::xs=>λst γ i=>by
  let⟨γ1,o,t,u⟩:=st x B0 γ i;have ih:=aDk f h xs (λy A=>st y<|A7 _ A) γ1 u;rw[C6];unfold lcF;rw[o,A2];dsimp only[cK];rw[A2,A8 rfl,t,A2];rw[ih];rfl
def rn1(h:fa γ M=Z ([I J],M))(k:-1000<=J)(o:J<=1000):gL fa γ M=Z (iB 0 J.toNat,M):=aEa h<|JT k o
def rn2(h:fa γ M=Z ([I i,I j],M))(k:-1000<=i/\i<=1000)(o:-1000<=j/\j<=1000):BN fa γ M=Z (iB i (j-i).toNat,M):=aHr h (JT k.1 k.2)<|JT o.1 o.2
def YZ{g:EF}{M1 M2:Sto}{y:Ua}(h:f γ M=Z (.d x,M1))(k:g γ M1=Z (.d y,M2)):bG (aC f<|aC g aN) γ M=Z (.d (.tuple [x,y]),M2):=by
 unfold bG;rw[aF h (aF k aP),A2];show(if 2<=bv then Z (CD.d (.tuple [x,y]),M2)else Y)=_;rw[A8 (sz 66)]
noncomputable abbrev pD(p:Int×Int):Ua:=.tuple [.int p.1,.int p.2]
abbrev pT(p:Int×Int):CD:=.d (pD p)
def jW{g:EF}{x:Int}(h:f γ M=Z (I x,M))(k:g γ M=Z (I y,M)):bG (aC f<|aC g aN) γ M=Z (pT (x,y),M):=YZ h k
def aKF:VH (I i) (I j) M=Z (I (i-j),M):=rfl
def YN(h:f γ M=Z (.d x,M)):fI (aC f aN) γ M=Z (.d (.list [x]),M):=by
 unfold fI;rw[aF h aP,A2];show(if 1<=bv then Z (CD.d (.list [x]),M)else Y)=_;rw[A8 (sz 66)]
def aOv{a b:Bool}:eqX false (B a) (B b) M=Z (B (a==b),M):=by cases a<;>cases b<;>rfl
def PrE(n:Nat)(x:CD):Prop:=∃p:Int×Int,x=pT p/\(0<=p.1/\p.1<n)/\(0<=p.2/\p.2<n)
def pre_of(h:0<=i/\i<n)(k:0<=j/\j<n):PrE n (pT (i,j)):=⟨(i,j),rfl,h,k⟩
def em(h:0<n):0<=z % (n:Int)/\z % (n:Int)<n:=⟨Y7 _ 61,S7 _ 61⟩
def DJ{f:AF}{g:GF}{c:TF}{e:EF}{xs:T5}{X E:CD->Prop}{Inv:Nat->Ga->Sto->Prop}(it:f γ M=Z (xs,M))(u:xs.length<=100)(h:∀x∈xs,X x)
 (step:∀m x γ M,X x->Inv (m+1) γ M->∃γ1,g x γ M=Z (γ1,M)/\∃b M2,c γ1 M=Z (b,M2)/\(b=false->Inv m γ1 M2)/\(b=true->∃y M3,e γ1 M2=Z (y,M3)/\E y/\Inv m γ1 M3)) (k:Inv xs.length (qI cap γ) M):
 ∃ys M',HX cap f g c e γ M=Z (.c M'.length,M'++[.lst ys])/\(∀y∈ys,E y)/\ys.length<=xs.length/\∃γ',Inv 0 γ' M':=by
 let⟨ys,γ',M',l,o,t,i⟩:=LM step xs _ _ h k;exact⟨ys,M',aDF it 61 l 61,o,t,γ',i⟩
def DG{f:AF}{g:GF}{c:TF}{e:EF}{xs:T5}{X E:CD->Prop}{Inv:Nat->Ga->Sto->Prop}(it:f γ M=Z (xs,M))(A:xs.length<=100)(o:∀x∈xs,X x)(t:∀y,E y->∃d,y=.d d)
 (step:∀m x γ M,X x->Inv (m+1) γ M->∃γ1,g x γ M=Z (γ1,M)/\∃b M2,c γ1 M=Z (b,M2)/\(b=false->Inv m γ1 M2)/\(b=true->∃y M3,e γ1 M2=Z (y,M3)/\E y/\Inv m γ1 M3)) (u:Inv xs.length (qI cap γ) M):
 ∃ds M',fLc cap f g c e γ M=Z (.d (.list ds),M')/\(∀d∈ds,E (.d d))/\ds.length<=xs.length/\∃γ',Inv 0 γ' M':=by
 let⟨ys,γ',M',l,k,h,i⟩:=LM step xs _ _ o u
 let⟨ds,rfl,hd⟩:=MN λy h=>by
  let⟨d,rfl⟩:=t y<|k y h;exact⟨d,rfl,k _ h⟩
 rw[A6]at h;exact⟨ds,M',kN it 61 l 61,hd,h,γ',i⟩
def aAs(y:CD)(h:PrE n y):∃d,y=.d d:=let⟨p,e,_⟩:=h;⟨pD p,e⟩
structure PC(n c f q:Nat)(M0 M:Sto):Prop where
 at_:∃xs,M[f]?=Z (.lst xs)/\(∀x∈xs,PrE n x)/\xs.length<=q
 new:M0.length<=f
 ex:Ex c M0 M
def PC.le{f r:Nat}(h:PC n c f q M0 M)(l:q<=r):PC n c f r M0 M:=⟨let⟨xs,a,b,d⟩:=h.at_;⟨xs,a,b,C5 d l⟩,h.new,h.ex⟩
def AS{ys:T5}(ex:Ex c M0 M)(h:∀y∈ys,PrE n y)(l:ys.length<=q):PC n c M.length q M0 (M++[.lst ys]):=⟨⟨ys,iZ,h,l⟩,ex.len,ex.trans<|Ex.app _ _ _⟩
def aIv{f:Nat}(h:M[f]?=Z (.lst xs))(k:xs.length+ds.length<=900):NK (.c f) (.d (.list ds)) M=Z (.c M.length,M++[.lst (xs++ds.map .d)]):=by
 show(match M[f]? with|some (.lst xs)=>Z xs|_=>Y).bind _=_;rw[h];rw[A2];show(Z<|ds.map CD.d).bind _=_;rw[A2,A6,A8<|sz 61]
def FY{f r:Nat}{ds:T3}(h:PC n c f q M0 M)(hd:∀d∈ds,PrE n (.d d))(l:ds.length<=r)(o:q+r<=500):∃M',NK (.c f) (.d (.list ds)) M=Z (.c M.length,M')/\PC n c M.length (q+r) M0 M'/\∃L,M'=M++L:=by
 let⟨xs,a,b,d⟩:=h.at_;refine⟨_,aIv a 61,AS h.ex (λy hy=>?_) 68,_,rfl⟩;obtain hy|hy:=D5.mp hy
 .exact b y hy
 .let⟨e,k,rfl⟩:=D3.mp hy;exact hd e k
abbrev GP(c n:Nat)(k:Int)(g3 g4 g5 g6:Te):Ga:=[Z (.c c),Z<|I n,Z<|I k,g3,g4,g5,g6]
def knA(t:2<=n)(u:n<=8)(ex:Ex c M0 M):∃M',lY (GP c n k g3 g4 g5 g6) M=Z (.c M.length,M')/\PC n c M.length 8 M0 M'/\∃L,M'=M++L:=by
 have it:=rn1 (fa:=aC (aE 1) aN) (γ:=GP c n k g3 g4 g5 g6) (M:=M) (J:=(n:Int)) rfl 61 61;rw[U1]at it
 let⟨ys,M',e,h,l,γ',_,rfl⟩:=DJ (X:=Rg 0 (0+n)) (E:=PrE n) (Inv:=λ_ γ M1=>(∃s,γ=[Z (I n),s])/\M1=M) (cap:=[Z 1,Y]) (g:=cq 1) (c:=cK) (e:=bG aPe) it (by rw[dO];omega) pY (by
  rintro m x γ M1 ⟨j,rfl,o,A⟩ ⟨⟨s,rfl⟩,rfl⟩;exact⟨_,rfl,true,_,rfl,λh=>(nomatch h),λ_=>⟨_,_,jW rfl (jM (bF rfl rfl vU) rfl 61),pre_of ⟨o,61⟩ (em 61),⟨_,rfl⟩,rfl⟩⟩) ⟨⟨Y,rfl⟩,rfl⟩
 rw[dO]at l;exact⟨_,e,AS ex h 61,_,rfl⟩
def knB(o:2<=n)(t:n<=8)(ex:Ex c M0 M):∃M',tE (GP c n k g3 g4 g5 g6) M=Z (.c M.length,M')/\PC n c M.length 8 M0 M'/\∃L,M'=M++L:=by
 have it:=rn2 (fa:=aC (fC (.int 1)) xq0) (γ:=GP c n k g3 g4 g5 g6) (M:=M) rfl 61 61
 let⟨ys,M',e,h,l,γ',_,rfl⟩:=DJ (E:=PrE n) (Inv:=λ_ γ M1=>(∃s,γ=[s])/\M1=M) (cap:=[Y]) (g:=cq 0) (c:=cK) (e:=bG<|aC (fC (.int 0)) xq4) it (by rw[dO];omega) pY (by
  rintro m x γ M1 ⟨j,rfl,u,A⟩ ⟨⟨s,rfl⟩,rfl⟩;exact⟨_,rfl,true,_,rfl,λh=>(nomatch h),λ_=>⟨_,_,jW rfl rfl,pre_of 61 61,⟨_,rfl⟩,rfl⟩⟩) ⟨⟨Y,rfl⟩,rfl⟩
 rw[dO]at l;exact⟨_,e,AS ex h 61,_,rfl⟩
def knC(D:2<=n)(F:n<=8)(ex:Ex c M0 M)(dk:Dk M c (m+8)):∃e M',sX (GP c n k g3 g4 g5 g6) M=Z (.c e,M')/\PC n c e 8 M0 M'/\Dk M' c m:=by
 have it:=rn2 (fa:=aC (fC (.int 1)) xq0) (γ:=GP c n k g3 g4 g5 g6) (M:=M) rfl 61 61
 let⟨ys,M',e,h,l,γ',_,t,u⟩:=DJ (E:=PrE n) (Inv:=λj γ M1=>(∃s,γ=[Z (.c c),s])/\Dk M1 c (m+j)/\Ex c M M1) (cap:=[Z 0,Y]) (g:=cq 1) (c:=cK) (e:=bG<|aC aIE xq0) it (by rw[dO];omega) pY (by
  rintro j x γ M1 ⟨i,rfl,G,i1⟩ ⟨⟨s,rfl⟩,o,A⟩;let⟨z,M2,p,B,C,_⟩:=Dk.popE o;refine⟨_,rfl,true,M1,rfl,λh=>(nomatch h),λ_=>⟨pT (z % i,i),M2,YZ (jM (pop_at rfl o.ty p) rfl 61) rfl,pre_of ?_ 61,⟨_,rfl⟩,B,A.trans C⟩⟩;have:=Y7 z (show i≠0 by omega);have:=S7 z (show 0<i by omega);omega) ⟨⟨Y,rfl⟩,dk.le (by rw[dO];omega),Ex.refl _ _⟩
 rw[dO]at l;exact⟨_,_,e,AS (ex.trans u) h 61,t.app⟩
noncomputable def tri:Nat->Nat
 |0=>0
 |k+1=>tri k+k
def VE:∀{a b:Nat},a<=b->tri a<=tri b:=λ{a b} h=>by
 induction h with
 |refl=>exact B3 _
 |step _ ih=>exact C5 ih (by show tri _<=tri _+_;omega)
def PU(h:n<=8):tri n<=28:=C5 (VE h) 66
def knD{j:Nat}(o:n<=8)(t:j<n):∃ds,uF (GP c n k g3 g4 (Z<|I md)<|Z<|I j) M=Z (.d (.list ds),M)/\(∀d∈ds,PrE n (.d d))/\ds.length<=j:=by
 have it:=rn1 (fa:=aC (aE 6) aN) (γ:=GP c n k g3 g4 (Z<|I md)<|Z<|I j) (M:=M) rfl 61 61
 let⟨ds,M',e,h,l,γ',_,rfl⟩:=DG (E:=PrE n) (Inv:=λ_ γ M1=>(∃s,γ=[Z (I j),Z<|I md,s])/\M1=M) (cap:=[Z 6,Z 5,Y]) (g:=cq 2) (c:=gB<|fOp (eqX false) (fOp ltI (aE 2)<|aE 1) aEh) (e:=bG aIr) it (by rw[dO];omega) pY aAs (by
  rintro m x γ M1 ⟨i,rfl,u,A⟩ ⟨⟨s,rfl⟩,rfl⟩;exact⟨_,rfl,_,_,dN (bF (bF rfl rfl aER) (bF rfl rfl aER) aOv),λ_=>⟨⟨_,rfl⟩,rfl⟩,λ_=>⟨_,_,jW rfl rfl,pre_of 61 61,⟨_,rfl⟩,rfl⟩⟩) ⟨⟨Y,rfl⟩,rfl⟩
 rw[dO]at l;exact⟨ds,e,h,l⟩
def knE{j:Nat}(D:n<=8)(F:j<n)(dk:Dk M c (m+j)):∃ds M',sT (GP c n k g3 g4 g5<|Z<|I j) M=Z (.d (.list ds),M')/\(∀d∈ds,PrE n (.d d))/\ds.length<=j/\Dk M' c m/\Ex c M M':=by
 have it:=rn1 (fa:=aC (aE 6) aN) (γ:=GP c n k g3 g4 g5<|Z<|I j) (M:=M) rfl 61 61
 let⟨ds,M',e,h,l,γ',_,B,C⟩:=DG (E:=PrE n) (Inv:=λq γ M1=>(∃s,γ=[Z (I j),Z (.c c),s])/\Dk M1 c (m+q)/\Ex c M M1) (cap:=[Z 6,Z 0,Y]) (g:=cq 2) (c:=gB<|fOp gtI (fOp dJ aAX<|fC (.int 3))<|fC (.int 0)) (e:=bG aIr) it (by rw[dO];omega) pY aAs (by
  rintro q x γ M1 ⟨i,rfl,G,H⟩ ⟨⟨s,rfl⟩,o,t⟩;let⟨z,M2,p,u,A,_⟩:=Dk.popE o;exact⟨_,rfl,_,M2,dN (bF (wG (pop_at rfl o.ty p) 66) rfl aOS),λ_=>⟨⟨_,rfl⟩,u,t.trans A⟩,λ_=>⟨_,_,jW rfl rfl,pre_of 61 61,⟨_,rfl⟩,u,t.trans A⟩⟩) ⟨⟨Y,rfl⟩,by rw[dO];exact dk,Ex.refl _ _⟩
 rw[dO]at l;exact⟨ds,M',e,h,l,B,C⟩
def PC.to{f:Nat}(h:PC n c f q M0 M)(ex:Ex c M M')(ne:f≠c):PC n c f q M0 M':=⟨let⟨xs,a,b,d⟩:=h.at_;⟨xs,ex.to a ne,b,d⟩,h.new,h.ex.trans ex⟩
def aPv(o:n<=8){f0:Nat}(h:PC n c f0 0 M0 M)(dk:Dk M c m):∃f t M',mH (cq 6) nA (iB 0 n) (GP c n k (Z (.c f0)) g4 (Z<|I md) g6) M=Z (.nx (GP c n k (Z (.c f)) g4 (Z<|I md) t),M')/\PC n c f 28 M0 M'/\Dk M' c m:=by
 let⟨γ',M',e,⟨f,g,rfl,u⟩,A⟩:=uZ (g:=cq 6) (b:=nA) (Inv:=λq γ M=>(∃f g,γ=GP c n k (Z (.c f)) g4 (Z<|I md) g/\PC n c f (tri q) M0 M)/\Dk M c m) (by
  rintro q D γ M1 ⟨⟨f,g,rfl,u⟩,B⟩;let⟨ds,E,F,G⟩:=knD o D;have O:=PU o;have t1:=VE (show q+1<=n by omega);have t2:tri (q+1)=tri q+q:=rfl;let⟨M2,H,C,L,K⟩:=FY u F G 61;refine⟨_,_,M2,rfl,bH (bF rfl E H),⟨_,_,rfl,C⟩,?_⟩;rw[K];exact B.app) n 0 (GP c n k (Z (.c f0)) g4 (Z (I md)) g6) M 61 ⟨⟨_,_,rfl,h⟩,dk⟩
 exact⟨f,g,M',e,u.le<|PU o,A⟩
def aQA(o:n<=8){f0:Nat}(R:c<M0.length)(h:PC n c f0 0 M0 M)(dk:Dk M c (m+28)):∃f u M',mH (cq 6) nH (iB 0 n) (GP c n k (Z (.c f0)) g4 g5 g6) M=Z (.nx (GP c n k (Z (.c f)) g4 g5 u),M')/\PC n c f 28 M0 M'/\Dk M' c m:=by
 let⟨γ',M',e,⟨f,g,rfl,t⟩,r,F,A⟩:=uZ (g:=cq 6) (b:=nH) (n:=n) (Inv:=λq γ M=>(∃f g,γ=GP c n k (Z (.c f)) g4 g5 g/\PC n c f (tri q) M0 M)/\∃r,r+tri q=tri n/\Dk M c (m+r)) (by
  rintro q G γ M1 ⟨⟨f,g,rfl,t⟩,r,F,B⟩;have T:=PU o;have t1:=VE (show q+1<=n by omega);have t2:tri (q+1)=tri q+q:=rfl;let⟨ds,M2,H,I,K,C,D⟩:=knE o G (by rw[show m+(r-q)+q=m+r by omega];exact B);have O:f≠c:=by have:=t.new;omega
  let⟨M3,P,E,L,Q⟩:=FY (t.to D O) I K 61;refine⟨_,_,M3,rfl,bH (bF rfl H P),⟨_,_,rfl,E⟩,r-q,61,?_⟩;rw[Q];exact C.app) n 0 (GP c n k (Z (.c f0)) g4 g5 g6) M 61 ⟨⟨_,_,rfl,h⟩,tri n,by show tri n+0=tri n;omega,dk.le (by have:=PU o;omega)⟩
 exact⟨f,g,M',e,t.le<|PU o,A.le 61⟩
def knF(t:2<=n)(u:n<=8)(ex:Ex c M0 M):∃M',lX (GP c n k g3 g4 (Z<|I ((n:Int) / 2)) g6) M=Z (.c M.length,M')/\PC n c M.length 8 M0 M'/\∃L,M'=M++L:=by
 have it:=rn1 (fa:=aC (fOp dP (aE 5)<|fC (.int 1)) aN) (γ:=GP c n k g3 g4 (Z<|I ((n:Int) / 2)) g6) (M:=M) (aF (bF rfl rfl vU) aP) 61 61
 let⟨ys,M',e,h,l,γ',_,rfl⟩:=DJ (E:=PrE n) (Inv:=λ_ γ M1=>(∃s,γ=[Z (I ((n:Int) / 2)),s])/\M1=M) (cap:=[Z 5,Y]) (g:=cq 1) (c:=cK) (e:=bG aOK) it (by rw[dO];omega) pY (by
  rintro m x γ M1 ⟨j,rfl,o,A⟩ ⟨⟨s,rfl⟩,rfl⟩;refine⟨_,rfl,true,_,rfl,λh=>(nomatch h),λ_=>⟨_,_,jW rfl (jM (bF rfl rfl vU) (bF rfl rfl vU) 61),pre_of ⟨o,61⟩ ?_,⟨_,rfl⟩,rfl⟩⟩;have:=Y7 (j+1) (show(n:Int) / 2+1≠0 by omega);have:=S7 (j+1) (show 0<(n:Int) / 2+1 by omega);omega) ⟨⟨Y,rfl⟩,rfl⟩
 rw[dO]at l;exact⟨_,e,AS ex h 61,_,rfl⟩
def knG(o:2<=n)(t:n<=8):∃ds,tP (GP c n k g3 g4 (Z<|I ((n:Int) / 2)) g6) M=Z (.d (.list ds),M)/\(∀d∈ds,PrE n (.d d))/\ds.length<=8:=by
 have it:=rn2 (fa:=aC (aE 5)<|aC aHP aN) (γ:=GP c n k g3 g4 (Z<|I ((n:Int) / 2)) g6) (M:=M) rfl 61 61
 let⟨ds,M',e,h,l,γ',_,rfl⟩:=DG (E:=PrE n) (Inv:=λ_ γ M1=>(∃s,γ=[s])/\M1=M) (cap:=[Y]) (g:=cq 0) (c:=cK) (e:=bG aQi) it (by rw[dO];omega) pY aAs (by
  rintro m x γ M1 ⟨j,rfl,u,A⟩ ⟨⟨s,rfl⟩,rfl⟩;exact⟨_,rfl,true,_,rfl,λh=>(nomatch h),λ_=>⟨_,_,jW rfl (bF rfl rfl vU),pre_of 61 61,⟨_,rfl⟩,rfl⟩⟩) ⟨⟨Y,rfl⟩,rfl⟩
 rw[dO]at l;exact⟨ds,e,h,61⟩
def aLH{i:Int}(h:0<=i/\i<n)(k:0<=j/\j<n):∀d∈[pD (i,j)],PrE n (.d d):=λd hd=>by rw[B4.mp hd];exact pre_of h k
abbrev yM(a:Nat)(b:Int):Ga:=[Z (.c a),Z<|I b,Y,Y,Y,Y,Y]
abbrev xZ(a:Nat)(b:Int)(c:Int):Ga:=[Z (.c a),Z<|I b,Z<|I c,Y,Y,Y,Y]
def aIu(O:2<=n)(F:n<=8)(dk:Dk M c (m+40)):∃e M',gI [.c c,I n] M=Z (.c e,M')/\PC n c e 30 M M'/\Dk M' c m:=by
 let⟨z,M1,p1,Q,R,_⟩:=Dk.popE (m:=m+39) dk;have s1:bA (fOp dJ xq2<|fC (.int 9)) (cq 2) (yM c n) M=Z (.nx (xZ c n (z % 9)),M1):=bH (i:=2)<|wG (pop_at rfl dk.ty p1) 66;generalize z % 9=k at s1;have s2:bA (rS aN) (cq 3) (xZ c n k) M1=Z (.nx (GP c n k (Z (.c M1.length)) Y Y Y),M1++[.lst []]):=bH (i:=3)<|NF aP 66;have hc:=dk.lt;have C:PC n c M1.length 0 M (M1++[.lst []]):=AS R (λy hy=>absurd hy 67)<|B3 _;have A:Dk (M1++[.lst []]) c (m+39):=Q.app;generalize M1++[Cell.lst []]=M2 at s2 C A;generalize M1.length=f0 at s2 C
 have go:∀{f:Nat}{g4 g5 g6:Te}{M':Sto}{S:SF},S (GP c n k (Z (.c f0)) Y Y Y) M2=Z (.nx (GP c n k (Z (.c f)) g4 g5 g6),M')->pX=bC (bA (fOp dJ xq2<|fC (.int 9))<|cq 2) (bC (bA (rS aN)<|cq 3)<|bC S<|cF<|aE 3)->gI [.c c,I n] M=Z (.c f,M'):=λ{f g4 g5 g6 M' S} h e=>by
  unfold gI;rw[e];exact gK rfl<|((aQ s1).trans (aQ s2)).trans ((aQ h).trans rfl)
 have T:∀j:Int,gB (fOp ltI (aE 2)<|fC (.int j)) (GP c n k (Z (.c f0)) Y Y Y) M2=Z (decide (k<j),M2):=λj=>dN<|bF rfl rfl aER;have E:∀j:Int,gB (fOp (eqX false) (aE 2)<|fC (.int j)) (GP c n k (Z (.c f0)) Y Y Y) M2=Z ((k==j),M2):=λj=>dN<|bF rfl rfl NV;by_cases q0:k<2
 .have t:=T 2;rw[B8 q0]at t;let⟨M3,G,o,L,U⟩:=knA (c:=c) (k:=k) (g3:=Z (.c f0)) (g4:=Y) (g5:=Y) (g6:=Y) O F C.ex;have u:Dk M3 c (m+39):=by rw[U];exact A.app
  have P:bA lY (cq 3) (GP c n k (Z (.c f0)) Y Y Y) M2=Z (.nx (GP c n k (Z (.c M2.length)) Y Y Y),M3):=bH (i:=3) G;have D:gB (fOp (eqX false) (aE 2)<|fC (.int 1)) (GP c n k (Z (.c M2.length)) Y Y Y) M3=Z ((k==1),M3):=dN<|bF rfl rfl NV;cases q1:(k==1)with
  |false=>
   rw[q1]at D;exact⟨_,_,go ((eP t).trans ((aQ P).trans ((bY D).trans rfl))) rfl,o.le 66,u.le 61⟩
  |true=>
   rw[q1]at D;let⟨y,B,p4,V,W,_⟩:=Dk.popE (m:=m+38) u;have a4:bA xq2 (cq 4) (GP c n k (Z (.c M2.length)) Y Y Y) M3=Z (.nx (GP c n k (Z (.c M2.length)) (Z<|I y) Y Y),B):=bH (i:=4)<|pop_at rfl u.ty p4
   have X:fI (aC (bG aLg)<|aC (bG xq9) aN) (GP c n k (Z (.c M2.length)) (Z<|I y) Y Y) B=Z (.d (.list [pD (y % n,y / 11 % n),pD (y / 97 % n,y / 7 % n)]),B):=by
    have h1:bG aLg (GP c n k (Z (.c M2.length)) (Z<|I y) Y Y) B=Z (pT (y % n,y / 11 % n),B):=jW (jM rfl rfl 61)<|jM (AL rfl 66 66) rfl 61;have h2:bG xq9 (GP c n k (Z (.c M2.length)) (Z<|I y) Y Y) B=Z (pT (y / 97 % n,y / 7 % n),B):=jW (jM (AL rfl 66 66) rfl 61)<|jM (AL rfl 66 66) rfl 61;unfold fI;rw[aF h1 (aF h2 aP),A2];show(if 2<=bv then Z (CD.d (.list [pD (y % n,y / 11 % n),pD (y / 97 % n,y / 7 % n)]),B)else Y)=_;rw[A8 (sz 66)]
   let⟨M5,e5,H,L5,K⟩:=FY (r:=2) (o.to W (by have:=o.new;omega)) (ds:=[pD (y % n,y / 11 % n),pD (y / 97 % n,y / 7 % n)]) (λd hd=>by
    obtain rfl|hd:=C1.mp hd
    .exact pre_of (em 61) (em 61)
    .rw[B4.mp hd];exact pre_of (em 61) (em 61)) (B3 _) 66
   exact⟨_,_,go ((eP t).trans ((aQ P).trans ((eP D).trans ((aQ a4).trans (bH (i:=3)<|bF rfl X e5))))) rfl,H.le 66,by rw[K];exact V.app.le 61⟩
 have t0:=T 2;rw[D0 q0]at t0;by_cases q2:k=2
 .have t:=E 2;rw[A0f.mpr q2]at t;let⟨M3,G,o,L,U⟩:=knB (c:=c) (k:=k) (g3:=Z (.c f0)) (g4:=Y) (g5:=Y) (g6:=Y) O F C.ex;exact⟨_,_,go ((bY t0).trans ((eP t).trans (bH (i:=3) G))) rfl,o.le 66,by rw[U];exact A.app.le 61⟩
 have t2:=E 2;rw[Y1.mpr q2]at t2;by_cases q3:k=3
 .have t:=E 3;rw[A0f.mpr q3]at t;let⟨e,M3,G,o,u⟩:=knC (c:=c) (k:=k) (m:=m+31) (g3:=Z (.c f0)) (g4:=Y) (g5:=Y) (g6:=Y) O F C.ex A;exact⟨_,_,go ((bY t0).trans ((bY t2).trans ((eP t).trans (bH (i:=3) G)))) rfl,o.le 66,u.le 61⟩
 have t3:=E 3;rw[Y1.mpr q3]at t3;have am:bA aMY (cq 5) (GP c n k (Z (.c f0)) Y Y Y) M2=Z (.nx (GP c n k (Z (.c f0)) Y (Z<|I ((n:Int) / 2)) Y),M2):=bH (i:=5)<|AL rfl 66 66;by_cases q4:k=4
 .have t:=E 4;rw[A0f.mpr q4]at t;have it:=rn1 (fa:=aC (aE 1) aN) (γ:=GP c n k (Z (.c f0)) Y (Z<|I ((n:Int) / 2)) Y) (M:=M2) (J:=(n:Int)) rfl 61 61;rw[U1]at it;let⟨f,g6,M3,lp,o,u⟩:=aPv (k:=k) (md:=(n:Int) / 2) (g4:=Y) (g6:=Y) F C A;let⟨xs,a,b,d⟩:=o.at_;have fc:f≠c:=by have:=o.new;omega
  have ap:=yG (x:=.d .none)<|xY (f:=aE 3) (γ:=GP c n k (Z (.c f)) Y (Z<|I ((n:Int) / 2)) g6) (x:=.c f) rfl (aDD a) (aF (jW (f:=fC (.int 0)) (g:=fOp VH (aE 1)<|fC (.int 1)) (x:=0) (y:=(n:Int)-1) rfl rfl) aP)<|HI a 61;have fl:=(B9.mp a).1;refine⟨_,_,go ((bY t0).trans ((bY t2).trans ((bY t3).trans ((eP t).trans ((aQ am).trans ((aQ<|mU it lp).trans ap)))))) rfl,⟨⟨xs++[pT (0,(n:Int)-1)],F0 fl,λx hx=>?_,by rw[B6,E9];omega⟩,o.new,o.ex.put o.new⟩,(u.put fc).le 61⟩;obtain hx|hx:=D5.mp hx
  .exact b x hx
  .rw[B4.mp hx];exact pre_of 61 61
 have t4:=E 4;rw[Y1.mpr q4]at t4;by_cases q5:k=5
 .have t:=E 5;rw[A0f.mpr q5]at t;let⟨M3,G,o,L3,a0⟩:=knF (c:=c) (k:=k) (g3:=Z (.c f0)) (g4:=Y) (g6:=Y) O F C.ex;have P:bA lX (cq 3) (GP c n k (Z (.c f0)) Y (Z<|I ((n:Int) / 2)) Y) M2=Z (.nx (GP c n k (Z (.c M2.length)) Y (Z<|I ((n:Int) / 2)) Y),M3):=bH (i:=3) G;let⟨ds,e4,h4,X⟩:=knG (c:=c) (k:=k) (g3:=Z (.c M2.length)) (g4:=Y) (g6:=Y) (M:=M3) O F;let⟨B,e5,a1,L4,a2⟩:=FY (r:=8) o h4 X 66;have e6:fI (aC (bG aNH) aN) (GP c n k (Z (.c M2.length)) Y (Z<|I ((n:Int) / 2)) Y) B=Z (.d (.list [pD ((n:Int) / 2,(n:Int)-1)]),B):=YN<|jW rfl rfl;let⟨M5,e7,H,L5,K⟩:=FY (r:=1) a1 (aLH (i:=(n:Int) / 2) (j:=(n:Int)-1) 61 61) (B3 _) 66;exact⟨_,_,go ((bY t0).trans ((bY t2).trans ((bY t3).trans ((bY t4).trans ((eP t).trans ((aQ am).trans ((aQ P).trans (bH (i:=3)<|bF (bF rfl e4 e5) e6 e7)))))))) rfl,H.le 66,by rw[K,a2,a0];exact A.app.app.app.le 61⟩
 have t5:=E 5;rw[Y1.mpr q5]at t5;have t:=T 8;by_cases q8:k<8
 .rw[B8 q8]at t;have it:=rn1 (fa:=aC (aE 1) aN) (γ:=GP c n k (Z (.c f0)) Y Y Y) (M:=M2) (J:=(n:Int)) rfl 61 61;rw[U1]at it;let⟨f,g6,M3,lp,o,u⟩:=aQA (m:=m+11) (k:=k) (g4:=Y) (g5:=Y) (g6:=Y) F hc C A;exact⟨_,_,go ((bY t0).trans ((bY t2).trans ((bY t3).trans ((bY t4).trans ((bY t5).trans ((eP t).trans (mU it lp))))))) rfl,o.le 66,u.le 61⟩
 .rw[D0 q8]at t;exact⟨_,_,go ((bY t0).trans ((bY t2).trans ((bY t3).trans ((bY t4).trans ((bY t5).trans ((bY t).trans rfl)))))) rfl,C.le 66,A.le 61⟩
abbrev aDl(a:Int)(b:Int)(c:Int)(d:Int):Ga:=[Z (I a),Z<|I b,Z<|I c,Z<|I d]
theorem HH(M:Sto)(a b:Int):∀(n:Nat)(x y:Int),0<=x->0<=y->y.toNat<n->
 gS (gB<|fOp gtI (aE 3)<|fC (.int 0)) aOg n (aDl a b x y) M=Z (.nx (aDl a b (Int.gcd x y) 0),M)
 |0=>λ_ _ _ _ h=>61
 |n+1=>λx y u o h=>by
  by_cases e:y=0
  .subst e;have:(Int.gcd x 0:Int)=x:=by rw[Int.gcd_zero_right];omega
   rw[this];rfl
  .have k:0<y:=61
   have ih:=HH M a b n y (x % y) o (Y7 _ e) (by have:=S7 x k;omega);rw[QG]at ih;rw[<- ih];have t:=B8 k;simp![gS,SC,fB k,t]
def RF(M:Sto)(ha:0<=a)(k:1<=b)(o:b.natAbs<BV):gV [I a,I b] M=Z (.d (.tuple [.int (a / (Int.gcd a b:Int)),.int (b / (Int.gcd a b:Int))]),M):=by
 have h:rN (aDl a b a b) M=_:=PP<|HH M a b (b.toNat+1) a b ha 61<|Y8 _;have u:=YJ (a:=a) k;have A:=aFq (a:=a) k;have t:∀x,vQ x (Int.gcd a b:Int)=true:=λx=>uT 61<|Nat.lt_of_le_of_lt 61 o;have sz:(2:Nat)<=bv:=66
 simp![gV,oP,SC,h,t,sz]
def s2:(2:Nat)<=bv:=66
noncomputable def wts:T6:=[55440,55440,110880,27720,41580,0,23100,166320,55440000000000,1,55440,27720]
def aCl(M:Sto):∃w,jX [I z] M=Z (I w,M)/\w∈wts:=by
 let⟨d,h,k⟩:=DE (ds:=wts.map PyData.int) (m:=12) 66 rfl;let⟨w,o,rfl⟩:=D3.mp k;have t:nD z 12=true:=fB 66
 have e:ixF (.d (.list (wts.map .int))) (I (z % 12)) M=Z (I w,M):=by
  show(atI (wts.map PyData.int) (z % 12)).bind _=_;rw[h];rfl
 have e:ixF (.d (.list [.int 55440,.int 55440,.int 110880,.int 27720,.int 41580,.int 0,.int 23100,.int 166320,.int 55440000000000,.int 1,.int 55440,.int 27720])) (I (z % 12)) M=Z (I w,M):=e;exact⟨w,by simp![jX,oJ,AE,t,e],o⟩
def OkW(n:Int)(us:Tv Tie):Prop:=(∀t∈us,0<=t.i/\t.i<t.j/\t.j<n/\t.a∈wts/\0<t.a/\t.b=55440)/\(us.map Tie.key).Nodup
def kvW(us:Tv Tie):Tv (Tv Key×CD):=us.map λt=>(t.key,I t.a)
def aKX{n w:Int}(ok:OkW n us)(E:0<=i)(F:i<j)(G:j<n)(o:w∈wts)(u:0<w):∃vs,putD (kvW us) [.inl i,.inl j] (I w)=kvW vs/\OkW n vs/\vs.length<=us.length+1:=by
 unfold putD;by_cases c:((kvW us).any λH=>decide (H.1=[.inl i,.inl j]))=true
 .rw[A8 c];refine⟨us.map λt=>if t.key=[.inl i,.inl j]then{ t with a:=w }else t,?_,⟨λt ht=>?_,?_⟩,by rw[A6];omega⟩
  .unfold kvW;rw[J0,J0];refine O8 λt _=>?_;show(if t.key=_ then(t.key,I w)else(t.key,I t.a))=_;by_cases q:t.key=[.inl i,.inl j]
   .rw[A8 q];show(t.key,I w)=((if t.key=[.inl i,.inl j]then{ t with a:=w }else t).key,I (if t.key=[.inl i,.inl j]then{ t with a:=w }else t).a);rw[A8 q];rfl
   .rw[B7 q];show(t.key,I t.a)=((if t.key=[.inl i,.inl j]then{ t with a:=w }else t).key,I (if t.key=[.inl i,.inl j]then{ t with a:=w }else t).a);rw[B7 q]
  .let⟨s,hs,rfl⟩:=D3.mp ht;let⟨A,B,C,K,O,D⟩:=ok.1 s hs;split
   .exact⟨A,B,C,o,u,D⟩
   .exact⟨A,B,C,K,O,D⟩
  .rw[J0,show us.map (Tie.key ∘ λt=>if t.key=[.inl i,.inl j]then{ t with a:=w }else t)=us.map Tie.key from O8 λt _=>by
    show(if t.key=[.inl i,.inl j]then{ t with a:=w }else t).key=t.key;split<;>rfl]
   exact ok.2
 .rw[B7 c];refine⟨us++[⟨i,j,w,55440⟩],by unfold kvW;rw[E3];rfl,⟨λt ht=>?_,?_⟩,by rw[B6,E9];omega⟩
  .obtain h|h:=D5.mp ht
   .exact ok.1 t h
   .rw[B4.mp h];exact⟨E,F,G,o,u,rfl⟩
  .rw[E3,List.map_singleton];refine Y3.mpr ⟨ok.2,67,λk P l Q q=>?_⟩;rw[B4.mp Q]at q;subst q;let⟨t,ht,e⟩:=D3.mp P;refine c<|U0.mpr ⟨(t.key,I t.a),D3.mpr ⟨t,ht,rfl⟩,?_⟩;rw[e];exact B8 rfl
theorem XY{g:GF}{b:SF}{X:CD->Prop}{Inv:Nat->Ga->Sto->Prop}(step:∀m x γ M,X x->Inv (m+1) γ M->∃γ1 γ' M',g x γ M=Z (γ1,M)/\b γ1 M=Z (.nx γ',M')/\Inv m γ' M'):
 ∀(xs:T5)(γ:Ga)(M:Sto),(∀x∈xs,X x)->Inv xs.length γ M->∃γ' M',mH g b xs γ M=Z (.nx γ',M')/\Inv 0 γ' M'
 |[]=>λγ M _ i=>⟨γ,M,rfl,i⟩
 |x::xs=>λγ M k i=>by
  let⟨γ1,h,M1,o,t,i1⟩:=step _ x γ M (k x B0) i;let⟨γ',M',u,i2⟩:=XY step xs h M1 (λy A=>k y<|A7 _ A) i1;exact⟨γ',M',by rw[pG o t];exact u,i2⟩
abbrev GW(c:Nat)(n al:Int)(d:Nat)(i j w:Te):Ga:=[Z (.c c),Z<|I n,Z<|I al,Z (.c d),i,j,w]
def Dt(M:Sto)(d:Nat)(n:Int)(L:Nat):Prop:=∃us,M[d]?=Z (.dt (kvW us))/\OkW n us/\us.length<=L
def aNE:SB [I i,I j] M=Z (I (if j<i then j else i),M):=rfl
def aLK:PK [I i,I j] M=Z (I (if j > i then j else i),M):=rfl
def aDS{d L:Nat}{n:Int}{g6:Te}(hi:0<=i/\i<n)(U:0<=j/\j<n)(dk:Dk M c (m+1))(dt:Dt M d n L)(V:L<900)(ex:Ex c M0 M)(hd:M0.length<=d)(ne:d≠c):
 ∃t M',qO (GW c n al d (Z<|I i) (Z<|I j) g6) M=Z (.nx (GW c n al d (Z<|I i) (Z<|I j) t),M')/\Dk M' c m/\Dt M' d n (L+1)/\Ex c M0 M':=by
 have W:nD al 2=true:=fB 66;have E:bA EW (cq 6) (GW c n al d (Z<|I i) (Z<|I j) g6) M=Z (.nx (GW c n al d (Z<|I i) (Z<|I j)<|Z<|I 55440),M):=rfl;have B:gB aMy (GW c n al d (Z<|I i) (Z<|I j)<|Z<|I 55440) M=Z (al % 2==1,M):=by rfl
 have u:∃w M1,sIf (gB aMy) aQv cJ (GW c n al d (Z<|I i) (Z<|I j)<|Z<|I 55440) M=Z (.nx (GW c n al d (Z<|I i) (Z<|I j)<|Z<|I w),M1)/\w∈wts/\Dk M1 c m/\Ex c M M1:=by
  cases h:(al % 2==1)with
  |true=>
   let⟨z,M1,po,o,k,_⟩:=Dk.popE dk;have F:=pop_at (γ:=GW c n al d (Z<|I i) (Z<|I j)<|Z<|I 55440) (v:=0) rfl dk.ty po;let⟨w,A,G⟩:=aCl (z:=z) M1;refine⟨w,M1,?_,G,o,k⟩;rw[eP (B.trans (by rw[h]))];refine(bH ?_).trans rfl;simp![F,A]
  |false=>exact⟨55440,M,by rw[bY (B.trans (by rw[h]))];rfl,66,dk.le 61,Ex.refl _ _⟩
 let⟨w,M1,A,H,o,k⟩:=u;let⟨us,u1,C,X⟩:=dt;have u1:=k.to u1 ne;have K:(kvW us).length<bv:=by unfold kvW;rw[A6,J7];omega
 have D:LO (gB<|fOp (eqX true) (aE 4)<|aE 5) (gB<|fOp gtI (aE 6)<|fC (.int 0)) (GW c n al d (Z<|I i) (Z<|I j)<|Z<|I w) M1=Z (!(i==j)&&decide (w > 0),M1):=by
  cases h:(i==j)<;>simp![aIi,h]<;>rfl
 unfold qO;rw[aQ E,aQ A];cases h:(!(i==j)&&decide (w > 0))with
 |false=>
  rw[bY (D.trans (by rw[h]))];exact⟨_,M1,rfl,o,⟨us,u1,C,61⟩,ex.trans k⟩
 |true=>
  rw[eP (D.trans (by rw[h]))];rw[A9]at h;have O:i≠j:=68
  have P:0<w:=68
  let⟨vs,Q,R,v3⟩:=aKX (i:=if j<i then j else i) (j:=if j > i then j else i) C 61 61 61 H P
  have T:AZ M1 (.c d) (.inr [.inl (if j<i then j else i),.inl (if j > i then j else i)]) (I w)=Z (M1.set d (.dt (kvW vs))):=by
   simp only[AZ,u1,A8 K,Q]
  refine⟨Z<|I w,M1.set d (.dt (kvW vs)),?_,o.put ne,⟨vs,F0 (B9.mp u1).1,R,61⟩,(ex.trans k).put hd⟩;simp![AQ,wX,aNE,aLK,keysOf,keyOf,s2,T]
def aOT(F:2<=n)(G:n<=8)(dk:Dk M c (m+71)):∃d M',qG [.c c,I n] M=Z (.c d,M')/\Dt M' d n 30/\Dk M' c m/\Ex c M M'/\d≠c/\M.length<=d:=by
 let⟨z,M1,po,H,C,_⟩:=Dk.popE dk;have K:=pop_at (γ:=(yM c n)) (v:=0) rfl dk.ty po;have O:bA xq2 (cq 2) (yM c n) M=Z (.nx (xZ c n z),M1):=(bH K).trans rfl;have P:bA AA (cq 3) (xZ c n z) M1=Z (.nx (GW c n z M1.length Y Y Y),M1++[.dt []]):=rfl;have Q:Ex c M (M1++[.dt []]):=C.trans<|Ex.app _ _ _;have cl:=dk.lt;have hd:=C.len;have u0:Dt (M1++[.dt []]) M1.length n 0:=⟨[],iZ,⟨λt h=>by simp at h,A2q⟩,B3 _⟩;let⟨p,M2,R,o,T⟩:=aIu F G H.app;let⟨ys,U,D,V⟩:=o.at_
 let⟨ds,rfl,hds⟩:=MN λy E=>by
  let⟨d,rfl⟩:=aAs y<|D y E;exact⟨d,rfl,D _ E⟩
 have W:aM gI vH (GW c n z M1.length Y Y Y) (M1++[.dt []])=Z (.c p,M2):=aV (aF rfl<|aF rfl aP) R;have it:=CC (aNz W U) rfl;have ln:(M1++[Cell.dt []]).length=M1.length+1:=67
 have hp:=o.new
 have u2:Dt (M2.set p .dead) M1.length n 0:=by
  let⟨us,a,b⟩:=u0;refine⟨us,?_,b⟩;rw[F6 61];exact o.ex.to a 61
 rw[A6]at V
 let⟨γ',M',e2,⟨g4,g5,g6,rfl,f1,f2,f3,_⟩⟩:=XY (g:=fR 2 aBP) (X:=PrE n) (Inv:=λk γ N=>∃g4 g5 g6,γ=GW c n z M1.length g4 g5 g6/\Dk N c (m+k)/\Dt N M1.length n (30-k)/\Ex c M N/\k<=30) (λk x γ N u hi=>by
  let⟨⟨i,j⟩,rfl,A,B⟩:=u;let⟨g4,g5,g6,rfl,q1,q2,q3,q4⟩:=hi;let⟨a0,N',t1,t2,t3,t4⟩:=aDS A B q1 q2 61 q3 hd 61;refine⟨_,_,N',rfl,t1,_,_,_,rfl,t2,?_,t4,61⟩;rw[show 30-k=30-(k+1)+1 by omega];exact t3) (ds.map .d) (GW c n z M1.length Y Y Y) (M2.set p .dead) (λx u=>by
  let⟨d,hd,rfl⟩:=D3.mp u;exact hds d hd) ⟨Y,Y,Y,rfl,(T.put 61).le 68,(by let⟨us,a,b,l⟩:=u2;exact⟨us,a,b,C5 l (E6 _)⟩),(Q.trans o.ex).put 61,by rw[A6];omega⟩
 refine⟨M1.length,M',gK rfl ?_,f2,f1,f3,61,hd⟩;show bC _ _ (yM c n) M=_;rw[aQ O,aQ P,aQ<|mU it e2];rfl
noncomputable def f0(t:Tie):T3:=[.int t.i,.int t.j]
def aPj(s t:Tie):(nR (f0 s)<|f0 t).isSome=true:=by
 show(if (s.i==t.i)=true then(if (s.j==t.j)=true then nR [] []else Z<|decide (s.j<t.j))else Z<|decide (s.i<t.i)).isSome=true;split
 .split
  .rfl
  .rfl
 .rfl
def aGT(h:us.length<64):∃vs:Tv Tie,vs.Perm us/\hV (us.map f0)=Z (vs.map λt=>.tuple (f0 t)):=by
 by_cases k:2<=us.length
 .have o:sortable (us.map f0)=true:=by
   have hd:(pE (us.map f0) || rJ (us.map f0))=true:=by
    rw[A2h];exact .inl (by unfold pE;rw[A2n];exact C3.mpr λt _=>rfl)
   unfold sortable;rw[A6,B8 k,B8 h,hd,U8,U8,Bool.and_true,A9];refine⟨C3.mpr λr u=>?_,C3.mpr λi hi=>C3.mpr λj A=>?_⟩
   .let⟨t,_,rfl⟩:=D3.mp u;rfl
   .rw[zF (E4.mp hi),zF<|E4.mp A];exact aPj _ _
  have pm:=nX (n:=(us.map f0).length) (vK<|us.map f0) 68;rw[A6]at pm;have mem:∀i∈jK (vK<|us.map f0) us.length,i<us.length:=λi hi=>E4.mp<|pm.mem_iff.mp hi
  have B:SX (us.map f0)=((jK (vK<|us.map f0) us.length).map λi=>us.getD i t0).map λt=>.tuple (f0 t):=by
   unfold SX;rw[A6,J0];refine O8 λi hi=>?_;show PyData.tuple ((us.map f0).getD i [])=.tuple (f0<|us.getD i t0);rw[zF (mem i hi),aCF<|mem i hi]
  refine⟨(jK (vK<|us.map f0) us.length).map λi=>us.getD i t0,?_,?_⟩
  .have:=pm.map λi=>us.getD i t0
   rwa [JS]at this
  .unfold hV;rw[o,A8 rfl,B]
 .have C:us.length<2:=61
  refine⟨us,.refl _,?_⟩;unfold hV
  have:sortable (us.map f0)=false:=by
   unfold sortable;rw[A6,D0 k];rfl
  rw[this,B7 C4,A6,A8 C,J0];rfl
noncomputable def low(t:Tie):Tie:=⟨t.i,t.j,t.a / (Int.gcd t.a 55440:Int),55440 / (Int.gcd t.a 55440:Int)⟩
def YU{w:Int}(h:w∈wts):pK (w / (Int.gcd w 55440:Int)) (55440 / (Int.gcd w 55440:Int))=true:=by
 have:wts.all λw=>pK (w / (Int.gcd w 55440:Int)) (55440 / (Int.gcd w 55440:Int)):=by rfl
 exact C3.mp this w h
def aMt{t:Tie}(nd:(us.map Tie.key).Nodup)(ht:t∈us):lkC (kvW us) t.key=Z (I t.a):=by
 unfold lkC kvW;rw[List.find?_map]
 have:us.find? ((λk:Tv Key×CD=>decide (k.1=t.key)) ∘ λt=>(t.key,I t.a))=Z t:=by
  induction us with
  |nil=>simp at ht
  |cons s us ih=>
   rw[C6,A0o]at nd;by_cases e:s.key=t.key
   .obtain rfl|h:=C1.mp ht
    .rw[List.find?_cons_of_pos 67]
    .exact absurd (D3.mpr ⟨t,h,e.symm⟩) nd.1
   .rw[List.find?_cons_of_neg 68];obtain rfl|h:=C1.mp ht
    .exact absurd rfl e
    .exact ih nd.2 h
 rw[this];rfl
noncomputable abbrev rE:EF:=aPU
def s3:(3:Nat)<=bv:=66
theorem KD{d:Nat}{M:Sto}{us:Tv Tie}(hd:M[d]?=Z (.dt (kvW us)))(nd:(us.map Tie.key).Nodup)(A:∀t∈us,0<=t.a):∀(vs:Tv Tie)(h k:Te),(∀t∈vs,t∈us)->lcF (fR 2 VN) cK rE (vs.map λt=>.d (.tuple (f0 t))) [Z (.c d),h,k] M=Z ((vs.map λt=>PyData.tuple<|f2<|low t).map .d,M)
 |[]=>λ_ _ _=>rfl
 |t::vs=>λh k o=>by
  have ih:=KD hd nd A vs (Z<|I t.i) (Z<|I t.j) λu B=>o u<|A7 _ B
  have C:atD M (.c d) (.inr [.inl t.i,.inl t.j])=Z (Z<|I t.a):=by
   have:=aMt nd<|o t B0;simp only[atD,hd];exact Z7 Z this
  have lo:=RF (b:=55440) M (A t<|o t B0) 66<|wsm 66 66
  have e:rE [Z (.c d),Z<|I t.i,Z<|I t.j] M=Z (.d (.tuple (f2<|low t)),M):=by
   simp![rE,sF,wX,keysOf,keyOf,s2,s3,C,lo];rfl
  rw[C6,C6,C6];show(fR 2 VN (.d (.tuple (f0 t))) [Z (.c d),h,k] M).bind _=_;rw[show fR 2 VN (.d (.tuple (f0 t))) [Z (.c d),h,k] M=Z ([Z (.c d),Z<|I t.i,Z<|I t.j],M)from rfl,A2];rw[show cK [Z (.c d),Z<|I t.i,Z<|I t.j] M=Z (true,M)from rfl,A2,A8 rfl,e,A2];rw[ih,A2]
def aKJ{d:Nat}{n:Int}(u1:M[d]?=Z (.dt (kvW us)))(ok:OkW n us)(G:us.length<=30):∃vs:Tv Tie,vs.Perm us/\oA [.c d] M=Z (.d (.list (dW<|vs.map low)),M)/\Ok n (vs.map low):=by
 let⟨h,nd⟩:=ok;let⟨vs,pm,o⟩:=aGT (us:=us) 61;have k:∀t∈vs,t∈us:=λt ht=>pm.mem_iff.mp ht
 have u:wN [.c d] M=Z (.d (.list (vs.map λt=>.tuple (f0 t))),M):=by
  have e:(kvW us).map (λA=>A.1.map yS)=us.map f0:=by unfold kvW;rw[J0];rfl
  simp only[wN,u1,e,o,A2]
 have it:cQ (aM wN xq4) [Z (.c d)] M=Z (vs.map λt=>.d (.tuple (f0 t)),M):=by
  simp![cQ,u,aR,J0];rfl
 refine⟨vs,pm,?_,λt ht=>?_,?_,by rw[A6,pm.length_eq];omega⟩
 .have B:vO [Z (.c d)] M=Z (.d (.list (dW<|vs.map low)),M):=by
   refine kN it (by rw[A6,pm.length_eq];omega) ?_ (by unfold dW;rw[A6,A6,pm.length_eq];omega);have:=KD u1 nd (λt ht=>by have:=(h t ht).2.2.2.2.1;omega) vs Y Y k;rw[show qI [Z 0,Y,Y] [Z (CD.c d)]=[Z (.c d),Y,Y]from rfl,this];unfold dW;rw[J0 (f:=low)];rfl
  simp![oA,sD,B]
 .let⟨s,hs,rfl⟩:=D3.mp ht;let⟨C,D,E,F,H,I⟩:=h s<|k s hs;exact⟨YU F,C,D,E⟩
 .rw[J0];exact((pm.map Tie.key).nodup_iff.mpr nd)
def aIn{w:Int}(h:w∈wts)(k:0<w):0<w / (Int.gcd w 55440:Int):=by
 have:wts.all λw=>decide (¬0<w) || decide (0<w / (Int.gcd w 55440:Int)):=by rfl
 have:=C3.mp this w h;simp only[A2h,S0]at this;obtain q|q:=this
 .exact absurd k q
 .exact q
structure gM(M:Sto)(w:Nat)(n:Int)(ws:Tv Tie):Prop where
 ob:∃fs:Tu,M[w]?=Z (.obj "Web" fs)/\List.lookup ("many":Str) fs=Z (I n)/\List.lookup ("ties":Str) fs=Z (.d (.tuple (dW ws)))
def gM.to{n:Int}(h:gM M w n ws)(e:Ex c M M')(ne:w≠c):gM M' w n ws:=⟨let⟨fs,a,b⟩:=h.ob;⟨fs,e.to a ne,b⟩⟩
def gM.app{n:Int}(h:gM M w n ws):gM (M++L) w n ws:=⟨let⟨fs,a,b⟩:=h.ob;⟨fs,by rw[Y0 (B9.mp a).1];exact a,b⟩⟩
def gM.lt{n:Int}(h:gM M w n ws):w<M.length:=let⟨_,a,_⟩:=h.ob;(B9.mp a).1
def gM.many{n:Int}(h:gM M w n ws)(k:f γ M=Z (.c w,M)):CV "Web" "many" f γ M=Z (I n,M):=by
 let⟨fs,o,t,_⟩:=h.ob;simp only[CV,k,A2,objOf,o,A0g,t]
def gM.ties{n:Int}(h:gM M w n ws)(k:f γ M=Z (.c w,M)):CV "Web" "ties" f γ M=Z (.d (.tuple (dW ws)),M):=by
 let⟨fs,o,_,t⟩:=h.ob;simp only[CV,k,A2,objOf,o,A0g,t]
def aMS{d:Nat}{n:Int}(G:2<=n)(H:n<=8)(u1:M[d]?=Z (.dt (kvW us)))(ok:OkW n us)(o:us.length<=30)(u:γ[3]?=Z (Z<|I n))(A:γ[4]?=Z (Z (.c d))):
 ∃L vs,KL "Web" iM aNn γ M=Z (.c M.length,M++L)/\gM (M++L) M.length n vs/\vs.Perm (us.map low):=by
 let⟨xs,k,B,h⟩:=aKJ u1 ok o;let⟨vs,pm,C⟩:=aIR (M:=M) h 61 61
 have ps:∀t∈vs,0<t.a:=λt ht=>by
  let⟨s,hs,rfl⟩:=D3.mp<|pm.mem_iff.mp ht;let⟨K,O,P,D,E,Q⟩:=ok.1 s<|k.mem_iff.mp hs;exact aIn D E
 have F:vs.filter big=vs:=List.filter_eq_self.mpr λt ht=>B8<|ps t ht;refine⟨aMH M.length n (xs.map low) vs,vs,?_,⟨⟨[("many",I n),("ties",.d (.tuple (eO vs))),("weights",.c (M.length+2))],?_,rfl,?_⟩⟩,pm.trans<|k.map low⟩
 .simp![KL,u,A,B,C];rfl
 .rw[Z3 (B3 _),A1u];rfl
 .show Z (CD.d (.tuple (eO vs)))=_;unfold eO;rw[F];rfl
noncomputable def lts:T6->Tv Bool
 |a::b::r=>decide (a<b)::lts (b::r)
 |_=>[]
theorem DY:∀ns:T6,(lts ns).all id=true↔ns.Pairwise (·<·)
 |[]=>by simp[lts]
 |[a]=>by simp[lts]
 |a::b::r=>by
  have ih:=DY (b::r);show(decide (a<b)&&(lts (b::r)).all id)=true↔_;rw[A9,ih,S0];constructor
  .intro h;refine S6.mpr ⟨λx hx=>?_,h.2⟩;obtain rfl|hx:=C1.mp hx
   .exact h.1
   .have:=(S6.mp h.2).1 x hx;omega
  .intro h;exact⟨(S6.mp h).1 b B0,(S6.mp h).2⟩
def aJb{k:T6}{v:Int}(nd:k.Nodup):(step_dedup k v).Nodup:=by
 unfold step_dedup;split
 .exact nd
 .rename_i h;refine Y3.mpr ⟨nd,67,λa ha b o e=>h<|U0.mpr ⟨a,ha,?_⟩⟩;rw[B4.mp o]at e;rw[e];simp
theorem NI:∀(ns k:T6),k.Nodup->(ns.foldl step_dedup k).Nodup
 |[]=>λ_ h=>h
 |n::ns=>λk h=>NI ns _<|aJb h
theorem ZU:∀(ns k:T6),(k++ns).Nodup->ns.foldl step_dedup k=k++ns
 |[]=>λk _=>67
 |n::ns=>λk h=>by
  have h':(k++[n]++ns).Nodup:=68
  have hn:=λhm=>by
   have:=(Y3.mp h).2.2 n hm n B0;exact this rfl
  have st:step_dedup k n=k++[n]:=by
   unfold step_dedup
   rw[B7 λq=>by
    let⟨x,o,e⟩:=U0.mp q;have:x=n:=68
    exact hn (this▸o)]
  rw[List.foldl_cons,st,ZU ns (k++[n]) h'];simp
def aIQ(ns:T6):ns=bK (iN ns)↔(lts ns).all id=true:=by
 rw[DY];constructor
 .intro h;have s1:=eL<|iN ns;have nd:(bK<|iN ns).Nodup:=(cN _).nodup_iff.mpr (NI ns [] A2q);rw[<- h]at s1 nd;exact(List.Pairwise.and s1 nd).imp λ⟨a,b⟩=>61
 .intro h;have nd:ns.Nodup:=h.imp λa=>61
  have e:iN ns=ns:=by
   unfold iN;rw[ZU ns [] (by simpa using nd)];rfl
  rw[e];exact lP (h.imp λa=>61) (eL ns) (cN ns).symm
theorem lc2{c:TF}{e:EF}{f:Ua->Ua}{t:Ua->Bool}{a:Te}{M:Sto}:∀(ds:T3)(s:Te),(∀d∈ds,c [a,Z (.d d)] M=Z (t d,M))->(∀d∈ds,t d=true->e [a,Z (.d d)] M=Z (.d (f d),M))->lcF (cq 1) c e (ds.map .d) [a,s] M=Z (((ds.filter t).map f).map .d,M)
 |[]=>λ_ _ _=>rfl
 |d::ds=>λs k o=>by
  have ih:=lc2 ds (Z (.d d)) (λx h=>k x<|A7 _ h) (λx h=>o x<|A7 _ h);have u:=k d B0;have B:=o d B0;have A:cq 1 (.d d) [a,s] M=Z ([a,Z (.d d)],M):=rfl;cases q:t d with
  |false=>simp only[C6,lcF,A,A2,u,q,A0l,A2p,ih,U5 (show ¬t d=true by rw[q];decide)]
  |true=>simp only[C6,lcF,A,A2,u,q,A0g,B q,ih,U4 q]
def UY:ds.filter (λ_=>true)=ds:=List.filter_eq_self.mpr λ_ _=>rfl
theorem IW{h:Type}{f:h->Bool}:∀ds:Tv h,boolsOf (ds.map λd=>.bool (f d))=Z (ds.map f)
 |[]=>rfl
 |d::ds=>by show(boolsOf (ds.map λd=>.bool (f d))).bind _=_;rw[IW ds];rfl
def all_map'{h:Type}{f:h->Bool}{ds:Tv h}:wR [.d (.list (ds.map λd=>.bool (f d)))] M=Z (B<|ds.all f,M):=by
 show(boolsOf (ds.map λd=>.bool (f d))).bind _=_;rw[IW,A2,A2n];rfl
noncomputable def Rw(k:Bool)(ds:T3):Ua:=if k then .list ds else .tuple ds
def aDZ(h:oS x=true):∃k ds,x=Rw k ds:=by
 cases x<;>first|(cases h;done)|exact⟨true,_,rfl⟩|exact⟨false,_,rfl⟩
def cB(k:Bool)(ds:T3):aR (Rw k ds)=Z ds:=by cases k<;>rfl
def aFB(h:f γ M=Z (.d (Rw k ds),M)):cQ f γ M=Z (ds.map .d,M):=by
 simp only[cQ,h,A2,cB]
def wH:pO [.d (Rw k ds)] M=Z (I ds.length,M):=by cases k<;>rfl
def aAn:uQ [.d (Rw k ds)] M=Z (.d (.list ds),M):=by cases k<;>rfl
def aQx{h:Type}(ds:Tv h):fH ds (Z 1) Y=ds.drop 1:=by
 unfold fH;rw[show(1:Int)=((1:Nat):Int)from rfl,HT.sIx_nat,HT.sIx_none];cases ds with
 |nil=>rfl
 |cons d ds=>rw[show min 1 (d::ds).length=1 by simp];exact List.take_of_length_le 67
def aKQ:slF (.d (Rw k ds)) (Z 1) Y M=Z (.d (Rw k<|ds.drop 1),M):=by
 cases k
 .show Z (CD.d (.tuple (fH ds (Z 1) Y)),M)=_;rw[aQx];rfl
 .show Z (CD.d (.list (fH ds (Z 1) Y)),M)=_;rw[aQx];rfl
theorem aAj{M:Sto}:∀(ns:T6)(γ:Ga),(∃a b,γ=[a,b])->lcF (fR 2 xq6) cK aEh (tF (ns.map .int)<|(ns.map PyData.int).drop 1) γ M=Z (((lts ns).map λb=>PyData.bool b).map .d,M)
 |[]=>λ_ _=>rfl
 |[_]=>λ_ _=>rfl
 |a::b::r=>λγ h=>by
  let⟨x,y,rfl⟩:=h;have ih:=aAj (M:=M) (b::r) [Z (I a),Z<|I b] ⟨_,_,rfl⟩;show(lcF (fR 2 xq6) cK aEh (tF ((b::r).map .int)<|((b::r).map PyData.int).drop 1) [Z (I a),Z<|I b] M).bind _=_;rw[ih];rfl
theorem XG:∀ns:T6,(lts ns).length<=ns.length
 |[]=>B3 _
 |[_]=>E6 _
 |a::b::r=>by have:=XG (b::r);simp only[lts,D8]at this ⊢;omega
def QW{k:Bool}(t:ns.length<=900):nU [.d (Rw k<|ns.map .int)] M=Z (B<|(lts ns).all id,M):=by
 have h:(tF (ns.map PyData.int)<|(ns.map PyData.int).drop 1).length<=1000:=by
  have:=KR (ns.map PyData.int)<|(ns.map PyData.int).drop 1;rw[A6]at this;omega
 have it:CH aOd [Z (.d (Rw k<|ns.map .int))] M=Z (tF (ns.map .int)<|(ns.map PyData.int).drop 1,M):=by
  simp![CH,fSl,iL,gJ,asI,aKQ];cases k<;>rfl
 have o:vX [Z (.d (Rw k<|ns.map .int))] M=Z (.d (.list ((lts ns).map λb=>.bool b)),M):=by
  exact kN it h (aAj ns _ ⟨_,_,rfl⟩) (by rw[A6];have:=XG ns;omega)
 have al:=all_map' (f:=id) (ds:=lts ns) (M:=M);have al:wR [.d (.list ((lts ns).map λb=>.bool b))] M=Z (B<|(lts ns).all id,M):=al;simp![nU,sO,o,al]
def cT(n:Int)(x:Ua):Bool:=match aR x with
 |some ds=>ds.all (plc n)&&(match mC ds with|some ns=>(lts ns).all id|none=>false)
 |none=>false
theorem ints_map:∀ns:T6,mC (ns.map .int)=Z ns
 |[]=>rfl
 |n::ns=>by show(mC<|ns.map .int).bind _=_;rw[ints_map ns];rfl
theorem yB{n:Int}:∀{ds:T3},ds.all (plc n)=true->∃ns:T6,ds=ns.map .int/\∀i∈ns,0<=i/\i<n
 |[]=>λ_=>⟨[],rfl,λi h=>by simp at h⟩
 |d::ds=>λh=>by
  rw[Z2,A9]at h;let⟨i,rfl,k,i1⟩:=xV h.1;let⟨ns,rfl,hn⟩:=yB h.2;refine⟨i::ns,rfl,λj hj=>?_⟩;obtain rfl|hj:=C1.mp hj
  .exact⟨k,i1⟩
  .exact hn j hj
def HP{n:Int}(h:(ns.map PyData.int).all (plc n)=true):cT n (Rw k<|ns.map .int)=(lts ns).all id:=by
 unfold cT;rw[cB];dsimp only;rw[h,ints_map];rfl
def RM{n:Int}(t:∀ds,aR x=Z ds->ds.length<=60):bT [I n,.d x] M=Z (B<|cT n x,M):=by
 cases h:oS x with
 |false=>
  have:cT n x=false:=by unfold cT;cases x<;>first|rfl|(cases h;done)
  rw[this];simp![bT,dA,yN,h]
 |true=>
  let⟨k,ds,rfl⟩:=aDZ h;have l60:=t ds<|cB k ds
  have o:jC [Z (I n),Z (.d (Rw k ds))] M=Z (.d (.list (ds.map λd=>.bool (plc n d))),M):=by
   refine kN (aFB (k:=k) (ds:=ds) (by simp![])) (by rw[A6];omega) ?_ (by rw[A6];omega);have:=lc2 (c:=cK) (e:=aM fV vH) (f:=λd=>.bool (plc n d)) (a:=Z<|I n) (M:=M) ds Y (λ_ _=>rfl) (λd _ _=>by simp![qX]);rw[UY]at this;exact this
  have al:=all_map' (f:=plc n) (ds:=ds) (M:=M);cases ha:ds.all (plc n)with
  |false=>
   have:cT n (Rw k ds)=false:=by unfold cT;rw[cB];dsimp only;rw[ha];rfl
   rw[this];rw[ha]at al;simp![bT,dA,yN,h,o,al]
  |true=>
   rw[ha]at al;let⟨ns,rfl,hn⟩:=yB ha;rw[HP ha];have u:=QW (k:=k) (ns:=ns) (M:=M) (by rw[A6]at l60;omega);simp![bT,dA,yN,h,o,al,u]
structure Itm(d:Ua):Prop where
 fit:Fit 9000 2 d
 lay:PyData.canLay0 d=true
theorem FS:∀{ds:T3},(∀d∈ds,Itm d)->PyData.canLayAll0 ds=true
 |[]=>65
 |d::ds=>λh=>by
  show(PyData.canLay0 d&&PyData.canLayAll0 ds)=true;rw[(h d B0).lay,FS λx k=>h x<|A7 _ k];rfl
theorem zT:∀{ds:T3},(∀d∈ds,Itm d)->PyData.depthAll ds<=2
 |[]=>λ_=>66
 |d::ds=>λh=>by
  exact Nat.max_le.mpr ⟨(h d B0).fit.dp,zT λx k=>h x<|A7 _ k⟩
def sR{ds:T3}(h:∀d∈ds,Itm d):cj (.list ds)=true:=by
 unfold cj;have k:PyData.canLay0 (.list ds)=true:=FS h
 have o:PyData.depth (.list ds)<=64:=by
  show PyData.depthAll ds+1<=64;have:=zT h;omega
 rw[k,B8 o];rfl
def ZQ(ds:T3):cn (.list ds) (.list [])=ds.isEmpty:=by cases ds<;>rfl
def ne_nil{ds:T3}(h:∀d∈ds,Itm d):eqX true (.d (.list ds)) (.d (.list [])) M=Z (B (!ds.isEmpty),M):=by
 show(if (cj (.list ds)&&cj (.list []))=true then Z (B (!cn (.list ds) (.list [])),M)else Y)=_;rw[sR h,show cj (.list [])=true from rfl,ZQ];rfl
theorem uL:∀ns ms:T6,PyData.eqvAll (ns.map .int) (ms.map .int)=decide (ns=ms)
 |[],[]=>rfl
 |[],_::_=>rfl
 |_::_,[]=>rfl
 |n::ns,m::ms=>by
  show(cn (.int n) (.int m)&&PyData.eqvAll (ns.map .int) (ms.map .int))=_;rw[uL ns ms,show cn (.int n) (.int m)=(n==m)from rfl];by_cases h:n=m<;>by_cases h':ns=ms<;>simp[h,h']
def uS(h:i.natAbs<2 ^ 200):Itm (.int i):=⟨⟨B8<|C9 h<|Nat.pow_le_pow_right 66 66,by show 2000<=9000;decide,by show 0<=2;decide⟩,rfl⟩
def QD{ns:T6}(h:∀i∈ns,0<=i/\i<1000):∀d∈ns.map PyData.int,Itm d:=λd hd=>by
 let⟨i,hi,rfl⟩:=D3.mp hd;have:=h i hi;exact uS<|A0p (show i.natAbs<1000 by omega) 66
def NA{n:Int}{xs:T6}(h:∀i∈xs,0<=i/\i<n):(xs.map PyData.int).all (plc n)=true:=by
 rw[A2n];refine C3.mpr λi hi=>?_;let⟨k,o⟩:=h i hi;show(decide (0<=i)&&decide (i<n))=true;rw[B8 k,B8 o];rfl
def FT{f g:TF}{a b:Bool}(h:f γ M=Z (a,M))(k:a=false->g γ M=Z (b,M)):gOr f g γ M=Z (a || b,M):=by
 unfold gOr;rw[h,A2];cases a with
 |true=>rfl
 |false=>exact k rfl
def nP{f:TF}{a:Bool}(h:f γ M=Z (a,M)):gF f γ M=Z (!a,M):=by
 unfold gF;rw[h,A2]
structure Thg(x:Ua):Prop where
 fit:Fit 400000 4 x
 len:∀ds,aR x=Z ds->ds.length<=40
 itm:∀ds,aR x=Z ds->∀d∈ds,Itm d
theorem UH{w k:Nat}:∀{ds:T3},(∀d∈ds,wt d<=w)->ds.length<=k->mS ds<=k*(w+2)
 |[]=>λ_ _=>E6 _
 |d::ds=>λh o=>by
  have u:=h d B0;cases k with
  |zero=>simp at o
  |succ k=>
   have A:=UH (λx t=>h x<|A7 _ t) (by simpa using o);show wt d+2+mS ds<=_;rw[Nat.succ_mul];omega
theorem LP:∀{ds:T3},(∀d∈ds,oks d=true)->oV ds=true
 |[]=>65
 |d::ds=>λh=>by
  show(oks d&&oV ds)=true;rw[h d B0,LP λx k=>h x<|A7 _ k];rfl
def UN{ds:T3}(h:∀d∈ds,Itm d)(l:ds.length<=40):Thg (Rw k ds):=by
 have o:=LP λd hd=>(h d hd).fit.ok;have w:=UH (λd hd=>(h d hd).fit.wt) l;have dp:=zT h;refine⟨?_,λes t=>?_,λes t=>?_⟩
 .cases k
  .exact⟨o,by show mS ds+3<=400000;omega,by show PyData.depthAll ds+1<=4;omega⟩
  .exact⟨o,by show mS ds+3<=400000;omega,by show PyData.depthAll ds+1<=4;omega⟩
 .rw[cB]at t;cases t;exact l
 .rw[cB]at t;cases t;exact h
def aEk(f:Fit 400000 4 x)(n:aR x=Y):Thg x:=⟨f,(λds h=>by rw[n]at h;cases h),(λds h=>by rw[n]at h;cases h)⟩
def aKf(d:Ua):Bool:=oks d&&decide (wt d<=9000)&&decide (d.depth<=2)&&d.canLay0
def aMI(d:Ua):Bool:=oks d&&decide (wt d<=400000)&&decide (d.depth<=4)&&(match aR d with|some ds=>decide (ds.length<=40)&&ds.all aKf|none=>true)
def aNL(h:aKf d=true):Itm d:=by
 unfold aKf at h;simp only[A9,S0]at h;exact⟨⟨h.1.1.1,h.1.1.2,h.1.2⟩,h.2⟩
def UG(h:aMI d=true):Thg d:=by
 unfold aMI at h;simp only[A9,S0]at h;let⟨⟨⟨o,t⟩,u⟩,k⟩:=h;refine⟨⟨o,t,u⟩,λds e=>?_,λds e=>?_⟩
 .rw[e]at k;simp only[A9,S0]at k;exact k.1
 .rw[e]at k;simp only[A9,S0]at k;exact λd hd=>aNL<|C3.mp k.2 d hd
def aMA{L:T3}{m:Int}(M:Sto)(hm:0<m)(h:(L.length:Int)=m):∃d,ixF (.d (.list L)) (I (z % m)) M=Z (.d d,M)/\d∈L:=by
 let⟨d,k,o⟩:=DE hm h;refine⟨d,?_,o⟩;show(atI L (z % m)).bind _=_;rw[k];rfl
def uV(x:Ua)(M:Sto):gY [.d x] M=Z (B<|oS x,M):=by cases x<;>rfl
def aLW(n:Int)(d:Ua):lw 0 (n-1) d=plc n d:=by
 cases d with
 |int i=>
  show(decide (0<=i)&&decide (i<=n-1))=(decide (0<=i)&&decide (i<n));rw[show decide (i<=n-1)=decide (i<n)from decide_eq_decide.mpr 61]
 |_=>rfl
def aIT(n:Int)(ds:T3):(ds.filter λd=>!plc n d).isEmpty=ds.all (plc n):=by
 induction ds with
 |nil=>rfl
 |cons d ds ih=>
  cases h:plc n d with
  |true=>rw[U5 (by rw[h];decide),ih,Z2,h];rfl
  |false=>rw[U4 (by rw[h];rfl),Z2,h];rfl
def aAz{n:Int}(Q:n<=9)(t:Thg x):cE [I n,.d x] M=Z (B<|cT n x,M):=by
 cases o:oS x with
 |false=>
  have:cT n x=false:=by unfold cT;cases x<;>first|rfl|(cases o;done)
  rw[this];simp![cE,dR,uV,o]
 |true=>
  let⟨k,ds,rfl⟩:=aDZ o;have A:=t.len ds<|cB k ds;have C:=t.itm ds<|cB k ds
  have D:lD [Z (I n),Z (.d (Rw k ds))] M=Z (.d (.list (ds.filter λd=>!plc n d)),M):=by
   refine kN (aFB (k:=k) (ds:=ds) (by simp![])) (by rw[A6];omega) ?_<|C5 (Y4 ..) 61;have:=lc2 (c:=gF aOi) (e:=aE 1) (t:=λd=>!plc n d) (a:=Z<|I n) (M:=M) ds Y (λd _=>by simp![aQY,aLW]) (λd _ _=>rfl);rw[List.map_id']at this;exact this
  have nn:=ne_nil (ds:=ds.filter λd=>!plc n d) (M:=M) λd hd=>C d (A0e.mp hd).1;rw[aIT]at nn;cases ha:ds.all (plc n)with
  |false=>
   have:cT n (Rw k ds)=false:=by unfold cT;rw[cB];dsimp only;rw[ha];rfl
   rw[this];rw[ha]at nn;simp![cE,dR,uV,o,D,nn,show(0:Nat)<=bv from E6 _]
  |true=>
   rw[ha]at nn;let⟨ns,rfl,hn⟩:=yB ha;rw[A6]at A;rw[HP ha]
   have H:FF ns=true:=C3.mpr λi hi=>by
    have:=hn i hi;rw[B8 this.1,B8 61];rfl
   have K:wB xq0 [Z (I n),Z (.d (Rw k<|ns.map .int))] M=Z (.d (.list ((bK<|iN ns).map .int)),M):=by
    have E:FO (ns.map .int) M=Z (.d (.list ((bK<|iN ns).map .int)),M):=by
     unfold FO;rw[ints_map,A2,A8 ⟨H,61⟩]
    cases k
    .simp![wB];exact E
    .simp![wB];exact E
   have mem:∀i∈bK (iN ns),0<=i/\i<1000:=λi hi=>by
    have F:=(cN _).mem_iff.mp hi;rw[<- pV]at F;have G:(firstMet (λi=>ns.getD i 0) ns.length).any (·==i)=true:=U0.mpr ⟨i,F,67⟩;rw[firstMet_any]at G;let⟨y,O,e⟩:=U0.mp G;let⟨q,u,rfl⟩:=D3.mp O;have u:=E4.mp u;have e:ns.getD q 0=i:=by simpa using e
    have hm:ns.getD q 0∈ns:=by rw[D9,C0 u];exact U9 u
    have:=hn _ hm;omega
   have P:eqX false (.d (.list (ns.map .int))) (.d (.list ((bK<|iN ns).map .int))) M=Z (B<|(lts ns).all id,M):=by
    show(if (cj (.list (ns.map .int))&&cj (.list ((bK<|iN ns).map .int)))=true then Z (B<|cn (.list (ns.map .int)) (.list ((bK<|iN ns).map .int)),M)else Y)=_;rw[sR C,sR<|QD mem]
    have:cn (.list (ns.map .int)) (.list ((bK<|iN ns).map .int))=(lts ns).all id:=by
     show PyData.eqvAll (ns.map .int) ((bK<|iN ns).map .int)=_;rw[uL];have q:=aIQ ns;by_cases h:ns=bK (iN ns)
     .rw[B8 h,q.mp h]
     .rw[D0 h];cases c:(lts ns).all id with
      |false=>rfl
      |true=>exact absurd (q.mpr c) h
    rw[this];rfl
   simp![cE,dR,uV,o,D,nn,show(0:Nat)<=bv from E6 _,aAn,K,P]
def zA{n:Int}(h:cT n x=true):∃(k:Bool)(ns:T6),x=Rw k (ns.map .int)/\∀i∈ns,0<=i/\i<n:=by
 have o:oS x=true:=by
  cases x<;>first|rfl|(cases h;done)
 let⟨k,ds,rfl⟩:=aDZ o;unfold cT at h;rw[cB]at h;rw[A9]at h;let⟨ns,rfl,hn⟩:=yB h.1;exact⟨k,ns,rfl,hn⟩
def NO{ys:T6}:inD false (I i) (.d (Rw k<|ys.map .int)) M=Z (B (ys.any λj=>j==i),M):=by
 have h:(ys.map PyData.int).all cj=true:=by rw[A2n];exact C3.mpr λ_ _=>rfl
 have an:((ys.map PyData.int).any λd=>cn d (.int i))=ys.any λj=>j==i:=by rw[List.any_map];rfl
 show(aR<|Rw k<|ys.map .int).bind _=_;rw[cB,A2];rw[h,show(cj (.int i)&&true)=true from rfl,A8 rfl];show Z (B ((ys.map PyData.int).any λd=>cn d (.int i)),M)=_;rw[an]
def YG(hd:aR d=Z (ns.map .int))(h:ns.length<64):zO [.d d] M=Z (.d (.list ((bK ns).map .int)),M):=by
 cases d with
 |list xs=>cases hd;show(mC _).bind _=_;rw[ints_map,A2,A8 h]
 |tuple xs=>cases hd;show(mC _).bind _=_;rw[ints_map,A2,A8 h]
 |_=>cases hd
theorem aCB{k:Type}{g:GF}{e:EF}{M:Sto}(f:k->CD)(h:k->Ua){Sh:Ga->Prop}:∀(xs:Tv k)(γ:Ga),Sh γ->(∀x∈xs,∀γ,Sh γ->∃γ1,Sh γ1/\g (f x) γ M=Z (γ1,M)/\e γ1 M=Z (.d (h x),M))->∃γ',Sh γ'/\lcG g cK e (xs.map f) γ M=Z (((xs.map h).map .d,γ'),M)
 |[]=>λγ s _=>⟨γ,s,rfl⟩
 |x::xs=>λγ s o=>by
  let⟨γ1,s1,t,u⟩:=o x B0 γ s;let⟨γ',s',ih⟩:=aCB f h xs γ1 s1 λy A=>o y<|A7 _ A;refine⟨γ',s',?_⟩;rw[C6];unfold lcG;rw[t,A2];unfold cK;rw[A2];rw[A8 rfl,u,A2];unfold cK at ih;rw[ih];rfl
theorem aCO{o:Type}{g:GF}{k:AF}{e:EF}{M:Sto}(t:o->CD)(H:o->T3){Sh:Ga->Prop}:∀(ys:Tv o)(γ:Ga),Sh γ->(∀y∈ys,∀γ,Sh γ->∃γ1 xs h,Sh h/\g (t y) γ M=Z (γ1,M)/\k γ1 M=Z (xs,M)/\lcG u cK e xs γ1 M=Z (((H y).map .d,h),M))->RH g cK k u cK e (ys.map t) γ M=Z ((ys.flatMap H).map .d,M)
 |[]=>λγ s _=>rfl
 |y::ys=>λγ s A=>by
  let⟨γ1,xs,h,s2,B,C,D⟩:=A y B0 γ s;have ih:=aCO t H ys h s2 λz E=>A z<|A7 _ E;rw[C6];unfold RH;rw[B,A2];rw[show cK γ1 M=Z (true,M)from rfl,A2];rw[A8 rfl,C,A2];rw[D,A2];rw[ih,A0d,E3];rfl
def aGG{f f2:AF}(it:f γ M=Z (xs,M))(h:RH g cK f2 k cK e xs (qI cap γ) M=Z (ds.map .d,M))(o:ds.length<=900):aDw cap f g cK f2 k cK e γ M=Z (.d (.list ds),M):=by
 unfold aDw;rw[it,A2];rw[h,A2];rw[lU,A2,A8 (by have:=sz<|B3 _;omega)]
def bZ(d:Ua):T6:=match aR d with
 |some es=>(mC es).getD []
 |none=>[]
def EM:bZ (Rw k<|ns.map .int)=ns:=by
 unfold bZ;rw[cB];dsimp only;rw[ints_map];rfl
def aES{ps:Nat}{b:SFX}{x:CD}(h:xs.length=ps)(k:b (xs.map Z++List.replicate (N-xs.length) Y) M=Z (.o (.rt x),M')):fnX ps N b xs M=Z (.v x,M'):=by simp only[fnX,A8 h,k,A2]
def XO{ps:Nat}{b:SFX}{e:Exc}(h:xs.length=ps)(k:b (xs.map Z++List.replicate (N-xs.length) Y) M=Z (.xc γ e,M')):fnX ps N b xs M=Z (.x e,M'):=by simp only[fnX,A8 h,k,A2]
def aAr{f g:SFX}(h:f γ M=Z (.o (.nx γ'),M')):xX f g γ M=g γ' M':=by simp only[xX,h,A2]
def SY{f g:SFX}{e:Exc}(h:f γ M=Z (.xc γ' e,M')):xX f g γ M=Z (.xc γ' e,M'):=by simp only[xX,h,A2]
def aIO{F:FX}{M1 M2:Sto}{v:CD}(h:fa γ M=Z (xs,M1))(k:F xs M1=Z (.v v,M2)):qZ (kM F<|liA fa) γ M=Z (.o (.nx γ),M2):=by simp only[qZ,kM,BY,liA,h,k,A2]
def WO{F:FX}{M1 M2:Sto}{e:Exc}(h:fa γ M=Z (xs,M1))(k:F xs M1=Z (.x e,M2)):qZ (kM F<|liA fa) γ M=Z (.xc γ e,M2):=by simp only[qZ,kM,BY,liA,h,k,A2]
def aCL{f:SF}{o:Out}(h:f γ M=Z (o,M')):liS f γ M=Z (.o o,M'):=by simp only[liS,h,A2]
def aKo{ds:T3}(h:∀d∈ds,Thg d)(l:ds.length<=9):oV ds=true/\mS ds<=3600018/\PyData.depthAll ds<=4:=by
 refine⟨LP λd hd=>(h d hd).fit.ok,?_,?_⟩
 .have:=UH (λd hd=>(h d hd).fit.wt) l;omega
 .clear l
  induction ds with
  |nil=>exact E6 _
  |cons d ds ih=>
   exact Nat.max_le.mpr ⟨(h d B0).fit.dp,ih λx k=>h x<|A7 _ k⟩
structure TH(x:Ua):Prop where
 fit:Fit 4000000 6 x
 it:∀ds,aR x=Z ds->ds.length<=9/\∀d∈ds,Thg d
def aEd{ds:T3}(h:∀d∈ds,Thg d)(l:ds.length<=9):TH (Rw k ds):=by
 let⟨a,b,c⟩:=aKo h l;refine⟨?_,λes o=>by rw[cB]at o;cases o;exact⟨l,h⟩⟩;cases k
 .exact⟨a,by show mS ds+3<=4000000;omega,by show PyData.depthAll ds+1<=6;omega⟩
 .exact⟨a,by show mS ds+3<=4000000;omega,by show PyData.depthAll ds+1<=6;omega⟩
def thB(d:Ua):Bool:=oks d&&decide (wt d<=4000000)&&decide (d.depth<=6)&&(match aR d with|some ds=>decide (ds.length<=9)&&ds.all aMI|none=>true)
def aPn(h:thB d=true):TH d:=by
 unfold thB at h;simp only[A9,S0]at h;let⟨⟨⟨o,t⟩,u⟩,k⟩:=h;refine⟨⟨o,t,u⟩,λds e=>?_⟩;rw[e]at k;simp only[A9,S0]at k;exact⟨k.1,λd hd=>UG<|C3.mp k.2 d hd⟩
abbrev itO(d:Ua):T3:=(aR d).getD []
structure TG(x:Ua):Prop where
 th:TH x
 tot:∀ds,aR x=Z ds->(ds.flatMap itO).length<=60
def Thg.l60(h:Thg x):∀ds,aR x=Z ds->ds.length<=60:=λds e=>C5 (h.len ds e) 66
noncomputable def upZ(n:Nat):T6:=(List.range n).map λi:Nat=>(i:Int)
def aAm(n:Nat):OG 0 n=(upZ n).map .int:=by
 unfold OG upZ;rw[J0];refine O8 λi _=>?_;show PyData.int (0+(i:Int))=.int (i:Int);rw[Int.zero_add]
def XM(o:n<=8)(h:f γ M=Z (I n,M)):wQ (aC f aN) γ M=Z (.d (.tuple ((upZ n).map .int)),M):=by
 unfold wQ;rw[aF h aP,A2];obtain⟨J,k⟩:∃J:Int,J=(n:Int):=⟨_,rfl⟩;have:J.toNat=n:=61
 rw[<- k];show(if cW J=true/\J.toNat<=bv then Z (CD.d (.tuple (OG 0 J.toNat)),M)else Y)=_;rw[A8 ⟨JT 61 61,by rw[this];exact sz 61⟩,this,aAm]
def aHA(o:n<=8)(h:f γ M=Z (I n,M)):HL false (aC f aN) γ M=Z (.d (.list ((upZ n).map .int)),M):=by
 unfold HL;rw[aF h aP,A2];obtain⟨J,k⟩:∃J:Int,J=(n:Int):=⟨_,rfl⟩;have:J.toNat=n:=61
 rw[<- k];show(if cW J=true/\J.toNat<=bv then(if false=true then Z (CD.c M.length,M++[.lst (iB 0 J.toNat)])else Z (CD.d (.list (OG 0 J.toNat)),M))else Y)=_;rw[A8 ⟨JT 61 61,by rw[this];exact sz 61⟩,B7 66,this,aAm]
def dQ(p:Int)(g:Ua):Bool:=(bZ g).any λj=>j==p
def bP(gs:T3):T6:=gs.flatMap bZ
def uK(ps:T6)(gs:T3):Bool:=(ps.zip gs).all λq=>dQ q.1 q.2
def apD(n:Nat)(ps:T6)(x:Ua):Bool:=match aR x with
 |some gs=>decide (gs.length=ps.length)&&(gs.all (cT n)&&(decide (bK (bP gs)=upZ n)&&uK ps gs))
 |none=>false
def nV(n:Int)(x:Ua):Bool:=cT n x&&decide (2<=(itO x).length)
def aOh{c:TF}{f g:SFX}(h:c γ M=Z (true,M')):PZ c f g γ M=f γ M':=by simp only[PZ,h,A2,A0g]
def aQk{c:TF}{f g:SFX}(h:c γ M=Z (false,M')):PZ c f g γ M=g γ M':=by simp only[PZ,h,A2,A0l,A2p]
def aCN{n:Int}(o:gM M w n ws)(t:∀ds,aR x=Z ds->ds.length<=60):jN [.c w,.d x] M=Z (if nV n x=true then .v (.d .none)else .x ⟨"NoPlace",[]⟩,M):=by
 have r:aM bT (aC UJ xq0) [Z (.c w),Z (.d x)] M=Z (B<|cT n x,M):=aV (aF (o.many rfl)<|aF rfl aP)<|RM t
 have c:gOr (gF<|gB aLE) (gB<|fOp ltI WC<|fC (.int 2)) [Z (.c w),Z (.d x)] M=Z (!nV n x,M):=by
  have e:(!nV n x)=(!cT n x || !decide (2<=(itO x).length)):=by unfold nV;cases cT n x<;>rfl
  rw[e];refine FT (nP<|dN r) λh=>?_;have h:cT n x=true:=by cases q:cT n x with|true=>rfl|false=>rw[q]at h;cases h
  let⟨k,ns,rfl,_⟩:=zA h;refine dN<|bF (aV (aF rfl aP) wH) aDB ?_;rw[aER];have:itO (Rw k<|ns.map .int)=ns.map .int:=by show(aR _).getD []=_;rw[cB];rfl
  rw[this];congr 2;rw[A6];obtain⟨J,u⟩:∃J:Int,J=(ns.length:Int):=⟨_,rfl⟩;by_cases q:2<=ns.length
  .rw[B8 q,D0 61];rfl
  .rw[D0 q,B8 61];rfl
 cases q:nV n x with
 |true=>
  rw[q]at c;show fnX 2 2 cL _ M=_;show(cL [Z (.c w),Z (.d x)] M).bind _=_;unfold cL;rw[aQk c];rfl
 |false=>
  rw[q]at c;refine XO (γ:=[Z (.c w),Z (.d x)]) rfl ?_;show cL [Z (.c w),Z (.d x)] M=_;unfold cL;rw[aOh c];rfl
def wK{n:Int}{g:Ua}(h:cT n g=true):∃k,g=Rw k ((bZ g).map .int)/\aR g=Z ((bZ g).map .int)/\(∀i∈bZ g,0<=i/\i<n)/\(bZ g).Pairwise (·<·):=by
 let⟨k,ns,rfl,hn⟩:=zA h;rw[EM];refine⟨k,rfl,cB ..,hn,?_⟩;rw[HP (NA hn)]at h;exact(DY ns).mp h
def DM{n:Int}(h:gs.all (cT n)=true):gs.flatMap itO=(bP gs).map .int:=by
 unfold bP;rw[List.map_flatMap]
 induction gs with
 |nil=>rfl
 |cons g gs ih=>
  rw[Z2,A9]at h;let⟨k,_,e,_⟩:=wK h.1;rw[A0d,A0d,ih h.2];congr 1;show(aR g).getD []=_;rw[e];rfl
def aEU{n:Int}(u:aR x=Z gs)(h:gs.all (cT n)=true)(B:gs.length<=60)(C:(bP gs).length<=60):FH [.d x] M=Z (.d (.tuple ((bK<|bP gs).map .int)),M):=by
 have A:HF [Z (.d x)] M=Z (.d (.list ((bP gs).map .int)),M):=by
  refine aGG (CC (rX rfl) u) ?_ (by rw[A6];omega);rw[<- DM h];refine aCO (Sh:=λγ=>∃a b,γ=[a,b]) .d itO gs _ ⟨Y,Y,rfl⟩ ?_;rintro r o γ ⟨a,b,rfl⟩;let⟨k,_,t,_⟩:=wK<|C3.mp h r o
  let⟨γ',s',q⟩:=aCB (g:=cq 1) (e:=aE 1) (Sh:=λγ=>∃a b,γ=[a,b]) .d id ((bZ r).map .int) [Z (.d r),b] ⟨_,_,rfl⟩ (by
   rintro x _ γ ⟨a,b,rfl⟩;exact⟨_,⟨a,Z (.d x),rfl⟩,rfl,rfl⟩)
  refine⟨[Z (.d r),b],((bZ r).map PyData.int).map .d,γ',s',rfl,CC (rX rfl) t,?_⟩;rw[show itO r=(bZ r).map .int by show(aR r).getD []=_;rw[t];rfl];rw[List.map_id]at q;exact q
 refine gK rfl<|gR ?_;exact aV (aF (aV (aF A aP)<|YG rfl 61) aP) rfl
def aDJ(ns:T6):cj (.tuple (ns.map .int))=true:=by
 unfold cj;have h:PyData.canLay0 (.tuple (ns.map .int))=true:=oE ns
 have k:PyData.depth (.tuple (ns.map .int))<=64:=by
  show PyData.depthAll (ns.map .int)+1<=64;rw[lV];decide
 rw[h,B8 k];rfl
def aPD{a b:T6}:eqX true (.d (.tuple (a.map .int))) (.d (.tuple (b.map .int))) M=Z (B (!decide (a=b)),M):=by
 show(if (cj (.tuple (a.map .int))&&cj (.tuple (b.map .int)))=true then Z (CD.d (.bool (!PyData.eqvAll (a.map .int) (b.map .int))),M)else Y)=_;rw[aDJ,aDJ,A8 (show(true&&true)=true from rfl),uL]
theorem aCK:∀(ps:T6)(gs:T3),tF (ps.map .int) gs=(ps.zip gs).map λq=>CD.d (.tuple [.int q.1,q.2])
 |[],_=>rfl
 |_::_,[]=>rfl
 |p::ps,g::gs=>by
  show _::tF (ps.map .int) gs=_;rw[aCK ps gs];rfl
structure Pls(n:Nat)(ps:T6):Prop where
 ris:ps.Pairwise (·<·)
 bd:∀i∈ps,0<=i/\i<n
 two:2<=ps.length
 le:ps.length<=8
def Pls.risB(h:Pls n ps)(k:Bool):cT n (Rw k<|ps.map .int)=true:=by
 rw[HP (NA h.bd),(DY ps).mpr h.ris]
def Pls.told(h:Pls n ps)(k:Bool):nV n (Rw k<|ps.map .int)=true:=by
 unfold nV;rw[h.risB,show itO (Rw k<|ps.map .int)=ps.map .int by show(aR _).getD []=_;rw[cB];rfl,A6,B8 h.two];rfl
def aLy(h:ns.length<=60):∀ds,aR (Rw k<|ns.map .int)=Z ds->ds.length<=60:=λds e=>by rw[cB]at e;cases e;rw[A6];exact h
def aDR(h:aR x=Y)(m:Int):fJ x m=false:=by unfold fJ;rw[h]
abbrev G3(w:Nat)(p x:Ua):Ga:=[Z (.c w),Z (.d p),Z (.d x)]
def TR{kp:Bool}(G:n<=8)(D:gM M w n ws)(H:Pls n ps)(tg:TG x):
 (bC (sIf aPW
 xq8
 cJ)
 (bC (sIf (gB aLp)
  xq8
  cJ)
 (cF (aM wR (aC pZ aN)))):SF) (G3 w (Rw kp (ps.map .int)) x) M=Z (.rt (B (apD n ps x)),M):=by
 have ln:aM pO xq0 (G3 w (Rw kp<|ps.map .int) x) M=Z (I (ps.length:Nat),M):=by
  refine aV (aF rfl aP) ?_;rw[wH,A6]
 have C:aM iK (aC (aE 2)<|aC WC aN) (G3 w (Rw kp<|ps.map .int) x) M=Z (B<|fJ x (ps.length:Nat),M):=aV (aF rfl<|aF ln aP)<|fP ..;have u:cF aBs (G3 w (Rw kp<|ps.map .int) x) M=Z (.rt (B false),M):=rfl;cases o:aR x with
 |none=>
  rw[aDR o]at C;have t:=FT (b:=true) (g:=gF<|gB<|aM wR<|aC qV aN) (nP<|dN C) (λh=>by cases h);rw[jR ((eP t).trans u)];unfold apD;rw[o]
 |some gs=>
  have K:fJ x (ps.length:Nat)=decide (gs.length=ps.length):=by
   unfold fJ;rw[o];show((gs.length:Int)==(ps.length:Int))=_;rw[aHe];by_cases q:gs.length=ps.length
   .rw[B8 q,q];simp
   .rw[D0 q];simpa using q
  rw[K]at C;have V:=(tg.th.it gs o).1
  have O:qV (G3 w (Rw kp<|ps.map .int) x) M=Z (.d (.list (gs.map λg=>.bool (cT n g))),M):=by
   refine aCS (rX rfl) o 61 λg P=>?_;exact aV (aF (D.many rfl)<|aF rfl aP)<|RM ((tg.th.it gs o).2 g P).l60
  have al:=aV (aF O aP) all_map';have t1:=FT (nP<|dN C) λ_=>nP<|dN al;have Q:apD n ps x=(decide (gs.length=ps.length)&&(gs.all (cT n)&&(decide (bK (bP gs)=upZ n)&&uK ps gs))):=by unfold apD;rw[o]
  rw[Q];by_cases E:gs.length=ps.length
  .rw[B8 E]at t1 ⊢;cases A:gs.all (cT n)with
   |false=>
    rw[A]at t1;rw[jR ((eP t1).trans u)];rfl
   |true=>
    rw[A]at t1;rw[aQ ((bY t1).trans rfl)]
    have R:(bP gs).length<=60:=by
     have:=tg.tot gs o;rw[DM A,A6]at this;exact this
    have t2:gB aLp (G3 w (Rw kp<|ps.map .int) x) M=Z (!decide (bK (bP gs)=upZ n),M):=
     dN (bF (aV (aF rfl aP)<|aEU o A 61 R) (XM G<|D.many rfl) aPD)
    by_cases F:bK (bP gs)=upZ n
    .rw[B8 F]at t2 ⊢;rw[aQ ((bY t2).trans rfl)];have W:(ps.zip gs).length<=60:=by rw[List.length_zip];have:=H.le;omega
     have T:pZ (G3 w (Rw kp<|ps.map .int) x) M=Z (.d (.list ((ps.zip gs).map λq=>.bool (dQ q.1 q.2))),M):=by
      have it:CH (aC (aE 1) xq1) (G3 w (Rw kp<|ps.map .int) x) M=Z ((ps.zip gs).map λq=>CD.d (.tuple [.int q.1,q.2]),M):=by
       unfold CH;rw[aF (rX rfl) (aF (rX rfl) aP),A2];dsimp only;rw[cB,o];dsimp only;rw[aCK]
      refine kN it (by rw[A6];omega) ?_ (by rw[A6];omega);refine aDk (Inv:=λγ=>∃a b,γ=[a,b]) _ (λq:Int×Ua=>.bool (dQ q.1 q.2)) (ps.zip gs) ?_ _ ⟨Y,Y,rfl⟩;rintro⟨p,g⟩ U γ ⟨a,b,rfl⟩;refine⟨[Z (I p),Z (.d g)],rfl,?_,_,_,rfl⟩;let⟨k,e,_⟩:=wK<|C3.mp A g (A2g U).2
      have:=bF (k:=inD false) (f:=aE 0) (g:=aE 1) (γ:=[Z (I p),Z (.d g)]) (M:=M) rfl rfl (c:=B<|dQ p g) (M3:=M) (by
       unfold dQ;generalize bZ g=ns at e;subst e;exact NO)
      exact this
     refine(gR<|aV (aF T aP)<|all_map').trans ?_;rfl
    .rw[D0 F]at t2 ⊢;rw[jR ((eP t2).trans u)];rfl
  .rw[D0 E]at t1 ⊢;rw[jR ((eP t1).trans u)];rfl
def DC(t:n<=8)(o:gM M w n ws)(k:Pls n ps)(tg:TG x):eF [.c w,.d (Rw kp<|ps.map .int),.d x] M=Z (.v (B<|apD n ps x),M):=by
 have h:=aCN (x:=Rw kp<|ps.map .int) o<|aLy (by have:=k.le;omega);rw[k.told,A8 rfl]at h;refine aES rfl ?_;unfold xC;rw[aAr (aIO (aF rfl<|aF rfl aP) h)];exact aCL<|TR t o k tg
def WY{n:Int}(k:gM M w n ws)(o:∀ds,aR p=Z ds->ds.length<=60)(t:nV n p=false):eF [.c w,.d p,.d x] M=Z (.x ⟨"NoPlace",[]⟩,M):=by
 have h:=aCN k o;rw[t,B7 66]at h;refine XO (γ:=G3 w p x) rfl ?_;exact SY<|WO (aF rfl<|aF rfl aP) h
def agL(n:Int)(ps:T6):T6->T3->T6->Tx (T6)
 |q::qs,g::gs,f=>if cT n g=true/\ps.filter (λp=>dQ p g)=[q]then agL n ps qs gs (f++bZ g)else Y
 |_,[],f=>Z f
 |[],_::_,_=>Y
theorem aEX{n:Int}{ps:T6}:∀(qs:T6)(gs:T3)(f:T6),qs.length=gs.length->agL n ps qs gs f=if (gs.all (cT n)&&(qs.zip gs).all λz=>decide (ps.filter (λp=>dQ p z.2)=[z.1]))=true then Z (f++bP gs)else Y
 |[],[]=>λf _=>by
  show Z f=_;simp[bP]
 |q::qs,g::gs=>λf h=>by
  have ih:=aEX (n:=n) (ps:=ps) qs gs (f++bZ g) (by simpa using h);show(if cT n g=true/\ps.filter (λp=>dQ p g)=[q]then agL n ps qs gs (f++bZ g)else Y)=_;rw[ih,Z2,List.zip_cons_cons,Z2];have e:f++bP (g::gs)=f++bZ g++bP gs:=by unfold bP;rw[A0d,L7]
  rw[e];by_cases k:cT n g=true
  .by_cases o:ps.filter (λp=>dQ p g)=[q]
   .rw[A8 ⟨k,o⟩,k,B8 o,U8,U8]
   .rw[B7 λz=>o z.2,D0 o,B7 67]
  .rw[B7 λz=>k z.1,B7 (by simp[k])]
 |[],_::_=>λ_ h=>by cases h
 |_::_,[]=>λ_ h=>by cases h
theorem RR{k o:Type}:∀{qs:Tv k}{gs:Tv o}{p:k},qs.length=gs.length->p∈qs->∃g∈gs,(p,g)∈qs.zip gs
 |q::qs,g::gs,p,h,hp=>by
  obtain rfl|hp:=C1.mp hp
  .exact⟨g,B0,by rw[List.zip_cons_cons];exact B0⟩
  .let⟨t,a,b⟩:=RR (by simpa using h) hp;exact⟨t,A7 _ a,by rw[List.zip_cons_cons];exact A7 _ b⟩
 |_::_,[],_,h,_=>by cases h
def memB_iff{p:Int}{g:Ua}:dQ p g=true↔p∈bZ g:=by
 unfold dQ;rw[U0]
 exact⟨λ⟨j,k,e⟩=>by
  have:j=p:=by simpa using e
  exact this▸k,λh=>⟨p,h,67⟩⟩
def yA{g:Ua}{p:Int}(h:g∈gs)(k:p∈bZ g):p∈bP gs:=List.mem_flatMap.mpr ⟨g,h,k⟩
theorem WT:∀(qs:T6)(gs:T3),qs.length=gs.length->(bP gs).Nodup->(∀z∈qs.zip gs,z.1∈bZ z.2)->∀z∈qs.zip gs,qs.filter (λp=>dQ p z.2)=[z.1]
 |q::qs,g::gs=>λh nd hm z hz=>by
  have h':qs.length=gs.length:=by simpa using h
  have k:=nd;let⟨D,A,t⟩:=Y3.mp k;have u:=hm (q,g) B0
  have rest:∀p∈qs,p∈bP gs:=λp o=>by
   let⟨B,a,b⟩:=RR h' o;exact yA a<|hm (p,B)<|A7 _ b
  obtain rfl|hz:=C1.mp hz
  .show(q::qs).filter (λp=>dQ p g)=[q];rw[U4 (p:=λp=>dQ p g) (memB_iff.mpr u)];congr 1;refine List.filter_eq_nil_iff.mpr λp o e=>?_;exact t p (memB_iff.mp e) p (rest p o) rfl
  .have ih:=WT qs gs h' A (λy C=>hm y<|A7 _ C) z hz;rw[U5 λe=>?_,ih];exact t q u q (yA (A2g hz).2 (memB_iff.mp e)) rfl
 |[],[]=>λ_ _ _ _ hz=>by cases hz
 |[],_::_=>λh _ _ _ _=>by cases h
 |_::_,[]=>λh _ _ _ _=>by cases h
def aCt(n:Nat):(upZ n).Nodup:=by
 exact List.Pairwise.map _ (λa b h e=>h 61)<|List.nodup_range
def NX(h:bK (bP gs)=upZ n):(bP gs).Nodup:=(cN _).nodup_iff.mp (h▸aCt n)
def agB(n:Nat)(ps:T6)(gs:T3):Bool:=match agL n ps ps gs []with
 |some f=>decide (bK f=upZ n)
 |none=>false
def aPQ(h:gs.length=ps.length):agB n ps gs=(gs.all (cT n)&&(decide (bK (bP gs)=upZ n)&&uK ps gs)):=by
 unfold agB;rw[aEX ps gs [] h.symm];cases u:gs.all (cT n)with
 |false=>rfl
 |true=>
  rw[U8,U8,A1o];by_cases k:bK (bP gs)=upZ n
  .rw[B8 k,U8]
   have e:((ps.zip gs).all λz=>decide (ps.filter (λp=>dQ p z.2)=[z.1]))=uK ps gs:=by
    rw[A0y];unfold uK;rw[C3,C3];constructor
    .intro q z o;have:=C8<|q z o;have m:z.1∈ps.filter (λp=>dQ p z.2):=by rw[this];exact B4.mpr rfl
     exact(A0e.mp m).2
    .intro q z o;exact B8<|WT ps gs h.symm (NX k) (λy t=>memB_iff.mp<|q y t) z o
   rw[e];cases uK ps gs with
   |true=>rw[A8 rfl];exact B8 k
   |false=>rw[B7 66]
  .rw[D0 k,A0u];by_cases q:((ps.zip gs).all λz=>decide (ps.filter (λp=>dQ p z.2)=[z.1]))=true
   .rw[A8 q];exact D0 k
   .rw[B7 q]
def aGS{b:SF}{x v:CD}{M1 M2:Sto}(h:g x γ M=Z (γ1,M1))(k:b γ1 M1=Z (.rt v,M2)):mH g b (x::xs) γ M=Z (.rt v,M2):=by
 conv=>lhs;unfold mH
 rw[h,A2];rw[k];rfl
def aQt{a b:T6}:eqX true (.d (.list (a.map .int))) (.d (.list (b.map .int))) M=Z (B (!decide (a=b)),M):=by
 show(if (cj (.list (a.map .int))&&cj (.list (b.map .int)))=true then Z (CD.d (.bool (!PyData.eqvAll (a.map .int) (b.map .int))),M)else Y)=_;rw[HQ,HQ,A8 (show(true&&true)=true from rfl),uL]
def aPs{a b:T6}:eqX false (.d (.list (a.map .int))) (.d (.list (b.map .int))) M=Z (B<|decide (a=b),M):=by
 show(if (cj (.list (a.map .int))&&cj (.list (b.map .int)))=true then Z (CD.d (.bool (PyData.eqvAll (a.map .int)<|b.map .int)),M)else Y)=_;rw[HQ,HQ,A8 (show(true&&true)=true from rfl),uL]
def LU{xs:T3}(k:xs.length+ys.length<=1000):dP (.d (.list xs)) (.d (.list ys)) M=Z (.d (.list (xs++ys)),M):=by
 have h:=sz k
 have c:aNO (.d (.list xs)) (.d (.list ys)) M=Z (.d (.list (xs++ys)),M):=by
  show(kI (xs.map CD.d++ys.map CD.d)).bind _=_;rw[<- E3,lU,A2,A8 (by rw[B6];exact h)]
 simp only[dP,QC,aNt,pI,c]
abbrev GR(n:Int)(p x:Ua)(f:T6)(k g:Te):Ga:=[Z (I n),Z (.d p),Z (.d x),Z (.d (.list (f.map .int))),k,g]
abbrev gE:GF:=fR 2 aBP
def aQw{q:Int}(h:ps.drop k=q::qs):ixF (.d (Rw kp<|ps.map .int)) (I k) M=Z (I q,M):=by
 refine OE (cB ..)<|lM ?_
 have:ps[k]?=Z q:=by
  have:=Z7 (λl=>l[0]?) h;simpa using this
 rw[D7,this];rfl
def aGH{kp:Bool}{x g:Ua}{f:T6}{q:Int}{M:Sto}(F:n<=8)(C:Pls n ps)(tg:Thg g)(h:ps.drop k=q::qs)(G:f.length+(itO g).length<=200):
 cY (GR n (Rw kp<|ps.map .int) x f (Z<|I k)<|Z (.d g)) M=if cT n g=true/\ps.filter (λp=>dQ p g)=[q]then Z (.nx (GR n (Rw kp<|ps.map .int) x (f++bZ g) (Z<|I k)<|Z (.d g)),M)else Z (.rt (B false),M):=by
 have r:=aAz (n:=n) (M:=M) 61 tg;have r:gF (gB<|aM cE<|aC (aE 0) VD) (GR n (Rw kp<|ps.map .int) x f (Z<|I k)<|Z (.d g)) M=Z (!cT n g,M):=nP<|dN<|aV (aF rfl<|aF rfl aP) r;unfold cY;cases A:cT n g with
 |false=>
  rw[A]at r;rw[jR ((eP r).trans rfl),B7 λz=>by cases z.1]
 |true=>
  rw[A]at r;rw[aQ ((bY r).trans rfl)];let⟨H,o,D,_⟩:=wK A
  have c:lA (GR n (Rw kp<|ps.map .int) x f (Z<|I k)<|Z (.d g)) M=Z (.d (.list ((ps.filter λp=>dQ p g).map .int)),M):=by
   refine kN (aFB rfl) (by rw[A6,A6];have:=C.le;omega) ?_ (by rw[A6];exact C5 (Y4 ..) (by have:=C.le;omega));have key:=EB (i:=1) (c:=gB<|fOp (inD false) (aE 1)<|aE 0) (e:=aE 1) (M:=M) (λp:Int=>I p) (λp=>dQ p g) (λp=>.int p) ps [Z (.d g),Y] (λy=>rfl) λp _=>⟨?_,65⟩
   .rw[J0];exact key
   .refine dN<|bF rfl rfl ?_;unfold dQ;generalize bZ g=ns at o;subst o;exact NO
  have t:gB aQj (GR n (Rw kp<|ps.map .int) x f (Z<|I k)<|Z (.d g)) M=Z (!decide (ps.filter (λp=>dQ p g)=[q]),M):=
   dN (bF c (YN<|bF rfl rfl<|aQw h)<|aQt (b:=[q]))
  by_cases u:ps.filter (λp=>dQ p g)=[q]
  .rw[B8 u]at t;rw[aQ ((bY t).trans rfl),A8 ⟨rfl,u⟩];have E:itO g=(bZ g).map .int:=by show(aR g).getD []=_;rw[D];rfl
   have ad:fOp dP (aE 3) (aM uQ VD) (GR n (Rw kp<|ps.map .int) x f (Z<|I k)<|Z (.d g)) M=Z (.d (.list ((f++bZ g).map .int)),M):=by
    rw[E3];refine bF rfl (aV (aF rfl aP) ?_)<|LU (by rw[A6,<- E];omega);generalize bZ g=ns at o;subst o;exact aAn
   exact bH ad
  .rw[D0 u]at t;rw[jR ((eP t).trans rfl),B7 λz=>u z.2]
theorem YT{n:Nat}{ps:T6}{kp:Bool}{x:Ua}{M:Sto}(D:n<=8)(E:Pls n ps):∀(gs:T3)(qs f:T6)(k:Nat)(g4 g5:Te),ps.drop k=qs->qs.length=gs.length->(∀g∈gs,Thg g)->f.length+(gs.flatMap itO).length<=200->
 (agL n ps qs gs f=Y/\mH gE cY (eM k gs) (GR n (Rw kp<|ps.map .int) x f g4 g5) M=Z (.rt (B false),M)) \/
 ∃h u A,agL n ps qs gs f=Z h/\mH gE cY (eM k gs) (GR n (Rw kp<|ps.map .int) x f g4 g5) M=Z (.nx (GR n (Rw kp<|ps.map .int) x h u A),M)/\h.length<=f.length+(gs.flatMap itO).length
 |[],qs=>λf k g4 g5 _ o _ _=>by
  cases qs with
  |nil=>exact .inr ⟨f,g4,g5,rfl,rfl,Nat.le_add_right ..⟩
  |cons q qs=>cases o
 |g::gs,[]=>λf k g4 g5 _ o _ _=>by cases o
 |g::gs,q::qs=>λf k g4 g5 hd o th F=>by
  rw[A0d,B6]at F ⊢;have t:=aGH (kp:=kp) (x:=x) (f:=f) (M:=M) D E (th g B0) hd 61;rw[zY];have e:agL n ps (q::qs) (g::gs) f=if cT n g=true/\ps.filter (λp=>dQ p g)=[q]then agL n ps qs gs (f++bZ g)else Y:=rfl;by_cases c:cT n g=true/\ps.filter (λp=>dQ p g)=[q]
  .rw[A8 c]at t e;let⟨O,P,G,_⟩:=wK c.1;have Q:(itO g).length=(bZ g).length:=by show((aR g).getD []).length=_;rw[G];exact A6 _
   have C:ps.drop (k+1)=qs:=by
    have:=Z7 (List.drop 1) hd;rw[List.drop_drop]at this;exact this
   rw[e,pG rfl t];have ih:=YT (kp:=kp) (x:=x) (M:=M) D E gs qs (f++bZ g) (k+1) (Z<|I k) (Z (.d g)) C (by simpa using o) (λy H=>th y<|A7 _ H) (by rw[B6];omega);obtain ih|⟨h,u,A,i1,i2,K⟩:=ih
   .exact .inl ih
   .exact .inr ⟨h,u,A,i1,i2,by rw[B6]at K;omega⟩
  .rw[B7 c]at t e;exact .inl ⟨e,aGS rfl t⟩
def aCx(D:n<=8)(F:Pls n ps)(tg:TG x):cV [I n,.d (Rw kp<|ps.map .int),.d x] M=Z (B<|apD n ps x,M):=by
 refine gK rfl ?_;show fE [Z (I n),Z (.d (Rw kp<|ps.map .int)),Z (.d x),Y,Y,Y] M=_;unfold fE;have k:gF (gB<|aM gY xq1) [Z (I n),Z (.d (Rw kp<|ps.map .int)),Z (.d x),Y,Y,Y] M=Z (!oS x,M):=nP<|dN<|aV (aF rfl aP)<|uV ..;cases o:aR x with
 |none=>
  have A:oS x=false:=by cases x<;>first|rfl|(cases o;done)
  rw[A]at k;have t:=FT (b:=true) (g:=gB aNe) k (λh=>by cases h);rw[jR ((eP t).trans rfl)];unfold apD;rw[o]
 |some gs=>
  have A:oS x=true:=by cases x<;>first|rfl|(cases o;done)
  let⟨P,C⟩:=tg.th.it gs o
  have G:gB aNe [Z (I n),Z (.d (Rw kp<|ps.map .int)),Z (.d x),Y,Y,Y] M=Z (!decide (gs.length=ps.length),M):=by
   have ln:aM pO xq0 [Z (I n),Z (.d (Rw kp<|ps.map .int)),Z (.d x),Y,Y,Y] M=Z (I (ps.length:Nat),M):=by
    refine aV (aF rfl aP) ?_;rw[wH,A6]
   refine dN<|bF (aV (aF rfl aP)<|aIb o M) ln ?_;rw[aIi,aHe];congr 3
  rw[A]at k;have t:=FT k λ_=>G;have H:apD n ps x=(decide (gs.length=ps.length)&&(gs.all (cT n)&&(decide (bK (bP gs)=upZ n)&&uK ps gs))):=by unfold apD;rw[o]
  rw[H];by_cases u:gs.length=ps.length
  .rw[B8 u]at t ⊢;rw[aQ ((bY t).trans rfl),<- aPQ u];have s2:bA (fI aN) (cq 3) [Z (I n),Z (.d (Rw kp<|ps.map .int)),Z (.d x),Y,Y,Y] M=Z (.nx (GR n (Rw kp<|ps.map .int) x [] Y Y),M):=rfl;rw[aQ s2]
   have E:nL xq1 (GR n (Rw kp<|ps.map .int) x [] Y Y) M=Z (eM 0 gs,M):=by
    simp![nL,o];rfl
   have tot:=tg.tot gs o;have K:=YT (kp:=kp) (x:=x) (M:=M) D F gs ps [] 0 Y Y 67 u.symm C (by simp only[Z5];omega);unfold agB;obtain⟨i1,i2⟩|⟨Q,R,T,i1,i2,O⟩:=K
   .rw[i1,jR<|mU E i2];rfl
   .rw[i1,aQ<|mU E i2];simp only[Z5]at O;exact gR<|bF (aV (aF rfl aP)<|YG rfl 61) (aHA D rfl) aPs
  .rw[D0 u]at t ⊢;rw[jR ((eP t).trans rfl)];rfl
def aHF(M:Sto)(ha:0<=a)(h:a<=1000000000000)(A:1<=b)(k:b<=55440):vA [.d (.tuple [.int a,.int b])] M=Z (I (a*(55440 / b)),M):=by
 have o:vQ 55440 b=true:=uT 61<|wsm 61 61;have t:lZ a (55440 / b)=true:=aGF 61;have u:ixF (.d (.tuple [.int a,.int b])) (I 0) M=Z (I a,M):=rfl;have i1:ixF (.d (.tuple [.int a,.int b])) (I 1) M=Z (I b,M):=rfl;simp![vA,NW,u,i1,o,t]
noncomputable def amt(S:Int):Ua:=.tuple [.int (S / (Int.gcd S 55440:Int)),.int (55440 / (Int.gcd S 55440:Int))]
def aMx(M:Sto)(h:0<=S):lL [I S] M=Z (.d (amt S),M):=by
 have c:=PB (b:=55440) M h 66;have o:=YJ (a:=S) (b:=55440) 66;have t:=aFq (a:=S) (b:=55440) 66;have k:∀x,vQ x (Int.gcd S 55440:Int)=true:=λx=>uT 61<|wsm 61 61
 have l:gC [I S,I 55440] M=Z (.d (amt S),M):=by
  unfold amt;generalize (Int.gcd S 55440:Int)=g at c k;simp![gC,jQ,c,k,show(2:Nat)<=bv by decide]
 simp![lL,rC,l]
theorem aFD:∀l:T6,(∀x∈l,0<=x)->0<=l.sum
 |[]=>λ_=>67
 |x::l=>λh=>by
  have a:=h x B0;have b:=aFD l λy k=>h y<|A7 _ k;simp only[A1m];omega
def aFC{v:Int}(h:v∈wts):v / (Int.gcd v 55440:Int)*(55440 / (55440 / (Int.gcd v 55440:Int)))=v:=by
 have:wts.all λv=>decide (v / (Int.gcd v 55440:Int)*(55440 / (55440 / (Int.gcd v 55440:Int)))=v):=by decide +kernel
 exact C8<|C3.mp this v h
theorem yR:∀{l m:T6},l.Perm m->l.sum=m.sum
 |_,_,.nil=>rfl
 |_,_,.cons x h=>by simp only[A1m,yR h]
 |_,_,.swap x y l=>by simp only[A1m];omega
 |_,_,.trans k o=>(yR k).trans (yR o)
def kvG:Nat->T3->Tv (Key×CD)
 |_,[]=>[]
 |k,g::gs=>((bZ g).map λp=>((.inl p:Key),I (k:Nat)))++kvG (k+1) gs
def aMr{kvs:Tv (Key×CD)}{k:Key}{v:CD}(h:k∉kvs.map Prod.fst):putD kvs k v=kvs++[(k,v)]:=by
 unfold putD;rw[B7 λq=>?_];let⟨o,t,e⟩:=U0.mp q;exact h<|D3.mpr ⟨o,t,C8 e⟩
theorem aDH{M:Sto}{g:Te}:∀(ns:T6)(kvs:Tv (Key×CD))(s:Te),(kvs.map Prod.fst++ns.map (Sum.inl:Int->Key)).Nodup->kvs.length+ns.length<900->∃s',dcG M.length (cq 2) cK (IP<|aE 2) (aE 0) (ns.map λi=>I i) [Z (I at_),g,s] (M++[.dk kvs])=Z ([Z (I at_),g,s'],M++[.dk (kvs++ns.map λp=>((.inl p:Key),I at_))])
 |[]=>λkvs s _ _=>⟨s,by rw[List.map_nil,List.map_nil,J8];rfl⟩
 |y::ns=>λkvs s nd k=>by
  have o:=λh=>(Y3.mp nd).2.2 _ h _ B0 rfl;let⟨s',ih⟩:=aDH (M:=M) (at_:=at_) (g:=g) ns (kvs++[(.inl y,I at_)]) (Z<|I y) (by rw[E3,L7];exact nd) (by rw[B6,E9];simp only[D8]at k;omega);rw[L7,List.singleton_append]at ih;have t:kvs.length<bv:=by rw[J7];omega
  have u:cq 2 (I y) [Z (I at_),g,s] (M++[.dk kvs])=Z ([Z (I at_),g,Z<|I y],M++[.dk kvs]):=rfl;have A:IP (aE 2) [Z (I at_),g,Z<|I y] (M++[.dk kvs])=Z (.inl (.inl y),M++[.dk kvs]):=rfl;have B:aE 0 [Z (I at_),g,Z<|I y] (M++[.dk kvs])=Z (I at_,M++[.dk kvs]):=rfl
  have g3:AZ (M++[.dk kvs]) (.c M.length) (.inl (.inl y)) (I at_)=Z (M++[.dk (kvs++[(.inl y,I at_)])]):=by
   have e:(M++[Cell.dk kvs])[M.length]?=Z (.dk kvs):=iZ;simp only[AZ,e,A8 t,aMr o];rw[show(M++[Cell.dk kvs]).set M.length (.dk (kvs++[(.inl y,I at_)]))=M++[.dk (kvs++[(.inl y,I at_)])]from HE]
  exact⟨s',by simp only[C6,dcG,u,A2,cK,A0g,A,B,g3,ih]⟩
theorem WR{M:Sto}{n:Int}:∀(gs:T3)(k:Nat)(kvs:Tv (Key×CD))(γ:Ga),(∃a b c,γ=[a,b,c])->gs.all (cT n)=true->(kvs.map Prod.fst++(bP gs).map (Sum.inl:Int->Key)).Nodup->kvs.length+(bP gs).length<900->
 aBi M.length (fR 2 xq6) cK aBj (cq 2) cK (IP<|aE 2) (aE 0) (eM k gs) γ (M++[.dk kvs])=Z (M++[.dk (kvs++kvG k gs)])
 |[],k,kvs,γ,_=>λ_ _ _=>by rw[show kvG k []=[]from rfl,J8];rfl
 |g::gs,k,kvs,γ,⟨a,b,c,e⟩=>λh nd B=>by
  subst e;rw[Z2,A9]at h;let⟨C,D,o,_⟩:=wK h.1;have t:(bP (g::gs)).map (Sum.inl:Int->Key)=(bZ g).map .inl++(bP gs).map .inl:=by show(bZ g++bP gs).map _=_;rw[E3]
  have E:(bP (g::gs)).length=(bZ g).length+(bP gs).length:=by show(bZ g++bP gs).length=_;rw[B6]
  rw[t,<- L7]at nd;let⟨s',q⟩:=aDH (bZ g) kvs c (Y3.mp nd).1 61;have ih:=WR (M:=M) gs (k+1) (kvs++(bZ g).map λp=>((.inl p:Key),I (k:Nat))) [Z (I (k:Nat)),Z (.d g),s'] ⟨_,_,_,rfl⟩ h.2 (by rw[E3,J0];exact nd) (by rw[B6,A6];omega);rw[zY];have u:fR 2 xq6 (.d (.tuple [.int (k:Nat),g])) [a,b,c] (M++[.dk kvs])=Z ([Z (I (k:Nat)),Z (.d g),c],M++[.dk kvs]):=rfl
  have A:aBj [Z (I (k:Nat)),Z (.d g),c] (M++[.dk kvs])=Z ((bZ g).map λi=>I i,M++[.dk kvs]):=by
   show cQ (aE 1) _ _=_;rw[CC (rX rfl) o,J0];rfl
  show(fR 2 xq6 (.d (.tuple [.int (k:Nat),g])) [a,b,c] (M++[.dk kvs])).bind _=_;rw[u,A2];rw[show cK [Z (I (k:Nat)),Z (.d g),c] (M++[.dk kvs])=Z (true,M++[.dk kvs])from rfl,A2];rw[A8 rfl,A,A2];rw[q,A2];rw[ih];show Z (M++[Cell.dk (kvs++_++_)])=Z (M++[Cell.dk (kvs++(_++_))]);rw[L7]
def gix:T3->Int->Nat
 |[],_=>0
 |g::gs,i=>if dQ i g=true then 0 else gix gs i+1
theorem aFS:∀(gs:T3)(k:Nat)(i:Int),i∈bP gs->lkC (kvG k gs) (.inl i)=Z (I (k+gix gs i:Nat))
 |g::gs,k,i,h=>by
  have e:lkC (kvG k (g::gs)) (.inl i)=((((bZ g).map λp=>((.inl p:Key),I (k:Nat))).find? λo=>decide (o.1=.inl i)).or ((kvG (k+1) gs).find? λo=>decide (o.1=.inl i))).map (·.2):=by
   show((((bZ g).map λp=>((.inl p:Key),I (k:Nat)))++kvG (k+1) gs).find? _).map _=_;rw[List.find?_append]
  rw[e];show _=Z (I ((k+if dQ i g=true then 0 else gix gs i+1:Nat):Int));by_cases c:dQ i g=true
  .rw[A8 c,Nat.add_zero]
   have:∃o,(((bZ g).map λp=>((.inl p:Key),I (k:Nat))).find? λo=>decide (o.1=.inl i))=Z o:=A1l.mp (by
    rw[List.find?_isSome];exact⟨(.inl i,I (k:Nat)),D3.mpr ⟨i,memB_iff.mp c,rfl⟩,B8 rfl⟩)
   let⟨o,u⟩:=this;rw[u];let⟨p,_,rfl⟩:=D3.mp<|List.mem_of_find?_eq_some u;rfl
  .rw[B7 c]
   have hn:(((bZ g).map λp=>((.inl p:Key),I (k:Nat))).find? λo=>decide (o.1=.inl i))=Y:=List.find?_eq_none.mpr λo t e=>by
    let⟨p,A,rfl⟩:=D3.mp t;have e:=C8 e;injection e with e
    exact c<|memB_iff.mpr (e▸A)
   rw[hn,Option.none_or];have hi:=(D5.mp h).resolve_left λz=>c<|memB_iff.mpr z;have:=aFS gs (k+1) i hi;unfold lkC at this;rw[this,show k+1+gix gs i=k+(gix gs i+1)by omega]
def sep(gs:T3)(i j:Int):Bool:=!gs.any λg=>dQ i g&&dQ j g
theorem aAi:∀(gs:T3)(i j:Int),(bP gs).Nodup->i∈bP gs->j∈bP gs->decide (gix gs i=gix gs j)=gs.any λg=>dQ i g&&dQ j g
 |g::gs,i,j,nd,hi,C=>by
  let⟨_,D,B⟩:=Y3.mp nd
  have E:∀a b:Int,a∈bZ g->(gs.any λg=>dQ a g&&dQ b g)=false:=λa b ha=>by
   rw[<- Bool.not_eq_true,U0];rintro⟨F,k,e⟩;rw[A9]at e;exact B a ha a (yA k<|memB_iff.mp e.1) rfl
  have o:∀a b:Int,b∈bZ g->(gs.any λg=>dQ a g&&dQ b g)=false:=λa b G=>by
   rw[<- Bool.not_eq_true,U0];rintro⟨F,k,e⟩;rw[A9]at e;exact B b G b (yA k<|memB_iff.mp e.2) rfl
  rw[Z1];unfold gix;cases t:dQ i g with
  |true=>
   cases h:dQ j g with
   |true=>rfl
   |false=>
    rw[A8 rfl,B7 66,E i j<|memB_iff.mp t];exact D0 61
  |false=>
   have u:=(D5.mp hi).resolve_left λz=>by rw[memB_iff.mpr z]at t;cases t
   cases h:dQ j g with
   |true=>
    rw[B7 66,A8 rfl,o i j<|memB_iff.mp h];exact D0 61
   |false=>
    have A:=(D5.mp C).resolve_left λz=>by rw[memB_iff.mpr z]at h;cases h
    rw[B7 66,B7 66,A0u,Bool.false_or,<- aAi gs i j D u A];by_cases q:gix gs i=gix gs j
    .rw[B8 q,B8 61]
    .rw[D0 q,D0 61]
def fzW(us:Tv Tie):CD:=.f (us.map λt=>(t.key,.int t.a))
def aKZ{t:Tie}(nd:(us.map Tie.key).Nodup)(ht:t∈us):lkP (us.map λt=>(t.key,PyData.int t.a)) t.key=Z (.int t.a):=by
 unfold lkP;rw[List.find?_map]
 have:us.find? ((λk:Tv Key×Ua=>decide (k.1=t.key)) ∘ λt=>(t.key,PyData.int t.a))=Z t:=by
  induction us with
  |nil=>simp at ht
  |cons s us ih=>
   rw[C6,A0o]at nd;by_cases e:s.key=t.key
   .obtain rfl|h:=C1.mp ht
    .rw[List.find?_cons_of_pos 67]
    .exact absurd (D3.mpr ⟨t,h,e.symm⟩) nd.1
   .rw[List.find?_cons_of_neg (by simpa using e)];obtain rfl|h:=C1.mp ht
    .exact absurd rfl e
    .exact ih nd.2 h
 rw[this];rfl
def OT{h:FX}{f:AF}{M1 M2:Sto}{y:CD}(ha:f γ M=Z (xs,M1))(e:h xs M1=Z (.v y,M2)):tJ h f γ M=Z (y,M2):=by
 unfold tJ;rw[ha,A2];rw[e];rfl
def aQU:eqX false (.d (.str s)) (.d (.str s)) M=Z (B true,M):=by
 show Z (B (s==s),M)=_;rw[beq_self_eq_true]
def aPV{b:Bool}(h:γ[v]?=Z (Z<|B b)):AU "bool" (aE v) γ M=Z (B true,M):=by
 simp only[AU,aE,h];rfl
def XU(h:TH x):pH [.d x] M=Z (.d (.str (PyData.shown x)),M):=by
 rw[XN];exact RU h.fit (by rw[J7];decide) 66
def SU(gs:T3)(t:Tie):Bool:=!decide (gix gs t.i=gix gs t.j)
def PW(ws:Tv Tie)(gs:T3):Int:=((ws.filter<|SU gs).map λt=>t.a*(55440 / t.b)).sum
def LW(us:Tv Tie)(gs:T3):Int:=((us.filter λt=>sep gs t.i t.j).map (·.a)).sum
def ZO{d:Nat}{N:Sto}{u:Nat}(hd:N[d]?=Z (.dk (kvG 0 gs)))(h:γ[0]?=Z (Z (.c d)))(k:γ[u]?=Z (Z<|I i))(hi:i∈bP gs):sF (aE 0) (IP<|aE u) γ N=Z (I (gix gs i:Nat),N):=by
 have e:atD N (.c d) (.inl (.inl i))=Z (lkC (kvG 0 gs) (.inl i)):=by simp only[atD,hd]
 have l:=aFS gs 0 i hi;rw[Nat.zero_add]at l;simp only[sF,IP,aE,h,k,A2,keyOf,e,l]
theorem YW{d:Nat}{N:Sto}{gs:T3}(hd:N[d]?=Z (.dk (kvG 0 gs))):∀(ws:Tv Tie)(a b c:Te),(∀t∈ws,pK t.a t.b=true/\t.i∈bP gs/\t.j∈bP gs)->lcF (fR 3 aLO) (gB aMO) (aM vA xq3) ((dW ws).map .d) [Z (.c d),a,b,c] N=Z ((((ws.filter<|SU gs).map λt=>t.a*(55440 / t.b)).map PyData.int).map .d,N)
 |[]=>λ_ _ _ _=>rfl
 |t::ws=>λa b c h=>by
  have ih:=YW hd ws (Z<|I t.i) (Z<|I t.j) (Z (.d (.tuple [.int t.a,.int t.b]))) λu D=>h u<|A7 _ D;have B:fR 3 aLO (.d (.tuple (f2 t))) [Z (.c d),a,b,c] N=Z ([Z (.c d),Z<|I t.i,Z<|I t.j,Z (.d (.tuple [.int t.a,.int t.b]))],N):=rfl;let⟨E,hi,F⟩:=h t B0;have G:=ZO (γ:=[Z (.c d),Z<|I t.i,Z<|I t.j,Z (.d (.tuple [.int t.a,.int t.b]))]) (u:=1) hd rfl rfl hi;have H:=ZO (γ:=[Z (.c d),Z<|I t.i,Z<|I t.j,Z (.d (.tuple [.int t.a,.int t.b]))]) (u:=2) hd rfl rfl F
  have k:gB aMO [Z (.c d),Z<|I t.i,Z<|I t.j,Z (.d (.tuple [.int t.a,.int t.b]))] N=Z (SU gs t,N):=by
   refine dN<|bF G H ?_;rw[aIi,aHe];rfl
  have o:=aPF E;have K:aM vA xq3 [Z (.c d),Z<|I t.i,Z<|I t.j,Z (.d (.tuple [.int t.a,.int t.b]))] N=Z (I (t.a*(55440 / t.b)),N):=aV (aF rfl aP)<|aHF N o.1 o.2.1 o.2.2.1 o.2.2.2;have C:(dW (t::ws)).map CD.d=.d (.tuple (f2 t))::(dW ws).map .d:=rfl;cases A:SU gs t with
  |false=>
   rw[A]at k;simp only[C,lcF,B,A2,k,A0l,A2p,ih,U5 (show ¬SU gs t=true by rw[A];decide)]
  |true=>
   rw[A]at k;simp only[C,lcF,B,A2,k,A0g,K,ih,U4 A,C6]
structure Tw(n:Nat)(us ws:Tv Tie):Prop where
 pm:ws.Perm (us.map low)
 ok:OkW n us
 le:us.length<=30
def Tw.mem(h:Tw n us ws){t:Tie}(ht:t∈ws):pK t.a t.b=true/\(0<=t.i/\t.i<n)/\(0<=t.j/\t.j<n):=by
 let⟨s,hs,rfl⟩:=D3.mp<|h.pm.mem_iff.mp ht;let⟨k,A,o,u,B,C⟩:=h.ok.1 s hs;exact⟨YU u,⟨k,show s.i<(n:Int)by omega⟩,show 0<=s.j by omega,o⟩
def TM(h:0<=i/\i<n):i∈upZ n:=D3.mpr ⟨i.toNat,E4.mpr 61,61⟩
def xR(h:bK (bP gs)=upZ n)(hi:0<=i/\i<n):i∈bP gs:=(cN _).mem_iff.mp (h▸TM hi)
def aPc(k:Tw n us ws)(h:bK (bP gs)=upZ n):PW ws gs=LW us gs:=by
 unfold PW LW;rw[yR ((k.pm.filter<|SU gs).map _),List.filter_map,J0]
 have e:us.filter (SU gs ∘ low)=us.filter λt=>sep gs t.i t.j:=List.filter_congr λt ht=>by
  let⟨o,A,u,_⟩:=k.ok.1 t ht;show(!decide (gix gs t.i=gix gs t.j))=!_;rw[aAi gs t.i t.j (NX h) (xR h ⟨o,61⟩) (xR h ⟨61,u⟩)]
 rw[e];congr 1;refine O8 λt ht=>?_;exact aFC (k.ok.1 t (A0e.mp ht).1).2.2.2.1
def ZW(ok:OkW n us):0<=LW us gs:=aFD _ λx h=>by
 let⟨t,ht,rfl⟩:=D3.mp h;exact Int.le_of_lt (ok.1 t (A0e.mp ht).1).2.2.2.2.1
def aET(h:apD n ps x=true):∃gs,aR x=Z gs/\gs.length=ps.length/\gs.all (cT n)=true/\bK (bP gs)=upZ n:=by
 unfold apD at h;cases k:aR x with
 |none=>rw[k]at h;cases h
 |some gs=>
  rw[k]at h;simp only[A9,S0]at h;exact⟨gs,rfl,h.1,h.2.1,h.2.2.1⟩
def aEW{d:Nat}{N:Sto}(o:gM N w n ws)(k:Tw n us ws)(hd:N[d]?=Z (.dk (kvG 0 gs)))(h:bK (bP gs)=upZ n):nI [.c w,.c d] N=Z (I<|LW us gs,N):=by
 refine gK rfl<|gR ?_;have u:ws.length<=30:=by rw[k.pm.length_eq,A6];exact k.le
 have A:pC [Z (.c w),Z (.c d)] N=Z (.d (.list (((ws.filter<|SU gs).map λt=>t.a*(55440 / t.b)).map .int)),N):=by
  refine kN (CC (o.ties rfl) rfl) (by unfold dW;rw[A6,A6];omega) (YW hd ws Y Y Y λt ht=>?_) (by rw[A6,A6];exact C5 (Y4 ..) 61);let⟨a,b,c⟩:=k.mem ht;exact⟨a,xR h b,xR h c⟩
 refine aV (aF A aP) ?_;rw[<- aPc k h];simp only[sumF,ints_map];rfl
def aKu{f:EX}{p q:SFX}(h:f γ M=Z (.v (B true),M')):yQ f p q γ M=q γ M':=by simp only[yQ,h,A2,A0g]
def aKi{f:EX}{p q:SFX}(h:f γ M=Z (.v (B false),M')):yQ f p q γ M=p γ M':=by simp only[yQ,h,A2,A0l,A2p]
def aNS{f:EX}{p q:SFX}{e:Exc}(h:f γ M=Z (.x e,M')):yQ f p q γ M=Z (.xc γ e,M'):=by simp only[yQ,h,A2]
def EH{F:FX}{M1 M2:Sto}{r:Rs}(h:fa γ M=Z (xs,M1))(k:F xs M1=Z (r,M2)):kM F (liA fa) γ M=Z (r,M2):=by simp only[kM,BY,liA,h,k,A2]
abbrev G4(w:Nat)(p x:Ua):Ga:=[Z (.c w),Z (.d p),Z (.d x),Y]
def aLR(A:n<=8)(t:gM M w n ws)(u:Tw n us ws)(B:Pls n ps)(tg:TG x)(h:apD n ps x=true):∃gs L,aR x=Z gs/\gs.all (cT n)=true/\eQ [.c w,.d (Rw kp<|ps.map .int),.d x] M=Z (.v (.d (amt<|LW us gs)),M++L):=by
 let⟨gs,k,E,o,hs⟩:=aET h;have e:=DC (kp:=kp) A t B tg;rw[h]at e
 have F:(bP gs).length<=60:=by
  have:=tg.tot gs k;rw[DM o,A6]at this;exact this
 refine⟨gs,[.dk (kvG 0 gs)],k,o,?_⟩;refine aES rfl ?_;unfold kX
 have C:nL xq1 (G4 w (Rw kp<|ps.map .int) x) M=Z (eM 0 gs,M):=by
  simp![nL,k];rfl
 have D:iQ (G4 w (Rw kp<|ps.map .int) x) M=Z (.c M.length,M++[.dk (kvG 0 gs)]):=by
  have:=WR (M:=M) gs 0 [] [Y,Y,Y] ⟨_,_,_,rfl⟩ o (by
   exact List.Pairwise.map _ (λa b h e=>h (by injection e)) (NX hs)) (by simp only[Z5];omega)
  unfold iQ aIJ;rw[C,A2];rw[show qI [Y,Y,Y] (G4 w (Rw kp<|ps.map .int) x)=[Y,Y,Y]from rfl,this,A2,A1o]
 rw[aAr (γ':=G4 w (Rw kp<|ps.map .int) x) ((aKu<|EH (aF rfl<|aF rfl<|aF rfl aP) e).trans rfl)];refine aCL ?_;rw[aQ (bH D)];exact gR<|aV (aF (aV (aF rfl<|aF rfl aP)<|aEW t.app u iZ hs) aP)<|aMx _<|ZW u.ok
def aPZ(k:n<=8)(o:gM M w n ws)(t:Pls n ps)(tg:TG x)(h:apD n ps x=false):eQ [.c w,.d (Rw kp<|ps.map .int),.d x] M=Z (.x ⟨"NoGroups",[]⟩,M):=by
 have e:=DC (kp:=kp) k o t tg;rw[h]at e;refine XO (γ:=G4 w (Rw kp<|ps.map .int) x) rfl ?_;exact SY<|(aKi<|EH (aF rfl<|aF rfl<|aF rfl aP) e).trans rfl
def aQT{n:Int}(h:gM M w n ws)(k:∀ds,aR p=Z ds->ds.length<=60)(o:nV n p=false):eQ [.c w,.d p,.d x] M=Z (.x ⟨"NoPlace",[]⟩,M):=by
 refine XO (γ:=G4 w p x) rfl ?_;exact SY<|aNS<|EH (aF rfl<|aF rfl<|aF rfl aP)<|WY h k o
theorem aDM:∀(l:T6)(b:Int),(∀x∈l,x<=b)->l.sum<=l.length*b
 |[]=>λ_ _=>67
 |x::l=>λb h=>by
  have o:=h x B0;have t:=aDM l b λy k=>h y<|A7 _ k;simp only[A1m,D8];rw[show((l.length+1:Nat):Int)=(l.length:Int)+1 by omega,Int.add_mul,Int.one_mul];omega
def aHs{f g:TF}{a b:Bool}(h:f γ M=Z (a,M))(k:a=true->g γ M=Z (b,M)):LO f g γ M=Z (a&&b,M):=by
 unfold LO;rw[h,A2];cases a with
 |true=>exact k rfl
 |false=>rfl
def aDu{n:Int}{ds:T3}(h:∀d∈ds,cT n d=true):cj (.list ds)=true:=by
 have key:PyData.canLayAll0 ds=true/\PyData.depthAll ds<=1:=by
  induction ds with
  |nil=>exact⟨rfl,E6 _⟩
  |cons d ds ih=>
   let⟨i1,i2⟩:=ih λx o=>h x<|A7 _ o;let⟨k,ns,rfl,_⟩:=zA<|h d B0;have t:PyData.canLay0 (Rw k<|ns.map .int)=true:=by cases k<;>exact oE ns
   have u:PyData.depth (Rw k<|ns.map .int)=1:=by
    cases k
    .show PyData.depthAll (ns.map .int)+1=1;rw[lV]
    .show PyData.depthAll (ns.map .int)+1=1;rw[lV]
   refine⟨?_,?_⟩
   .show(PyData.canLay0 (Rw k<|ns.map .int)&&PyData.canLayAll0 ds)=true;rw[t,i1];rfl
   .show max (PyData.depth<|Rw k<|ns.map .int) (PyData.depthAll ds)<=1;rw[u];omega
 unfold cj;have A:PyData.canLay0 (.list ds)=true:=key.1;have B:PyData.depth (.list ds)<=64:=by show PyData.depthAll ds+1<=64;omega
 rw[A,B8 B];rfl
def aPy{n:Int}{ds:T3}(h:∀d∈ds,cT n d=true):eqX false (.d (.list ds)) (.d (.list [])) M=Z (B ds.isEmpty,M):=by
 show(if (cj (.list ds)&&cj (.list []))=true then Z (B<|cn (.list ds) (.list []),M)else Y)=_;rw[aDu h,show cj (.list [])=true from rfl,ZQ];rfl
theorem ZM{k:Type}{p:k->Bool}:∀ds:Tv k,(ds.filter p).isEmpty=!ds.any p
 |[]=>rfl
 |d::ds=>by
  cases h:p d with
  |true=>rw[U4 h,Z1,h];rfl
  |false=>rw[U5 (by rw[h];decide),Z1,h,Bool.false_or];exact ZM ds
abbrev GQ(us:Tv Tie)(x:Ua)(f:Int)(i j:Te):Ga:=[Z (fzW us),Z (.d x),Z<|I f,i,j]
def aCD{n:Int}{g:Ua}(h:cT n g=true):inD false (I i) (.d g) M=Z (B<|dQ i g,M):=by
 let⟨k,o,_⟩:=wK h;unfold dQ;generalize bZ g=ns at o;subst o;exact NO
def aHf{n:Int}{t:Tie}{f:Int}{M:Sto}(nd:(us.map Tie.key).Nodup)(ht:t∈us)(u:aR x=Z gs)(A:gs.all (cT n)=true)(l:gs.length<=60):
 cU (GQ us x f (Z<|I t.i)<|Z<|I t.j) M=Z (.nx (GQ us x (if sep gs t.i t.j=true then f+t.a else f) (Z<|I t.i)<|Z<|I t.j),M):=by
 have k:=C3.mp A
 have B:eC (GQ us x f (Z<|I t.i)<|Z<|I t.j) M=Z (.d (.list (gs.filter λg=>dQ t.i g&&dQ t.j g)),M):=by
  refine kN (CC (rX rfl) u) (by rw[A6];omega) ?_<|C5 (Y4 ..) 61;have key:=EB (i:=2) (c:=LO (gB<|fOp (inD false) (aE 0)<|aE 2)<|gB<|fOp (inD false) (aE 1)<|aE 2) (e:=aE 2) (M:=M) CD.d (λg=>dQ t.i g&&dQ t.j g) (λg=>g) gs [Z (I t.i),Z<|I t.j,Y] (λy=>rfl) λg o=>⟨?_,65⟩
  .rw[List.map_id']at key;exact key
  .exact aHs (dN<|bF rfl rfl<|aCD<|k g o) λ_=>dN<|bF rfl rfl<|aCD<|k g o
 have h:gB (fOp (eqX false) eC<|fI aN) (GQ us x f (Z<|I t.i)<|Z<|I t.j) M=Z (sep gs t.i t.j,M):=by
  refine dN<|(bF B rfl (aPy λd hd=>k d (A0e.mp hd).1)).trans ?_;rw[ZM];rfl
 unfold cU;cases hs:sep gs t.i t.j with
 |false=>
  rw[hs]at h;rw[bY h,B7 66];rfl
 |true=>
  rw[hs]at h;rw[eP h,A8 rfl]
  have C:sF (aE 0) (wX aNh) (GQ us x f (Z<|I t.i)<|Z<|I t.j) M=Z (I t.a,M):=by
   have D:wX aNh (GQ us x f (Z<|I t.i)<|Z<|I t.j) M=Z (.inr t.key,M):=rfl
   have ad:atD M (fzW us) (.inr t.key)=Z (Z<|I t.a):=by
    show Z ((lkP (us.map λt=>(t.key,PyData.int t.a)) t.key).map CD.d)=_;rw[aKZ nd ht];rfl
   simp only[sF,aE,A0t,A2,D,ad]
  exact bH<|bF rfl C vU
theorem YX{n:Int}{us:Tv Tie}{x:Ua}{gs:T3}{M:Sto}(nd:(us.map Tie.key).Nodup)(A:aR x=Z gs)(B:gs.all (cT n)=true)(l:gs.length<=60):∀(vs:Tv Tie)(f:Int)(a b:Te),(∀t∈vs,t∈us)->∃k o,mH (fR 2 aJe) cU (vs.map λt=>aHz t.key) (GQ us x f a b) M=Z (.nx (GQ us x (f+LW vs gs) k o),M)
 |[]=>λf a b _=>⟨a,b,by rw[show LW [] gs=0 from rfl,Int.add_zero];rfl⟩
 |t::vs=>λf a b h=>by
  have tn:=aHf (f:=f) (M:=M) nd (h t B0) A B l;rw[C6,pG rfl tn];let⟨k,o,ih⟩:=YX nd A B l vs (if sep gs t.i t.j=true then f+t.a else f) (Z<|I t.i) (Z<|I t.j) λu C=>h u<|A7 _ C;refine⟨k,o,ih.trans ?_⟩
  have:(if sep gs t.i t.j=true then f+t.a else f)+LW vs gs=f+LW (t::vs) gs:=by
   unfold LW;by_cases hs:sep gs t.i t.j=true
   .rw[A8 hs,U4 (p:=λt:Tie=>sep gs t.i t.j) hs,C6,A1m];omega
   .rw[B7 hs,U5 (p:=λt:Tie=>sep gs t.i t.j) hs]
  rw[this]
def aBB{n:Int}(nd:(us.map Tie.key).Nodup)(o:aR x=Z gs)(u:gs.all (cT n)=true)(l:gs.length<=60):eV [fzW us,.d x] M=Z (I<|LW us gs,M):=by
 have it:XH (aE 0) (GQ us x 0 Y Y) M=Z (us.map λt=>aHz t.key,M):=by
  show Z ((us.map λt=>(t.key,PyData.int t.a)).map λA=>aHz A.1,M)=_;rw[J0];rfl
 let⟨a,b,k⟩:=YX nd o u l us 0 Y Y λ_ h=>h;rw[Int.zero_add]at k;have s1:bA (fC (.int 0)) (cq 2) [Z (fzW us),Z (.d x),Y,Y,Y] M=Z (.nx (GQ us x 0 Y Y),M):=rfl;exact gK rfl<|(aQ s1).trans ((aQ<|mU it k).trans rfl)
def aJt(ok:OkW n us)(h:us.length<=30):LW us gs<10000000000000000:=by
 have hm:∀x∈(us.filter λt=>sep gs t.i t.j).map (·.a),x<=55440000000000:=λx k=>by
  let⟨t,ht,rfl⟩:=D3.mp k;have:=(ok.1 t (A0e.mp ht).1).2.2.2.1;have al:wts.all λv=>decide (v<=55440000000000):=by decide +kernel
  exact C8<|C3.mp al _ this
 have o:=aDM _ 55440000000000 hm;have u:((us.filter λt=>sep gs t.i t.j).map (·.a)).length<=30:=by rw[A6];exact C5 (Y4 ..) h
 unfold LW;omega
def ZS(h:i.natAbs<2 ^ 200):Thg (.int i):=aEk ⟨(uS h).fit.ok,C5 (uS h).fit.wt 66,C5 (uS h).fit.dp 66⟩ rfl
def aEY(h:0<=S)(o:S<10000000000000000):TH (amt S):=by
 have t:0<=S / (Int.gcd S 55440:Int):=Int.ediv_nonneg h 61;have u:S / (Int.gcd S 55440:Int)<=S:=Int.ediv_le_self _ h;have A:0<=55440 / (Int.gcd S 55440:Int):=Int.ediv_nonneg 66 61;have B:55440 / (Int.gcd S 55440:Int)<=55440:=Int.ediv_le_self _ 66;refine aEd (k:=false) (λd hd=>?_) (show 2<=9 by decide);simp only[C1,Y9,A2e]at hd;obtain rfl|rfl:=hd
 .exact ZS 61
 .exact ZS 61
def aKe{f:EX}{i:Nat}{x:CD}(h:f γ M=Z (.v x,M')):CB f (cq i) γ M=Z (.o (.nx (γ.set i<|Z x)),M'):=by simp only[CB,cq,h,A2]
def aCz{f:EX}{e:Exc}(h:f γ M=Z (.x e,M')):CB f g γ M=Z (.xc γ e,M'):=by simp only[CB,h,A2]
def aKs{F:FX}{M1 M2:Sto}{y z:CD}(h:fa γ M=Z (xs,M1))(k:F xs M1=Z (.v y,M2))(o:pH [y] M2=Z (z,M3)):xCB pH (FU (kM F<|liA fa)<|liA aN) γ M=Z (.v z,M3):=by
 simp only[xCB,BY,FU,kM,liA,h,k,aN,okR,o,A2]
def aCa{F:FX}{M1 M2:Sto}{e:Exc}(h:fa γ M=Z (xs,M1))(k:F xs M1=Z (.x e,M2)):xCB pH (FU (kM F<|liA fa)<|liA aN) γ M=Z (.x e,M2):=by
 simp only[xCB,BY,FU,kM,liA,h,k,A2]
abbrev G5(w:Nat)(p x:Ua)(f:CD):Ga:=[Z (.c w),Z (.d p),Z (.d x),Z f,Y]
abbrev hds:Tv HMi:=[⟨[("NoGroups",true),("NoPlace",false)],(Z 4),fX⟩,⟨[("NoGroups",false),("NoPlace",true)],(Z 4),fW⟩]
def VF{y:CD}(h:ET cR hds (G5 w p x (.d .none)) M=Z (.nx (G5 w p x y),M')):bS [.c w,.d p,.d x] M=Z (y,M'):=by
 have s1:bA (fC .none) (cq 3) [Z (.c w),Z (.d p),Z (.d x),Y,Y] M=Z (.nx (G5 w p x (.d .none)),M):=rfl;exact gK rfl<|(aQ s1).trans ((aQ h).trans rfl)
def aMd(t:n<=8)(u:gM M w n ws)(k:Tw n us ws)(A:Pls n ps)(tg:TG x)(h:apD n ps x=true):∃gs L,aR x=Z gs/\gs.all (cT n)=true/\bS [.c w,.d (Rw kp<|ps.map .int),.d x] M=Z (.d (.str (PyData.shown<|amt<|LW us gs)),M++L):=by
 let⟨gs,L,B,C,e⟩:=aLR t u k A tg h;refine⟨gs,L,B,C,VF ?_⟩
 have D:cR (G5 w (Rw kp<|ps.map .int) x (.d .none)) M=Z (.o (.nx (G5 w (Rw kp<|ps.map .int) x (.d (.str (PyData.shown<|amt<|LW us gs))))),M++L):=
  aKe (aKs (aF rfl<|aF rfl<|aF rfl aP) e<|XU<|aEY (ZW k.ok)<|aJt k.ok k.le)
 unfold ET;rw[D,A2]
def aQh(k:n<=8)(o:gM M w n ws)(t:Pls n ps)(tg:TG x)(h:apD n ps x=false):bS [.c w,.d (Rw kp<|ps.map .int),.d x] M=Z (.d (.tuple [.str "no groups",.bool true]),M++[.exc false "NoGroups" []]):=by
 have e:=aPZ (kp:=kp) k o t tg h;refine VF ?_;have u:cR (G5 w (Rw kp<|ps.map .int) x (.d .none)) M=Z (.xc (G5 w (Rw kp<|ps.map .int) x (.d .none)) ⟨"NoGroups",[]⟩,M):=aCz<|aCa (aF rfl<|aF rfl<|aF rfl aP) e;have e:(M++[Cell.exc false "NoGroups" []])[M.length]?=Z (.exc false "NoGroups" []):=iZ;have A:List.lookup ("NoGroups":Str) [(("NoGroups":Str),true),("NoPlace",false)]=Z true:=rfl;have B:cS.lookup ("NoGroups":Str)=Z true:=rfl;have C:mD.lookup ("NoGroups":Str)=Z false:=rfl;unfold ET;rw[u,A2];simp![NS,A,fX,e,B,C];rfl
def aQW{n:Int}(h:gM M w n ws)(k:∀ds,aR p=Z ds->ds.length<=60)(o:nV n p=false):bS [.c w,.d p,.d x] M=Z (.d (.tuple [.str "no place",.bool true]),M++[.exc false "NoPlace" []]):=by
 have e:=aQT (x:=x) h k o;refine VF ?_;have t:cR (G5 w p x (.d .none)) M=Z (.xc (G5 w p x (.d .none)) ⟨"NoPlace",[]⟩,M):=aCz<|aCa (aF rfl<|aF rfl<|aF rfl aP) e;have e:(M++[Cell.exc false "NoPlace" []])[M.length]?=Z (.exc false "NoPlace" []):=iZ;have u:List.lookup ("NoPlace":Str) [(("NoGroups":Str),true),("NoPlace",false)]=Z false:=rfl;have A:List.lookup ("NoPlace":Str) [(("NoGroups":Str),false),("NoPlace",true)]=Z true:=rfl;have B:cS.lookup ("NoPlace":Str)=Z true:=rfl;have C:eD.lookup ("NoPlace":Str)=Z false:=rfl;unfold ET;rw[t,A2];simp![NS,u,A,fW,e,B,C];rfl
abbrev sh2(p x:Ua):Te:=Z (.d (.str (PyData.shown (.tuple [p,x]))))
abbrev G8(w:Nat)(us:Tv Tie)(p x:Ua)(k f d h:Te):Ga:=[Z (.c w),Z<|fzW us,Z (.d p),Z (.d x),k,f,d,h]
def RO(h:Thg p)(k:TH x)(o:aE 2 γ M=Z (.d p,M))(t:aE 3 γ M=Z (.d x,M)):aM pH (aC (bG LJ) aN) γ M=Z (.d (.str (PyData.shown (.tuple [p,x]))),M):=by
 refine aV (aF (YZ o t) aP) ?_;rw[XN];have a:=h.fit;have b:=k.fit;refine RU (n:=4500000) (m:=7) ⟨?_,?_,?_⟩ (by rw[J7];decide) 66
 .show(oks p&&(oks x&&true))=true;rw[a.ok,b.ok];rfl
 .show wt p+2+(wt x+2+0)+3<=4500000;have:=a.wt;have:=b.wt;omega
 .show max (PyData.depth p) (max (PyData.depth x) 0)+1<=7;have:=a.dp;have:=b.dp;omega
def aFN{f g:TF}{M1:Sto}(h:f γ M=Z (false,M1)):gOr f g γ M=g γ M1:=by
 unfold gOr;rw[h];rfl
def aLw(a:Bool)(M:Sto):eqX true (B a) (B a) M=Z (B false,M):=by cases a<;>rfl
def aQV:eqX true (.d (.str s)) (.d (.str s)) M=Z (B false,M):=by
 show Z (B (!(s==s)),M)=_;rw[beq_self_eq_true];rfl
def aJz(h:cj (.tuple [.str s,.bool true])=true:=by decide +kernel):eqX neg (.d (.tuple [.str s,.bool true])) (.d (.tuple [.str s,.bool true])) M=Z (B (!neg),M):=by
 have e:cn (.tuple [.str s,.bool true]) (.tuple [.str s,.bool true])=true:=by
  show((s==s)&&_)=true;rw[beq_self_eq_true];rfl
 show(if (cj (.tuple [.str s,.bool true])&&cj (.tuple [.str s,.bool true]))=true then Z (CD.d (.bool (if neg=true then !cn (.tuple [.str s,.bool true]) (.tuple [.str s,.bool true])else cn (.tuple [.str s,.bool true]) (.tuple [.str s,.bool true]))),M)else Y)=_;rw[h,e];cases neg<;>rfl
def JF{w n:Nat}{us:Tv Tie}{b:Bool}{y:CD}{M M':Sto}(h:Thg p)(k:TH x)
 (o:eF [.c w,.d p,.d x] M=Z (.v (B b),M)) (t:aM cV (aC UJ LJ) (G8 w us p x (sh2 p x) (Z<|B b) Y Y) M=Z (B b,M))
 (u:sIf (LB<|aE 6) aPf cJ (G8 w us p x (sh2 p x) (Z<|B b) (Z<|B b)<|Z (.d (.tuple [.str "no groups",.bool true]))) M=Z (.nx (G8 w us p x (sh2 p x) (Z<|B b) (Z<|B b)<|Z y),M))
 (A:bS [.c w,.d p,.d x] M=Z (y,M')) (C:eqX true y y M'=Z (B false,M')):iS [.c w,fzW us,.d p,.d x] M=Z (B true,M'):=by
 have s1:bA aKW (cq 4) (G8 w us p x Y Y Y Y) M=Z (.nx (G8 w us p x (sh2 p x) Y Y Y),M):=bH (i:=4)<|RO h k rfl rfl;have s2:bA (tJ eF<|aC (aE 0) LJ) (cq 5) (G8 w us p x (sh2 p x) Y Y Y) M=Z (.nx (G8 w us p x (sh2 p x) (Z<|B b) Y Y),M):=bH (i:=5)<|OT (aF rfl<|aF rfl<|aF rfl aP) o;have s3:bA (aM cV<|aC UJ LJ) (cq 6) (G8 w us p x (sh2 p x) (Z<|B b) Y Y) M=Z (.nx (G8 w us p x (sh2 p x) (Z<|B b) (Z<|B b) Y),M):=bH (i:=6) t;have s4:bA uO (cq 7) (G8 w us p x (sh2 p x) (Z<|B b) (Z<|B b) Y) M=Z (.nx (G8 w us p x (sh2 p x) (Z<|B b) (Z<|B b)<|Z (.d (.tuple [.str "no groups",.bool true]))),M):=rfl
 have t6:gOr (gF<|gB<|AU "bool"<|aE 5) aOx (G8 w us p x (sh2 p x) (Z<|B b) (Z<|B b)<|Z y) M=Z (false,M'):=by
  rw[aFN (nP<|dN<|aPV (b:=b) rfl)];unfold aOx;rw[aFN<|dN<|bF (a:=B b) (b:=B b) rfl rfl<|aLw b M];exact dN<|bF (aV (aF rfl<|aF rfl<|aF rfl aP) A) rfl C
 refine gK rfl ?_;show lK (G8 w us p x Y Y Y Y) M=_;unfold lK;rw[aQ s1,aQ s2,aQ s3,aQ s4,aQ u,aQ<|(bY t6).trans rfl];exact gR<|bF (RO h k rfl rfl) rfl aQU
def ZT(o:n<=8)(h:Pls n ps)(k:Bool):Thg (Rw k<|ps.map .int):=UN (QD λi hi=>by have:=h.bd i hi;omega) (by rw[A6];have:=h.le;omega)
def aJa(k:n<=8)(u:gM M w n ws)(o:Tw n us ws)(t:Pls n ps)(tg:TG x):∃L,iS [.c w,fzW us,.d (Rw kp<|ps.map .int),.d x] M=Z (B true,M++L):=by
 have A:=DC (kp:=kp) k u t tg;have C:aM cV (aC UJ LJ) (G8 w us (Rw kp<|ps.map .int) x (sh2 (Rw kp<|ps.map .int) x) (Z<|B<|apD n ps x) Y Y) M=Z (B<|apD n ps x,M):=aV (aF (u.many rfl)<|aF rfl<|aF rfl aP)<|aCx (kp:=kp) k t tg;cases h:apD n ps x with
 |true=>
  rw[h]at A C;let⟨gs,L,D,E,F⟩:=aMd (kp:=kp) k u o t tg h;refine⟨L,JF (n:=n) (ZT k t kp) tg.th A C ?_ F aQV⟩;rw[eP (M':=M) rfl];refine bH (i:=7)<|aV (aF (aV (aF (aV (aF rfl<|aF rfl aP)<|aBB o.ok.2 D E (by have:=(tg.th.it gs D).1;omega))<|aF aDB aP)<|RF M (ZW o.ok) 66<|wsm 66 66) aP) ?_;exact XU<|aEY (ZW o.ok)<|aJt o.ok o.le
 |false=>
  rw[h]at A C;exact⟨_,JF (n:=n) (ZT k t kp) tg.th A C (by rw[bY (M':=M) rfl];rfl) (aQh (kp:=kp) k u t tg h) aJz⟩
def aKE{g:EF}{M1:Sto}{b:Bool}(h:f γ M=Z (B true,M))(k:g γ M=Z (B b,M1)):kQ f g γ M=Z (B b,M1):=by
 unfold kQ;rw[h,A2];exact k
def IV{n:Int}(h:gM M w n ws)(k:∀ds,aR p=Z ds->ds.length<=60)(o:nV n p=false):∃L,fM [.c w,.d p,.d x] M=Z (B true,M++L):=by
 have r:=WY (x:=x) h k o;have s1:bA aBs (cq 3) [Z (.c w),Z (.d p),Z (.d x),Y,Y] M=Z (.nx (G5 w p x<|B false),M):=rfl;have u:jJ (G5 w p x<|B false) M=Z (.xc (G5 w p x<|B false) ⟨"NoPlace",[]⟩,M):=WO (aF rfl<|aF rfl<|aF rfl aP) r;have e:(M++[Cell.exc false "NoPlace" []])[M.length]?=Z (.exc false "NoPlace" []):=iZ;have A:List.lookup ("NoPlace":Str) [(("NoGroups":Str),false),("NoPlace",true)]=Z true:=rfl;have C:cS.lookup ("NoPlace":Str)=Z true:=rfl;have D:eD.lookup ("NoPlace":Str)=Z false:=rfl
 have E:NS [⟨[("NoGroups",false),("NoPlace",true)],(Z 4),fY⟩] (G5 w p x<|B false) ⟨"NoPlace",[]⟩ M=Z (.nx (G5 w p x<|B true),M++[.exc false "NoPlace" []]):=by
  simp![NS,A,fY,e,C,D]
 have s2:ET jJ [⟨[("NoGroups",false),("NoPlace",true)],(Z 4),fY⟩] (G5 w p x<|B false) M=Z (.nx (G5 w p x<|B true),M++[.exc false "NoPlace" []]):=by
  unfold ET;rw[u,A2];exact E
 have t:=aQW (x:=x) (h.app (L:=[.exc false "NoPlace" []])) k o;refine⟨[.exc false "NoPlace" []]++[.exc false "NoPlace" []],gK rfl<|(aQ s1).trans ((aQ s2).trans (gR ?_))⟩;rw[<- L7];exact aKE rfl<|bF (aV (aF rfl<|aF rfl<|aF rfl aP) t) rfl aJz
theorem ZC{n:Int}:∀{xs:T6}{lo:Int},xs.Pairwise (·<·)->(∀i∈xs,lo<=i/\i<n)->xs≠[]->(xs.length:Int)<=n-lo
 |[],_=>λ_ _ h=>absurd rfl h
 |[a],lo=>λ_ h _=>by have:=h a B0;simp only[E9];omega
 |a::b::r,lo=>λo h _=>by
  have k:=S6.mp o;have ha:=h a B0;have ih:=ZC (lo:=a+1) k.2 (λi hi=>⟨by have:=k.1 i hi;omega,(h i<|A7 _ hi).2⟩) 67;simp only[D8]at ih ⊢;omega
def aOt(F:2<=n)(dk:Dk M c (m+2)):∃i j M',qQ [.c c,I n] M=Z (.d (.tuple [.int i,.int j]),M')/\(0<=i/\i<n)/\(0<=j/\j<n)/\i≠j/\Dk M' c m/\Ex c M M':=by
 let⟨z,M1,A,h,k,_⟩:=Dk.popE dk;have s1:bA aIE (cq 2) [Z (.c c),Z<|I n,Y] M=Z (.nx [Z (.c c),Z<|I n,Z<|I (z % n)],M1):=bH<|jM (pop_at rfl dk.ty A) rfl 61;let⟨y,M2,B,o,t,_⟩:=Dk.popE h;have u:=em (z:=z) (n:=n) 61;generalize z % (n:Int)=i at s1 u;have r:fOp dJ aOp (aE 1) [Z (.c c),Z<|I n,Z<|I i] M1=Z (I ((i+1+y % ((n:Int)-1)) % n),M2):=jM (bF (bF rfl rfl vU) (jM (pop_at rfl h.ty B) (bF rfl rfl aKF) 61) vU) rfl 61;have C:=Y7 y (show(n:Int)-1≠0 by omega);have D:=S7 y (show 0<(n:Int)-1 by omega);generalize y % ((n:Int)-1)=v at r C D;refine⟨i,(i+1+v) % n,M2,gK rfl<|(aQ s1).trans (gR<|YZ rfl r),u,em 61,λe=>?_,o,k.trans t⟩;by_cases E:i+1+v<n
 .rw[Int.emod_eq_of_lt 61 E]at e;omega
 .have:(i+1+v) % (n:Int)=i+1+v-n:=by
   rw[<- Int.sub_emod_right,Int.emod_eq_of_lt 61 61]
  omega
theorem YE:∀(ns k:T6){x:Int},x∈ns.foldl step_dedup k->x∈k\/x∈ns
 |[],k,x=>λh=>.inl h
 |a::r,k,x=>λh=>by
  obtain h|h:=YE r (step_dedup k a) h
  .unfold step_dedup at h;split at h
   .exact .inl h
   .obtain h|h:=D5.mp h
    .exact .inl h
    .rw[B4.mp h];exact .inr B0
  .exact .inr (A7 _ h)
def aFf(dk:Dk M c (m+1))(o:γ[0]?=Z (Z (.c c))):∃b M',gB aMJ γ M=Z (b,M')/\Dk M' c m/\Ex c M M':=by
 let⟨z,M1,t,h,k,_⟩:=Dk.popE dk;exact⟨_,M1,dN<|bF (wG (pop_at o dk.ty t) 66) aDB NV,h,k⟩
theorem aAc{c m:Nat}:∀(k:Nat)(lo:Int)(s:Te)(M:Sto),Dk M c (m+k)->∃(ns:T6)(M':Sto),lcF (cq 1) (gB aMJ) (aE 1) (iB lo k) [Z (.c c),s] M=Z (((ns.map .int).map .d),M')/\(∀i∈ns,lo<=i/\i<lo+k)/\ns.Pairwise (·<·)/\ns.length<=k/\Dk M' c m/\Ex c M M'
 |0=>λlo s M dk=>⟨[],M,rfl,λi h=>by simp at h,.nil,B3 _,dk,.refl ..⟩
 |k+1=>λlo s M dk=>by
  let⟨b,M1,B,A,o⟩:=aFf (γ:=[Z (.c c),Z<|I lo]) dk rfl;let⟨ns,M2,C,bd,D,le,t,u⟩:=aAc k (lo+1) (Z<|I lo) M1 A;have E:cq 1 (I lo) [Z (.c c),s] M=Z ([Z (.c c),Z<|I lo],M):=rfl;rw[yC];cases b with
  |false=>
   refine⟨ns,M2,?_,λi hi=>by have:=bd i hi;omega,D,61,t,o.trans u⟩;simp only[lcF,E,A2,B,A0l,A2p,C]
  |true=>
   refine⟨lo::ns,M2,?_,λi hi=>?_,S6.mpr ⟨λi hi=>by have:=bd i hi;omega,D⟩,Nat.succ_le_succ le,t,o.trans u⟩
   .have F:aE 1 [Z (.c c),Z<|I lo] M1=Z (I lo,M1):=rfl;simp only[lcF,E,A2,B,A0g,F,C,C6]
   .obtain rfl|hi:=C1.mp hi
    .omega
    .have:=bd i hi;omega
def aDc(o:n<=8)(dk:Dk M c (m+n)):∃(ns:T6)(M':Sto),jU [.c c,I n] M=Z (.d (.tuple (ns.map .int)),M')/\(∀i∈ns,0<=i/\i<n)/\ns.Pairwise (·<·)/\ns.length<=n/\Dk M' c m/\Ex c M M':=by
 let⟨ns,M',e,bd,k,le,h,ex⟩:=aAc n 0 Y M dk;refine⟨ns,M',gK rfl<|gR<|aV (xs:=[.d (.list (ns.map .int))]) (aF ?_ aP) rfl,λi hi=>by have:=bd i hi;omega,k,le,h,ex⟩;have it:=rn1 (fa:=aC (aE 1) aN) (γ:=[Z (.c c),Z<|I n]) (M:=M) rfl 61 61;exact kN it (by rw[dO];omega) e (by rw[A6];omega)
theorem XR:∀(ns o:T6){x:Int},x∈o\/x∈ns->x∈ns.foldl step_dedup o
 |[],o,x=>λh=>h.resolve_right 67
 |n::ns,o,x=>λh=>by
  refine XR ns (step_dedup o n) ?_
  have k:∀y,y∈o\/y=n->y∈step_dedup o n:=λy t=>by
   unfold step_dedup;split
   .rename_i q;obtain t|rfl:=t
    .exact t
    .let⟨z,u,e⟩:=U0.mp q;have:z=y:=by simpa using e
     exact this▸u
   .exact D5.mpr (t.imp id λe=>by rw[e];exact B4.mpr rfl)
  obtain h|h:=h
  .exact .inl (k x (.inl h))
  .obtain rfl|h:=C1.mp h
   .exact .inl (k x (.inr rfl))
   .exact .inr h
def sd_mem{x:Int}:x∈bK (iN ns)↔x∈ns:=by
 rw[(cN _).mem_iff];exact⟨λh=>(YE ns [] h).resolve_left 67,λh=>XR ns [] (.inr h)⟩
def UZ(ns:T6):(bK<|iN ns).Pairwise (·<·):=by
 have s1:=eL<|iN ns;have nd:=(cN _).nodup_iff.mpr (NI ns [] A2q);exact(List.Pairwise.and s1 nd).imp λ⟨a,b⟩=>61
def ZX{ns:T6}(h:f γ M=Z (.d (.tuple (ns.map .int)),M))(bd:∀i∈ns,0<=i/\i<9)(l:ns.length<=60):wB (aC f aN) γ M=Z (.d (.list ((bK<|iN ns).map .int)),M):=by
 have k:FF ns=true:=C3.mpr λi hi=>by
  have:=bd i hi;rw[B8 this.1,B8 61];rfl
 unfold wB;rw[aF h aP,A2];show FO (ns.map .int) M=_;unfold FO;rw[ints_map,A2,A8 ⟨k,61⟩]
def NH{ps:T6}(k:ps.Pairwise (·<·))(bd:∀i∈ps,0<=i/\i<n):ps.length<=n:=by
 by_cases h:ps=[]
 .rw[h];exact E6 _
 .have:=ZC k bd h;omega
def aHS(D:2<=n)(B:n<=8)(dk:Dk M c (m+10)):∃(ps:T6)(M':Sto),nM [.c c,I n] M=Z (.d (.tuple (ps.map .int)),M')/\Pls n ps/\Dk M' c m/\Ex c M M':=by
 let⟨ns,M1,E,bd,F,le,C,o⟩:=aDc (m:=m+2+(8-n)) B<|dk.le 61;let⟨i,j,M2,G,hi,H,ne,u,A⟩:=aOt (m:=m) D<|C.le 61;have s1:bA (aM jU vH) (cq 2) [Z (.c c),Z<|I n,Y,Y] M=Z (.nx [Z (.c c),Z<|I n,Z (.d (.tuple (ns.map .int))),Y],M1):=bH<|aV (aF rfl<|aF rfl aP) E;have s2:bA (aM qQ vH) (cq 3) [Z (.c c),Z<|I n,Z (.d (.tuple (ns.map .int))),Y] M1=Z (.nx [Z (.c c),Z<|I n,Z (.d (.tuple (ns.map .int))),Z (.d (.tuple [.int i,.int j]))],M2):=bH<|aV (aF rfl<|aF rfl aP) G
 have t:gB (fOp ltI (aM pO xq1)<|fC (.int 2)) [Z (.c c),Z<|I n,Z (.d (.tuple (ns.map .int))),Z (.d (.tuple [.int i,.int j]))] M2=Z (decide (ns.length<2),M2):=by
  have ln:pO [.d (.tuple (ns.map .int))] M2=Z (I (ns.length:Nat),M2):=by
   have:=wH (k:=false) (ds:=ns.map .int) (M:=M2);rw[A6]at this;exact this
  refine dN<|(bF (aV (aF rfl aP) ln) aDB aER).trans ?_;obtain⟨J,O⟩:∃J:Int,J=(ns.length:Int):=⟨_,rfl⟩;by_cases q:ns.length<2
  .rw[B8 q,B8 61]
  .rw[D0 q,D0 61]
 by_cases q:ns.length<2
 .rw[B8 q]at t
  have ad:fOp dP (aE 2) (aE 3) [Z (.c c),Z<|I n,Z (.d (.tuple (ns.map .int))),Z (.d (.tuple [.int i,.int j]))] M2=Z (.d (.tuple ((ns++[i,j]).map .int)),M2):=by
   rw[E3];exact bF rfl rfl<|jT (by rw[A6];show ns.length+2<=1000;omega)
  have h:∀x∈ns++[i,j],0<=x/\x<n:=λx hx=>by
   obtain hx|hx:=D5.mp hx
   .exact bd x hx
   .simp only[C1,Y9,A2e]at hx;obtain rfl|rfl:=hx
    .exact hi
    .exact H
  have K:=ZX ad (λx hx=>by have:=h x hx;omega) (by rw[B6];show ns.length+2<=60;omega);refine⟨bK<|iN (ns++[i,j]),M2,gK rfl<|(aQ s1).trans ((aQ s2).trans ((aQ<|(eP t).trans (bH<|aV (aF K aP) rfl)).trans rfl)),⟨UZ _,λx hx=>h x<|sd_mem.mp hx,?_,?_⟩,u,o.trans A⟩
  .have a:i∈bK (iN (ns++[i,j])):=sd_mem.mpr 67;have b:j∈bK (iN (ns++[i,j])):=sd_mem.mpr 67;generalize bK (iN (ns++[i,j]))=l at a b
   match l,a,b with
   |[],a,_=>cases a
   |[x],a,b=>exact absurd ((B4.mp a).trans (B4.mp b).symm) ne
   |_::_::_,_,_=>exact Nat.le_add_left ..
  .exact C5 (NH (UZ _) λx hx=>h x<|sd_mem.mp hx) B
 .rw[D0 q]at t;exact⟨ns,M2,gK rfl<|(aQ s1).trans ((aQ s2).trans ((aQ<|(bY t).trans rfl).trans rfl)),⟨F,bd,61,C5 le B⟩,u,o.trans A⟩
def Li.putE{xs:T6}(h:Li M c xs)(k:q<xs.length):EV (.c c) (I q) (I z) M=Z (M.set c<|cI<|xs.set q z):=by
 have hn:ixN (xs.map λi=>I i).length (q:Int)=Z q:=by
  unfold ixN;rw[A8 (Int.natCast_nonneg q),A8 (by rw[A6];omega),U1]
 unfold Li at h;simp only[EV,h,hn,A2,cI,List.map_set]
theorem aAo{c m:Nat}{p:Ua}{q:Nat}(C:0<q)(B:∀M,pO [.d p] M=Z (I q,M)):∀(k:Nat)(lo:Int)(s:Te)(M:Sto),Dk M c (m+k)->∃(ns:T6)(M':Sto),lcF (cq 2) cK (fOp dJ aAX aBK) (iB lo k) [Z (.d p),Z (.c c),s] M=Z (ns.map λi=>I i,M')/\(∀i∈ns,0<=i/\i<q)/\ns.length=k/\Dk M' c m/\Ex c M M'
 |0=>λlo s M dk=>⟨[],M,rfl,λi h=>by simp at h,rfl,dk,.refl ..⟩
 |k+1=>λlo s M dk=>by
  let⟨z,M1,D,o,t,_⟩:=Dk.popE dk;let⟨ns,M2,E,bd,le,u,A⟩:=aAo C B k (lo+1) (Z<|I lo) M1 o;have F:cq 2 (I lo) [Z (.d p),Z (.c c),s] M=Z ([Z (.d p),Z (.c c),Z<|I lo],M):=rfl;have ev:fOp dJ aAX aBK [Z (.d p),Z (.c c),Z<|I lo] M=Z (I (z % (q:Int)),M1):=jM (pop_at rfl dk.ty D) (aV (aF rfl aP)<|B M1) 61;rw[yC];refine⟨z % (q:Int)::ns,M2,?_,λi hi=>?_,by rw[D8,le],u,t.trans A⟩
  .simp only[lcF,F,A2,cK,A0g,ev,E,C6]
  .obtain rfl|hi:=C1.mp hi
   .exact em 61
   .exact bd i hi
structure Nms(n:Nat)(ps vs:T6):Prop where
 len:vs.length=n
 bd:∀i∈vs,0<=i/\i<ps.length
 own:∀j (h:j<ps.length),vs[ps[j].toNat]?=Z (j:Int)
abbrev GN(c:Nat)(n:Int)(p:Ua)(f:Nat)(k g:Te):Ga:=[Z (.c c),Z<|I n,Z (.d p),Z (.c f),k,g]
theorem YH{c n f:Nat}{ps:T6}{p:Ua}(t:∀i∈ps,0<=i/\i<n)(nd:ps.Nodup):∀(qs:T6)(k:Nat)(g4 g5:Te)(vs:T6)(M:Sto),ps.drop k=qs->Li M f vs->vs.length=n->(∀i∈vs,0<=i/\i<ps.length)->(∀j (h:j<ps.length),j<k->vs[ps[j].toNat]?=Z (j:Int))->
 ∃B C o,mH (fR 2 aBP) gH (eM k<|qs.map .int) (GN c n p f g4 g5) M=Z (.nx (GN c n p f B C),M.set f<|cI o)/\Nms n ps o
 |[]=>λk g4 g5 vs M hd A ln bd own=>by
  have D:ps.length<=k:=by
   have:=Z7 List.length hd;rw[A1k,Z5]at this;omega
  refine⟨g4,g5,vs,?_,ln,bd,λj h=>own j h 61⟩;show Z (Out.nx<|GN c n p f g4 g5,M)=_
  have:M.set f (cI vs)=M:=by
   have:=A;let⟨P,Q⟩:=B9.mp this;rw[<- Q];exact List.set_getElem_self P
  rw[this]
 |q::qs=>λk g4 g5 vs M hd A ln bd own=>by
  have F:ps[k]?=Z q:=by
   have:=Z7 (λl=>l[0]?) hd;simpa using this
  let⟨D,G⟩:=B9.mp F;have T:=t q<|U7 F;obtain⟨u,H⟩:∃u:Nat,q=(u:Int):=⟨q.toNat,61⟩
  have st:gH (GN c n p f (Z<|I k)<|Z<|I q) M=Z (.nx (GN c n p f (Z<|I k)<|Z<|I q),M.set f<|cI<|vs.set u k):=by
   have K:=A.putE (q:=u) (z:=k) 61;rw[<- H]at K;unfold gH;simp only[bA,hSub,aE,A0t,A0c,A2,K]
  rw[C6,zY,pG rfl st]
  have E:ps.drop (k+1)=qs:=by
   have:=Z7 (List.drop 1) hd;rw[List.drop_drop]at this;exact this
  let⟨B,C,o,R,nm⟩:=YH t nd qs (k+1) (Z<|I k) (Z<|I q) (vs.set u k) (M.set f<|cI<|vs.set u k) E (A.set).1 (by rw[Z6];exact ln) (λi hi=>by
   obtain h|h:=List.mem_or_eq_of_mem_set hi
   .exact bd i h
   .rw[h];omega) (λj h U=>by
   by_cases e:j=k
   .subst e;rw[G,H,U1,F0 61]
   .have ne:ps[j]≠q:=λz=>by
     rw[<- G]at z;have O:=List.pairwise_iff_getElem.mp nd;obtain l|l:=Nat.lt_or_gt_of_ne e
     .exact O j k h D l z
     .exact O k j D h l z.symm
    have V:=t ps[j] (U9 h);rw[F6 61];exact own j h 61)
  refine⟨B,C,o,?_,nm⟩;rw[R,List.set_set]
def aAW(G:n<=8)(u:Pls n ps)(dk:Dk M c (m+n)):∃f vs M',mB [.c c,I n,.d (.tuple (ps.map .int))] M=Z (.c f,M')/\Li M' f vs/\Nms n ps vs/\Dk M' c m/\Ex c M M'/\M.length<=f:=by
 have B:=λM=>by
  have:=wH (k:=false) (ds:=ps.map .int) (M:=M);rw[A6]at this;exact this
 let⟨ns,M1,C,bd,le,t,o⟩:=aAo (by have:=u.two;omega) B n 0 Y M dk;have it:=rn1 (fa:=aC (aE 1) aN) (γ:=[Z (.c c),Z<|I n,Z (.d (.tuple (ps.map .int))),Y,Y,Y]) (M:=M) rfl 61 61
 have D:pJ [Z (.c c),Z<|I n,Z (.d (.tuple (ps.map .int))),Y,Y,Y] M=Z (.c M1.length,M1++[.lst (ns.map λi=>I i)]):=by
  exact aDF it (by rw[dO];omega) C (by rw[A6];omega)
 have A:Li (M1++[Cell.lst (ns.map λi=>I i)]) M1.length ns:=iZ;let⟨H,K,vs,E,nm⟩:=YH (λi hi=>u.bd i hi) (u.ris.imp λh=>61) ps 0 Y Y ns _ 67 A le bd (λj h O=>61)
 have F:nL xq1 (GN c n (.tuple (ps.map .int)) M1.length Y Y) (M1++[Cell.lst (ns.map λi=>I i)])=Z (eM 0<|ps.map .int,M1++[.lst (ns.map λi=>I i)]):=by
  simp![nL,aR];rfl
 have s1:=bH (i:=3) D;have cl:=t.lt;refine⟨M1.length,vs,(M1++[Cell.lst (ns.map λi=>I i)]).set M1.length (cI vs),gK rfl<|(aQ s1).trans ((aQ<|mU F E).trans rfl),(A.set).1,nm,(t.app).put 61,(o.trans<|Ex.app ..).put o.len,o.len⟩
def Li.at_{k:Nat}{xs:T6}(h:Li M c xs)(o:xs[k]?=Z z):ixF (.c c) (I k) M=Z (I z,M):=by
 show(match M[c]? with|some (.lst xs)=>_|_=>Y)=_;rw[h];show(atI (xs.map λi=>I i) (k:Int)).bind _=_;rw[lM (by rw[D7,o];rfl)];rfl
def aII(n:Nat):iB 0 n=(upZ n).map λi=>I i:=by
 unfold iB upZ;rw[J0];refine O8 λi _=>?_;show CD.d (.int (0+(i:Int)))=I (i:Int);rw[Int.zero_add]
def grp(vs:T6)(k:Int):T6:=(upZ vs.length).filter λp=>vs.getD p.toNat 0==k
noncomputable abbrev wyD(ns:T6):Ua:=.tuple (ns.map .int)
abbrev GO(f:Nat)(q:Int)(g:Nat)(k:Te):Ga:=[Z (.c f),Z<|I q,Z (.c g),k]
def XQ(h:i∈upZ n):0<=i/\i<n:=by
 let⟨j,k,rfl⟩:=D3.mp h;have:=E4.mp k;omega
def aHR{f g:Nat}{q:Int}(h:Li M f vs)(u:vs.length<=8):mM (GO f q g<|Z<|I k) M=Z (.d (.list ((grp vs k).map .int)),M):=by
 have it:=rn1 (fa:=aC aBK aN) (γ:=GO f q g<|Z<|I k) (aF (aV (aF rfl aP) h.ln) aP) 61 61;rw[U1,aII]at it
 refine kN it (by rw[A6];unfold upZ;rw[A6,O0];omega) ?_ (by
  rw[A6];refine C5 (Y4 ..) ?_;unfold upZ;rw[A6,O0];omega)
 refine EB (λp:Int=>I p) (λp=>vs.getD p.toNat 0==k) (λp=>.int p) (upZ vs.length) _ (λy=>rfl) (λp o=>⟨?_,65⟩);have A:=XQ o;obtain⟨pp,rfl⟩:∃pp:Nat,p=(pp:Int):=⟨p.toNat,61⟩
 have t:vs[pp]?=Z (vs.getD pp 0):=by
  rw[D9,C0 61];rfl
 exact dN<|bF (bF rfl rfl<|h.at_ t) rfl NV
def RP{f:Nat}(A:Li M f vs)(B:vs.length<=8)(O:q<=8):∃M',jP [.c f,I q] M=Z (.d (.tuple ((List.range q).map λk:Nat=>wyD<|grp vs k)),M')/\M.length<=M'.length/\∀j,j<M.length->M'[j]?=M[j]?:=by
 have C:=A.lt;have s1:bA (rS aN) (cq 2) [Z (.c f),Z<|I q,Y,Y] M=Z (.nx (GO f q M.length Y),M++[.lst []]):=bH<|NF aP 66;have it:=rn1 (fa:=aC (aE 1) aN) (γ:=GO f q M.length Y) (M:=M++[Cell.lst []]) rfl 61 61
 let⟨γ',o,D,⟨g3,rfl⟩,E,F,G⟩:=uZ (g:=cq 3) (n:=q) (Inv:=λk γ N=>(∃g3,γ=GO f q M.length g3)/\N[M.length]?=Z (.lst (((List.range k).map λk:Nat=>wyD<|grp vs k).map .d))/\M.length<=N.length/\∀j,j<M.length->N[j]?=M[j]?) (by
  rintro k P γ N ⟨⟨g3,rfl⟩,h,l,kp⟩;have t:Li N f vs:=by unfold Li;rw[kp f C];exact A
  have H:mI (GO f q M.length<|Z<|I (k:Nat)) N=Z (.nx (GO f q M.length<|Z<|I (k:Nat)),N.set M.length (.lst (((List.range k).map λk:Nat=>wyD<|grp vs k).map .d++[.d (wyD<|grp vs k)]))):=by
   exact yG (xY rfl (aDD h) (aF (aV (aF (aHR t B) aP) rfl) aP)<|HI h (by rw[A6,A6,O0];omega))
  refine⟨_,_,_,rfl,H,⟨_,rfl⟩,?_,by rw[Z6];exact l,λj u=>by rw[F6 61];exact kp j u⟩;rw[F0 (B9.mp h).1,List.range_succ,E3,E3];rfl) q 0 (GO f q M.length Y) (M++[Cell.lst []]) 61 ⟨⟨_,rfl⟩,iZ,by rw[B6];omega,λj u=>Y0 u⟩
 have K:iH [.c M.length] o=Z (.d (.tuple ((List.range q).map λk:Nat=>wyD<|grp vs k)),o):=by
  show(match o[M.length]? with|some (.lst ys)=>(kI ys).bind _|_=>Y)=_;rw[E];show(kI _).bind _=_;rw[lU];rfl
 exact⟨o,gK rfl<|(aQ s1).trans ((aQ<|mU it D).trans (gR<|aV (aF rfl aP) K)),F,G⟩
def RL(n:Nat):(upZ n).Pairwise (·<·):=by
 exact List.Pairwise.map _ (λa b h=>61)<|List.pairwise_lt_range
def grp_in:i∈grp vs k↔(0<=i/\i<vs.length)/\vs.getD i.toNat 0=k:=by
 unfold grp;rw[A0e];exact⟨λ⟨a,b⟩=>⟨XQ a,by simpa using b⟩,λ⟨a,b⟩=>⟨TM a,by simpa using b⟩⟩
def aIL(b:Bool):cT vs.length (Rw b<|(grp vs k).map .int)=true:=by
 rw[HP (NA λi hi=>(grp_in.mp hi).1)];exact(DY<|grp vs k).mpr ((RL _).filter _)
def gsD(b:Bool)(vs:T6)(q:Nat):T3:=(List.range q).map λk:Nat=>Rw b<|(grp vs k).map .int
def aCE(b:Bool)(vs:T6)(q:Nat):(gsD b vs q).all (cT vs.length)=true:=by
 unfold gsD;rw[A2n];exact C3.mpr λk _=>aIL b
def aHH(b:Bool)(vs:T6)(q:Nat):bP (gsD b vs q)=(List.range q).flatMap λk:Nat=>grp vs k:=by
 unfold bP gsD;rw[List.flatMap_map];congr 1;funext k;exact EM
def ZI(b:Bool)(nm:Nms n ps vs):bK (bP<|gsD b vs ps.length)=upZ n:=by
 have nd:((List.range ps.length).flatMap λk:Nat=>grp vs k).Nodup:=by
  refine List.pairwise_flatMap.mpr ⟨λk _=>((RL _).filter _).imp λh=>61,?_⟩;refine(List.nodup_range).imp λ{x y} ne i hi j t e=>?_;subst e;have a:=(grp_in.mp hi).2;have c:=(grp_in.mp t).2;omega
 have pm:(bP<|gsD b vs ps.length).Perm (upZ n):=by
  rw[aHH];refine(List.perm_ext_iff_of_nodup nd<|aCt n).mpr λi=>?_;rw[List.mem_flatMap];constructor
  .rintro⟨k,_,h⟩;have:=(grp_in.mp h).1;rw[nm.len]at this;exact TM this
  .intro h;have u:=XQ h;have o:i.toNat<vs.length:=by rw[nm.len];omega
   have A:=nm.bd _<|U9 o;have gd:vs.getD i.toNat 0=vs[i.toNat]:=by rw[D9,C0 o];rfl
   refine⟨(vs[i.toNat]).toNat,E4.mpr 61,grp_in.mpr ⟨by rw[nm.len];exact u,?_⟩⟩;omega
 exact lP (eL _) ((RL n).imp λh=>61)<|(cN _).trans pm
def aMz{ps:T6}(b:Bool)(nm:Nms n ps vs)(bd:∀i∈ps,0<=i/\i<n):uK ps (gsD b vs ps.length)=true:=by
 refine C3.mpr λz k=>?_;let⟨j,o,rfl⟩:=List.mem_iff_getElem.mp k;rw[List.length_zip]at o;have h:j<ps.length:=61
 have e:(gsD b vs ps.length)[j]' 61=Rw b ((grp vs (j:Int)).map .int):=by
  unfold gsD;rw[List.getElem_map,List.getElem_range]
 rw[List.getElem_zip];rw[e];refine memB_iff.mpr ?_;rw[EM];have t:=bd _<|U9 h;refine grp_in.mpr ⟨by rw[nm.len];exact t,?_⟩;rw[D9,nm.own j h];rfl
def aQs(b c:Bool)(nm:Nms n ps vs)(h:Pls n ps):apD n ps (Rw c<|gsD b vs ps.length)=true:=by
 unfold apD;rw[cB];have l:(gsD b vs ps.length).length=ps.length:=by unfold gsD;rw[A6,O0]
 have r:=aCE b vs ps.length;rw[nm.len]at r;show(decide ((gsD b vs ps.length).length=ps.length)&&_)=true;rw[B8 l,r,B8<|ZI b nm,aMz b nm h.bd];rfl
noncomputable def sI:T3:=[.none,.bool true,.bool false,.int 0,.int 1,.int (-1),.int 1000000000000000000000000000000,.str "",.str "0",.str "01",.tuple [],.list [],.dict [],.dict [(.int 0,.int 1)],.tuple [.int 0],.list [.int 0]]
noncomputable def xQ:T3:=[.tuple [.int 1,.int 0],.tuple [.tuple [.int 0],.int 1],.tuple [.none],.tuple [.bool true],.tuple [.int 0,.bool true],.tuple [.str "0",.int 1],.tuple [.tuple []],.tuple [.tuple [],.tuple []]]
noncomputable def KG:T3:=[.tuple [.int 0,.int 1,.int 2,.int 40],.list [.list [.int 0]],.tuple [.int (-1),.int 0],.tuple [.int 0,.int 0],.tuple [.tuple [.int 0,.int 1,.tuple [.int 1,.int 1]]]]
def aEb:JZ [((fC (.int 0)),(fC (.int 1)))] γ M=Z (.d (.dict [(.int 0,.int 1)]),(M++[Cell.dk []]).set M.length Cell.dead):=by
 have h:LX [((fC (.int 0)),(fC (.int 1)))] γ (M++[.dk []])=Z ([(I 0,I 1)],M++[.dk []]):=rfl;have k:(M++[Cell.dk []])[M.length]?=Z (.dk []):=67
 have nd:(([(.inl 0,.int 1)]:Tv (Key×Ua)).map (·.1)).Nodup:=by
  simp
 unfold JZ;rw[h,A2];rw[k];rfl
def Tm:Nat->Ua->Prop
 |0,d=>aR d=Y
 |m+1,d=>∀ds,aR d=Z ds->ds.length<64/\∀x∈ds,Tm m x
def Tm.up:∀{m:Nat}{d:Ua},Tm m d->Tm (m+1) d
 |0,d=>λh=>λds hd=>by rw[show aR d=Y from h]at hd;cases hd
 |m+1,d=>λh=>λds hd=>⟨(h ds hd).1,λx k=>((h ds hd).2 x k).up⟩
def Tm.upTo{k:Nat}(h:Tm m d)(le:m<=k):Tm k d:=by
 induction le with
 |refl=>exact h
 |step _ ih=>exact ih.up
noncomputable def lsD:Nat->Ua->Ua
 |m+1,.tuple ds=>.list (ds.map<|lsD m)
 |_,d=>d
def QH:∀(m:Nat)(d:Ua)(M:Sto),Tm m d->dE (m+1) [.d d] M=Z (.d (lsD m d),M):=by
 have non:∀(m:Nat)(d:Ua)(M:Sto),(∀ds,d≠.tuple ds)->lsD m d=d/\dE (m+1) [.d d] M=Z (.d d,M):=λm d M h=>by
  cases d with
  |tuple ds=>exact absurd rfl<|h ds
  |_=>exact⟨by cases m<;>rfl,rfl⟩
 intro m
 induction m with
 |zero=>
  intro d M h;let⟨u,k⟩:=non 0 d M λds e=>by rw[e]at h;cases h
  exact k
 |succ m ih=>
  intro d M h;by_cases q:∃ds,d=.tuple ds
  .let⟨ds,rfl⟩:=q;let⟨C,A⟩:=h ds rfl;have B:=aCS (i:=0) (cap:=[Y]) (f:=aE 0) (e:=aM (dE (m+1)) xq4) (γ:=[Z (.d (.tuple ds))]) rfl rfl 61 λx o=>aV (aF rfl aP)<|ih x M<|A x o;refine gK rfl ?_;have t:gB (AU "tuple"<|aE 0) [Z (.d (.tuple ds))] M=Z (true,M):=rfl;exact jR<|(eP t).trans (gR B)
  .let⟨u,k⟩:=non (m+1) d M λds e=>q ⟨ds,e⟩;rw[u];exact k
structure Bw(d:Ua):Prop where
 t:Thg d
 l:Thg (lsD 2 d)
 m:Tm 2 d
structure Es(k:Nat)(es:T3):Prop where
 len:es.length<=k
 ok:∀e∈es,Itm e/\lsD 1 e=e/\Tm 1 e
def Es.le(h:Es k es)(o:k<=l):Es l es:=⟨C5 h.len o,h.ok⟩
def Es.cut{lo:Tk}(h:Es k es):Es k (fH es lo hi):=⟨C5 (YD ..) h.len,λe o=>h.ok e<|XA e o⟩
def Es.app(h:Es k es)(g:Es l fs):Es (k+l) (es++fs):=⟨by rw[B6];have:=h.len;have:=g.len;omega,λe o=>(D5.mp o).elim (h.ok e) (g.ok e)⟩
def Es.rev(h:Es k es):Es k es.reverse:=⟨by rw[Y2];exact h.len,λe o=>h.ok e<|List.mem_reverse.mp o⟩
def TY(h:0<=i/\i<1000):Itm (.int i)/\lsD 1 (.int i)=.int i/\Tm 1 (.int i):=⟨uS 61,rfl,Tm.upTo (m:=0) rfl 66⟩
def DL{ns:T6}{k:Nat}(l:ns.length<=k)(h:∀a∈ns,0<=a/\a<1000):Es k (ns.map .int):=⟨by rw[A6];exact l,λe o=>by
 let⟨a,ha,rfl⟩:=D3.mp o;exact TY (h a ha)⟩
def VW{e:Ua}(h:Itm e/\lsD 1 e=e/\Tm 1 e):Es 1 [e]:=⟨B3 _,λx k=>by rw[B4.mp k];exact h⟩
def VM(h:Es 30 es):Bw (.tuple es):=by
 have t:es.map (lsD 1)=es:=by
  rw[O8 (g:=id) λe o=>(h.ok e o).2.1,List.map_id]
 have u:=h.len;refine⟨UN (k:=false) (λe o=>(h.ok e o).1) 61,?_,λds hd=>?_⟩
 .show Thg (.list (es.map<|lsD 1));rw[t];exact UN (k:=true) (λe o=>(h.ok e o).1) 61
 .cases hd;exact⟨61,λe o=>(h.ok e o).2.2⟩
def OJ{M1:Sto}(h:f γ M=Z (.d x,M1)):bG (aC f aN) γ M=Z (.d (.tuple [x]),M1):=by
 unfold bG;rw[aF h aP,A2];show(if 1<=bv then Z (CD.d (.tuple [x]),M1)else Y)=_;rw[A8 (sz 66)]
def XT(h:γ[v]?=Z (Z (.d (.tuple ds)))):OR (aE v) (iL xq5) γ M=Z (.d (.tuple ds.reverse),M):=by
 unfold OR;rw[rX h];rfl
def aHo{xs:T3}(h:xs.Sublist ys):(xs.flatMap itO).length<=(ys.flatMap itO).length:=by
 induction h with
 |slnil=>exact B3 _
 |cons a _ ih=>rw[A0d,B6];omega
 |cons_cons a _ ih=>rw[A0d,A0d,B6,B6];omega
def aIw{lo:Tk}:(fH ds lo hi).Sublist ds:=by
 exact(List.take_sublist ..).trans (List.drop_sublist ..)
structure BG(k t:Nat)(es:T3):Prop where
 ok:∀d∈es,Bw d
 len:es.length<=k
 tot:(es.flatMap itO).length<=t
def BG.cut{lo:Tk}(h:BG k t es):BG k t (fH es lo hi):=⟨λd hd=>h.ok d<|XA d hd,C5 (YD ..) h.len,C5 (aHo aIw) h.tot⟩
def BG.app(h:BG k t es)(g:BG k' t' fs):BG (k+k') (t+t') (es++fs):=⟨λd hd=>(D5.mp hd).elim (h.ok d) (g.ok d),by rw[B6];exact Nat.add_le_add h.len g.len,by rw[List.flatMap_append,B6];exact Nat.add_le_add h.tot g.tot⟩
def US(h:Bw d)(l:(itO d).length<=10):BG 1 10 [d]:=⟨λx k=>by rw[B4.mp k];exact h,B3 _,by rw[List.flatMap_singleton];exact l⟩
def BG.le(h:BG k t es)(a:k<=k')(b:t<=t'):BG k' t' es:=⟨h.ok,C5 h.len a,C5 h.tot b⟩
def BE(x:CD):Prop:=∃d,x=.d d/\Bw d/\(itO d).length<=10
def zX(h:Es 10 es):BE (.d (.tuple es)):=⟨_,rfl,VM<|h.le 66,h.len⟩
def aHM:BE (.d .none):=⟨_,rfl,⟨UG (by decide +kernel),UG (by decide +kernel),Tm.upTo (m:=0) rfl 66⟩,E6 _⟩
def es_m1:Es 1 [.int (-1)]:=VW ⟨uS 66,rfl,Tm.upTo (m:=0) rfl 66⟩
def aEP{l u:OF}{p q:Tk}(h:aE v γ M=Z (.d (.tuple ds),M))(k:l γ M=Z (p,M))(o:u γ M=Z (q,M)):fSl (aE v) l u γ M=Z (.d (.tuple (fH ds p q)),M):=aOr h k o sl_tup
def HK(h:f γ M=Z (I i,M)):iL f γ M=Z (Z i,M):=by
 simp only[iL,h,A2,asI]
abbrev GB(c:Nat)(ds:T3)(n z a:Int)(g:Ua)(p:Int)(b k:Te):Ga:=[Z (.c c),Z (.d (.tuple ds)),Z<|I n,Z<|I z,Z<|I a,Z (.d g),Z<|I p,b,k]
def bgL(h:BG k t es)(l:es.length<=9)(ht:t<=40):BG 9 40 es:=⟨h.ok,l,C5 h.tot ht⟩
def WS:(fH ds Y<|Z 1).length=min 1 ds.length:=by
 unfold fH;rw[show(1:Int)=((1:Nat):Int)from rfl,HT.sIx_none,HT.sIx_nat,List.drop_zero,Nat.sub_zero,A0r];omega
abbrev b6(ns:T6)(p:Int)(n:Nat):T5:=[.d (.tuple (fH (ns.map .int) Y<|Z (-1))),.d (.tuple ((bK<|iN (ns++[p])).map .int)),.d (.tuple ((ns.map .int).reverse++[.int p])),.d (.tuple []),.d (.tuple (ns.map .int++[.int n])),.d .none]
abbrev b7(ns:T6)(p:Int)(n:Nat):T5:=b6 ns p n++[.d (.tuple ([.int (-1)]++ns.map .int))]
def aMm(n2:2<=n)(n8:n<=8)(q2:2<=q)(q8:q<=8)(vl:vs.length=n)(gd:BG 8 8 (gsD false vs q))(dk:Dk M c (m+1)):∃es M',eJ [.c c,.d (.tuple (gsD false vs q)),I n] M=Z (.d (.tuple es),M')/\BG 9 40 es/\Dk M' c m/\Ex c M M':=by
 have dl:(gsD false vs q).length=q:=by unfold gsD;rw[A6,O0]
 let⟨z,M1,p1,K,O,_⟩:=Dk.popE dk;have za:=em (z:=z) (n:=q) 61;obtain⟨a,ha⟩:∃a:Nat,z % (q:Int)=a:=⟨(z % (q:Int)).toNat,61⟩;have al:a<q:=61
 have W:=em (z:=z / 8) (n:=n) 61;obtain⟨p,X⟩:∃p:Int,z / 8 % (n:Int)=p:=⟨_,rfl⟩;rw[X]at W;have o:∀i∈grp vs (a:Int),0<=i/\i<n:=λi hi=>by have:=(grp_in.mp hi).1;omega
 have t:(grp vs (a:Int)).Pairwise (·<·):=(RL _).filter _;have u:(grp vs (a:Int)).length<=8:=C5 (NH t o) n8
 have ga:(gsD false vs q)[a]?=Z (wyD<|grp vs (a:Int)):=by
  unfold gsD;rw[D7,A2i al];rfl
 generalize a0:grp vs (a:Int)=ns at o t u ga;generalize gsD false vs q=ds at gd dl ga;have F:Es 8 (ns.map .int):=DL u λi hi=>by have:=o i hi;omega
 have ep:Es 1 [PyData.int p]:=VW<|TY 61;have en:Es 1 [PyData.int n]:=VW<|TY 61;have s1:bA xq2 (cq 3) [Z (.c c),Z (.d (.tuple ds)),Z<|I n,Y,Y,Y,Y,Y,Y] M=Z (.nx [Z (.c c),Z (.d (.tuple ds)),Z<|I n,Z<|I z,Y,Y,Y,Y,Y],M1):=bH (i:=3)<|pop_at rfl dk.ty p1
 have s2:bA (fOp dJ (aE 3) WC) (cq 4) [Z (.c c),Z (.d (.tuple ds)),Z<|I n,Z<|I z,Y,Y,Y,Y,Y] M1=Z (.nx [Z (.c c),Z (.d (.tuple ds)),Z<|I n,Z<|I z,Z<|I a,Y,Y,Y,Y],M1):=by
  rw[<- ha];refine bH (i:=4)<|jM rfl (aV (aF rfl aP) ?_) 61;have:=wH (k:=false) (ds:=ds) (M:=M1);rw[dl]at this;exact this
 have s3:bA (fOp ixF (aE 1)<|aE 4) (cq 5) [Z (.c c),Z (.d (.tuple ds)),Z<|I n,Z<|I z,Z<|I a,Y,Y,Y,Y] M1=Z (.nx [Z (.c c),Z (.d (.tuple ds)),Z<|I n,Z<|I z,Z<|I a,Z (.d (wyD ns)),Y,Y,Y],M1):=bH (i:=5)<|bF rfl rfl<|OE rfl<|lM ga
 have s4:bA aOe (cq 6) [Z (.c c),Z (.d (.tuple ds)),Z<|I n,Z<|I z,Z<|I a,Z (.d (wyD ns)),Y,Y,Y] M1=Z (.nx (GB c ds n z a (wyD ns) p Y Y),M1):=by
  rw[<- X];exact bH (i:=6)<|jM (AL rfl 66 66) rfl 61
 have b1:fSl (aE 5) gJ (iL xq5) (GB c ds n z a (wyD ns) p Y Y) M1=Z (.d (.tuple (fH (ns.map .int) Y<|Z (-1))),M1):=aEP rfl rfl<|HK rfl;have one:bG NU (GB c ds n z a (wyD ns) p Y Y) M1=Z (.d (.tuple [.int p]),M1):=OJ rfl
 have P:fOp dP (aE 5) (bG NU) (GB c ds n z a (wyD ns) p Y Y) M1=Z (.d (.tuple ((ns++[p]).map .int)),M1):=by
  rw[E3];exact bF rfl one<|jT (by rw[A6];show ns.length+1<=1000;omega)
 have Q:∀x∈ns++[p],0<=x/\x<n:=λx hx=>by
  obtain hx|hx:=D5.mp hx
  .exact o x hx
  .rw[B4.mp hx];exact W
 have b2:=ZX P (λx hx=>by have:=Q x hx;omega) (by rw[B6];show ns.length+1<=60;omega);have R:Es 10 ((bK<|iN (ns++[p])).map .int):=DL (C5 (NH (UZ _) λx hx=>Q x<|sd_mem.mp hx) 61) λx hx=>by have:=Q x<|sd_mem.mp hx;omega
 have b3:fOp dP (OR (aE 5)<|iL xq5) (bG NU) (GB c ds n z a (wyD ns) p Y Y) M1=Z (.d (.tuple ((ns.map .int).reverse++[.int p])),M1):=bF (XT rfl) one<|jT (by rw[Y2,A6];show ns.length+1<=1000;omega);have b5:fOp dP (aE 5) (bG xq1) (GB c ds n z a (wyD ns) p Y Y) M1=Z (.d (.tuple (ns.map .int++[.int n])),M1):=bF rfl (OJ rfl)<|jT (by rw[A6];show ns.length+1<=1000;omega)
 have s5:bA xq7 (cq 7) (GB c ds n z a (wyD ns) p Y Y) M1=Z (.nx (GB c ds n z a (wyD ns) p (Z (.c M1.length)) Y),M1++[.lst (b6 ns p n)]):=
  bH (i:=7) (NF (aF b1<|aF (aV (aF b2 aP) rfl)<|aF b3<|aF (x:=.d (.tuple [])) rfl<|aF b5<|aF (x:=.d .none) rfl aP) (show 6<=900 by decide))
 have bs:∀x∈b7 ns p n,BE x:=λx hx=>by
  simp only[b7,b6,List.cons_append,A1o,C1,Y9,A2e]at hx;obtain rfl|rfl|rfl|rfl|rfl|rfl|rfl:=hx
  .exact zX<|F.cut.le 66
  .exact zX R
  .exact zX<|(F.rev.app ep).le 66
  .exact zX ⟨E6 _,λe he=>by cases he⟩
  .exact zX<|(F.app en).le 66
  .exact aHM
  .exact zX<|(es_m1.app F).le 66
 have M2c:=iZ (M:=M1) (c:=.lst (b6 ns p n));have T:fOp dP dY (aE 5) (GB c ds n z a (wyD ns) p (Z (.c M1.length)) Y) (M1++[.lst (b6 ns p n)])=Z (.d (.tuple ([.int (-1)]++ns.map .int)),_):=bF (rQ ..) rfl<|jT (by rw[A6];show 1+ns.length<=1000;omega);have G:=yG (f:=fS "list" eZ (aE 7)<|aC (fOp dP dY<|aE 5) aN)<|xY (x:=.c M1.length) (γ:=GB c ds n z a (wyD ns) p (Z (.c M1.length)) Y) rfl (aDD M2c) (aF T aP)<|HI M2c (show 6<900 by decide);rw[aGR,show b6 ns p n++[CD.d (.tuple ([.int (-1)]++ns.map .int))]=b7 ns p n from rfl]at G;have M3c:=iZ (M:=M1) (c:=.lst (b7 ns p n));have A:=O.trans<|Ex.app c M1 [.lst (b7 ns p n)];have B:=K.app (L:=[.lst (b7 ns p n)]);have bl:(b7 ns p n).length=7:=rfl;generalize b7 ns p n=xs at bs G M3c A B bl;generalize M1++[Cell.lst xs]=M3 at G M3c A B;generalize hk:z / 64 % 10=k;have k0:0<=k/\k<10:=61
 have s7:bA aOR (cq 8) (GB c ds n z a (wyD ns) p (Z (.c M1.length)) Y) M3=Z (.nx (GB c ds n z a (wyD ns) p (Z (.c M1.length))<|Z<|I k),M3):=by
  rw[<- hk];exact bH (i:=8)<|wG (AL rfl 66 66) 66
 have U:∀j:Int,gB (fOp (eqX false) (aE 8)<|fC (.int j)) (GB c ds n z a (wyD ns) p (Z (.c M1.length))<|Z<|I k) M3=Z (k==j,M3):=λj=>dN<|bF rfl aDB NV;have pre:fSl (aE 1) gJ (iL<|aE 4) (GB c ds n z a (wyD ns) p (Z (.c M1.length))<|Z<|I k) M3=Z (.d (.tuple (fH ds Y<|Z (a:Int))),M3):=aEP rfl rfl<|HK rfl;have C:fSl (aE 1) (iL<|fOp dP (aE 4)<|fC (.int 1)) gJ (GB c ds n z a (wyD ns) p (Z (.c M1.length))<|Z<|I k) M3=Z (.d (.tuple (fH ds (Z ((a:Int)+1)) Y)),M3):=aEP rfl (HK<|bF rfl rfl vU) rfl;have c2:=YC (ds:=ds) (a:=(a:Int)) 61 61;have gA:=gd.cut (lo:=Y) (hi:=Z (a:Int));have gZ:=gd.cut (lo:=Z ((a:Int)+1)) (hi:=Y);have wy:Bw (wyD ns):=gd.ok _<|U7 ga;have go:∀es,dM [Z (.c c),Z (.d (.tuple ds)),Z<|I n,Y,Y,Y,Y,Y,Y] M=Z (.rt (.d (.tuple es)),M3)->BG 9 40 es->∃es M',eJ [.c c,.d (.tuple ds),I n] M=Z (.d (.tuple es),M')/\BG 9 40 es/\Dk M' c m/\Ex c M M':=λes h b=>⟨es,M3,gK rfl h,b,B,A⟩;have hd:∀r,(bC aPT
 (bC aOL
 (bC aOF
 aPu)):SF) (GB c ds n z a (wyD ns) p (Z (.c M1.length)) (Z (I k))) M3=r->dM [Z (.c c),Z (.d (.tuple ds)),Z (I n),Y,Y,Y,Y,Y,Y] M=r:=λr h=>by
  unfold dM;rw[aQ s1,aQ s2,aQ s3,aQ s4,aQ s5];exact(aQ G).trans ((aQ s7).trans h)
 have t7:=U 7;have H:=U 8;have V:=U 9;by_cases h7:k=7
 .refine go (fH ds Y (Z (a:Int))++fH ds (Z ((a:Int)+1)) Y) (hd _<|jR<|(eP<|t7.trans (by rw[h7];rfl)).trans (gR<|bF pre C<|jT 61))<|bgL (gA.app gZ) (by rw[B6];omega) 66
 .have f7:(k==7)=false:=by simpa using h7
  rw[f7]at t7;by_cases h8:k=8
  .refine go (ds++[wyD ns]) (hd _<|(aQ<|(bY t7).trans rfl).trans (jR<|(eP<|H.trans (by rw[h8];rfl)).trans (gR<|bF rfl (OJ rfl)<|jT (by show ds.length+1<=1000;omega))))<|bgL (gd.app<|US wy (by show(ns.map PyData.int).length<=10;rw[A6];omega)) (by rw[B6];show ds.length+1<=9;omega) 66
  .have f8:(k==8)=false:=by simpa using h8
   rw[f8]at H;by_cases h9:k=9
   .have c9:=YC (ds:=ds) (a:=0) 66 61;rw[Int.zero_add]at c9;refine go (fH ds (Z 1) Y++fH ds Y (Z 1)) (hd _<|(aQ<|(bY t7).trans rfl).trans ((aQ<|(bY H).trans rfl).trans (jR<|(eP<|V.trans (by rw[h9];rfl)).trans (gR<|bF (aEP rfl (HK rfl) rfl) (aEP rfl rfl<|HK rfl)<|jT (by rw[WS];omega)))))<|bgL (gd.cut.app gd.cut) (by rw[B6,WS];omega) 66
   .have f9:(k==9)=false:=by simpa using h9
    rw[f9]at V;obtain⟨D,rfl⟩:∃D:Nat,k=(D:Int):=⟨k.toNat,61⟩;have kl:D<xs.length:=61
    let⟨d,ed,bw,E⟩:=bs _<|U9 kl
    have ix:ixF (.c M1.length) (I D) M3=Z (.d d,M3):=by
     show(match M3[M1.length]? with|some (.lst xs)=>_|_=>Y)=_;rw[M3c];show(atI xs (D:Int)).bind _=_;rw[lM (C0 kl),ed];rfl
    have g1:=(gA.app<|US bw E).app gZ;refine go (fH ds Y (Z (a:Int))++[d]++fH ds (Z ((a:Int)+1)) Y) (hd _<|(aQ<|(bY t7).trans rfl).trans ((aQ<|(bY H).trans rfl).trans ((aQ<|(bY V).trans rfl).trans (gR<|bF (bF pre (OJ<|bF rfl rfl ix)<|jT (by show _+1<=1000;omega)) C<|jT (by rw[B6];show _+1+_<=1000;omega)))))<|bgL g1 (by rw[B6,B6];show _+1+_<=9;omega) 66
theorem aAl:∀us:Tv Tie,vV (kvW us)=Z (us.map λt=>(t.key,PyData.int t.a))
 |[]=>rfl
 |t::us=>by
  show(vV<|kvW us).bind _=_;rw[aAl us];rfl
def aIg{k:Type}{xs:Tv k}{o:k}(h:0<xs.length):atI xs (-1)=Z (xs.getD (xs.length-1) o):=by
 unfold atI ixN;rw[B7 66];rw[A8 61,A2,show((-1:Int)+(xs.length:Int)).toNat=xs.length-1 by omega,D9,C0 61];rfl
def aQH:fUn aBO (fC (.int 1)) γ M=Z (I (-1),M):=rfl
def aLs(m:Nat)(d:Ua):(itO<|lsD m d).length=(itO d).length:=by
 cases m with
 |zero=>cases d<;>rfl
 |succ m=>cases d<;>first|rfl|(show(List.map _ _).length=_;rw[A6];rfl)
structure TL2(y:Ua):Prop where
 a:TG y
 b:TG (lsD 3 y)
 c:Tm 3 y
def RV(h:BG 9 40 es):TL2 (.tuple es):=by
 refine⟨⟨aEd (k:=false) (λd hd=>(h.ok d hd).t) h.len,λds e=>by cases e;exact C5 h.tot 66⟩,⟨aEd (k:=true) (λd hd=>?_) (by rw[A6];exact h.len),λds e=>?_⟩,λds hd=>?_⟩
 .let⟨e,o,rfl⟩:=D3.mp hd;exact(h.ok e o).l
 .cases e
  have:((es.map<|lsD 2).flatMap itO).length=(es.flatMap itO).length:=by
   rw[List.flatMap_map,A2k,A2k];congr 1;exact O8 λd _=>aLs 2 d
  rw[this];exact C5 h.tot 66
 .cases hd;exact⟨Nat.lt_of_le_of_lt h.len 66,λx u=>(h.ok x u).m⟩
def tgB(d:Ua):Bool:=thB d&&(match aR d with|some ds=>decide ((ds.flatMap itO).length<=60)|none=>true)
def aJO(h:tgB d=true):TG d:=by
 unfold tgB at h;rw[A9]at h;refine⟨aPn h.1,λds e=>?_⟩;have:=h.2;rw[e]at this;exact C8 this
def aKc:∀d∈sI++xQ++KG,TG d:=λd hd=>by
 have h:(sI++xQ++KG).all tgB=true:=by decide +kernel
 exact aJO<|C3.mp h d hd
def aJj(dk:Dk M c (m+1)):∃d M',qA [.c c] M=Z (.d d,M')/\TG d/\Dk M' c m/\Ex c M M':=by
 have o:=aEb (γ:=[Z (.c c),Y]) (M:=M);have cl:=dk.lt;have h:Dk ((M++[Cell.dk []]).set M.length Cell.dead) c (m+1):=(Dk.app dk).put 61;have t:Ex c M ((M++[Cell.dk []]).set M.length Cell.dead):=(Ex.app _ _ _).put (B3 _);generalize (M++[Cell.dk []]).set M.length Cell.dead=M0 at o h t;let⟨z,M1,po,u,A,_⟩:=Dk.popE h;have B:=pop_at (γ:=[Z (.c c),Z (.d (.list (sI++xQ++KG)))]) (v:=0) rfl h.ty po;let⟨d,C,D⟩:=aMA (L:=sI++xQ++KG) (z:=z) (m:=29) M1 66 rfl;have E:nD z 29=true:=fB 66;refine⟨d,M1,gK rfl ?_,aKc d D,u,t.trans A⟩;show bC _ _ [Z (.c c),Y] M=_;have F:(16:Nat)<=bv:=66
 have G:(0:Nat)<=bv:=66
 have H:aBO (I 1) M=Z (I (-1),M):=rfl;have k:aAT (I 10) (I 30) M=Z (I 1000000000000000000000000000000,M):=rfl;have f0:FC [Z (.c c),Y] M=Z (.d (.dict []),M):=rfl
 have K:bA (fI<|aC (fC .none)<|aC RW<|aC aBs<|aC (fC (.int 0))<|aC (fC (.int 1))<|aC xq5<|aC aLU<|aC (fC (.str ""))<|aC (fC (.str "0"))<|aC (fC (.str "01"))<|aC (bG aN)<|aC (fI aN)<|aC FC<|aC (JZ [((fC (.int 0)),(fC (.int 1)))])<|aC qM<|aC pU aN) (cq 1) [Z (.c c),Y] M=Z (.nx [Z (.c c),Z (.d (.list sI))],M0):=by
  refine(bH ?_).trans rfl;simp only[fI,bG,aC,fC,aN,fUn,fOp,A2,H,k,f0,o,kI,Z5,G,A0g];rfl
 have O:bA (fOp dP (aE 1) qP) (cq 1) [Z (.c c),Z (.d (.list sI))] M0=Z (.nx [Z (.c c),Z (.d (.list (sI++xQ)))],M0):=by
  refine(bH ?_).trans rfl;have q:=LU (xs:=sI) (ys:=xQ) (M:=M0) 66;exact q
 have P:bA (fOp dP (aE 1) qE) (cq 1) [Z (.c c),Z (.d (.list (sI++xQ)))] M0=Z (.nx [Z (.c c),Z (.d (.list (sI++xQ++KG)))],M0):=by
  refine(bH ?_).trans rfl;have q:=LU (xs:=sI++xQ) (ys:=KG) (M:=M0) 66;exact q
 rw[aQ K,aQ O,aQ P];simp only[cF,fOp,aE,fC,A0t,A0c,A2,B,dJ,pI,ifS,E,A0g,C]
noncomputable def noT(n:Int):T3:=[.tuple [],.tuple [.int 0],.tuple [.int 1,.int 0],.tuple [.int 0,.int 0],.tuple [.int 0,.int n],.tuple [.int (-1),.int 0],.tuple [.bool true,.int 2],.none]++[.int 0,.str "01",.tuple [.int 0,.none],.tuple [.tuple [.int 0,.int 1]],.tuple [.int 0,.int 1000000000000000000000000000000]]
def aMh{n:Nat}(k:2<=n)(o:n<=8):∀d∈noT n,nV n d=false/\∀ds,aR d=Z ds->ds.length<=60:=by
 have h:∀m∈[2,3,4,5,6,7,8],(noT ((m:Nat):Int)).all (λd=>!nV ((m:Nat):Int) d&&(match aR d with|some ds=>decide (ds.length<=60)|none=>true))=true:=by decide +kernel
 have hm:n∈[2,3,4,5,6,7,8]:=by
  simp only[C1];omega
 intro d hd;have:=C3.mp (h n hm) d hd;rw[A9]at this;refine⟨by simpa using this.1,λds e=>?_⟩;have t:=this.2;rw[e]at t;exact C8 t
def aBQ(u:2<=n)(A:n<=8)(dk:Dk M c (m+1)):∃d M',iR [.c c,I n] M=Z (.d d,M')/\(nV n d=false/\∀ds,aR d=Z ds->ds.length<=60)/\Dk M' c m/\Ex c M M':=by
 let⟨z,M1,B,h,k,_⟩:=Dk.popE dk;let⟨d,o,t⟩:=DE (ds:=noT n) (m:=13) 66 rfl;refine⟨d,M1,gK rfl ?_,aMh u A d t,h,k⟩;refine(aQ rfl).trans ?_;refine(aQ rfl).trans ?_;exact gR<|bF rfl (wG (pop_at rfl dk.ty B) 66)<|OE rfl o
def gM.put{j:Nat}{n:Int}{x:Cell}(h:gM M w n ws)(ne:j≠w):gM (M.set j x) w n ws:=⟨let⟨fs,a,b⟩:=h.ob;⟨fs,by rw[F6 ne];exact a,b⟩⟩
abbrev GT(s:CD)(c:Nat)(kk:Te)(n:Int)(g4 g5 g6 g7 g8 g9 g10:Te):Ga:=[Z s,Z (.c c),kk,Z<|I n,g4,g5,g6,g7,g8,g9,g10]
def RY{h:Type}(xs:Tv h)(x:h):atI (xs++[x]) (-1)=Z x:=by
 rw[aIg (by rw[B6];show 0<xs.length+1;omega),B6,D9];show Z (((xs++[x])[xs.length+1-1]?).getD x)=_;rw[Nat.add_sub_cancel,Z3<|B3 _,A1u];rfl
structure TL(M:Sto)(t q:Nat):Prop where
 ex:∃ds:T3,M[t]?=Z (.lst (ds.map .d))/\(∀d∈ds,TG d)/\ds.length=q/\∃y,atI (ds.map CD.d) (-1)=Z (.d y)/\TL2 y
def TL.to(h:TL M t q)(e:Ex c M M')(ne:t≠c):TL M' t q:=⟨let⟨ds,a,b⟩:=h.ex;⟨ds,e.to a ne,b⟩⟩
def aJs(h:n<=8)(o:ps.length<=8)(nm:Nms n ps vs):BG 8 8 (gsD false vs ps.length):=by
 refine⟨λd hd=>?_,by unfold gsD;rw[A6,O0];exact o,?_⟩
 .let⟨k,_,rfl⟩:=D3.mp hd;have rs:(grp vs (k:Int)).Pairwise (·<·):=(RL _).filter _;have bd:∀i∈grp vs (k:Int),0<=i/\i<n:=λi hi=>by have:=(grp_in.mp hi).1;rw[nm.len]at this;exact this
  exact VM (DL (C5 (NH rs bd) 61) λi hi=>by have:=bd i hi;omega)
 .have r:=aCE false vs ps.length;rw[DM r,A6,<- (cN _).length_eq,ZI false nm];unfold upZ;rw[A6,O0];exact h
def BG.rev(h:BG k t es):BG k t es.reverse:=⟨λd hd=>h.ok d<|List.mem_reverse.mp hd,by rw[Y2];exact h.len,by
 have:(es.reverse.flatMap itO).length=(es.flatMap itO).length:=by
  rw[A2k,A2k,List.map_reverse];exact List.sum_reverse _
 rw[this];exact h.tot⟩
def all_true{ds:T3}(h:∀d∈ds,CD.d d=B true):wR [.d (.list ds)] M=Z (B true,M):=by
 have e:ds=ds.map λ_=>PyData.bool true:=by
  conv=>lhs;rw[<- List.map_id ds]
  exact O8 λd hd=>by have:=h d hd;injection this
 rw[e];have:=all_map' (f:=λ_:Ua=>true) (ds:=ds) (M:=M);rw[this,show ds.all (λ_=>true)=true from C3.mpr λ_ _=>rfl]
def aBo{s:CD}(C:2<=n)(A:n<=8)(o:Pls n ps)(nm:Nms n ps vs)(dk:Dk M c (m+1))(h:TL M t q)(O:q<=100)(ne:t≠c):∃M',NT (GT s c kk n g4 g5 g6 (Z (.d (.tuple (gsD false vs ps.length)))) (Z (.c t)) g9 g10) M=Z (.nx (GT s c kk n g4 g5 g6 (Z (.d (.tuple (gsD false vs ps.length)))) (Z (.c t)) g9 g10),M')/\TL M' t (q+1)/\Dk M' c m/\(∀w,w<M.length->w≠c->w≠t->M'[w]?=M[w]?)/\M.length<=M'.length:=by
 let⟨es,M1,D,B,u,k⟩:=aMm C A o.two o.le nm.len (aJs A o.le nm) dk;let⟨ds,a,b,l,y,P⟩:=(h.to k ne).ex;have E:=(B9.mp a).1;let⟨F,G,_⟩:=h.ex;refine⟨_,yG<|xY rfl (aDD G) (aF (aV (aF rfl<|aF rfl<|aF rfl aP) D) aP)<|HI a (by rw[A6];omega),⟨ds++[.tuple es],by rw[F0 E,E3];rfl,λd hd=>?_,by rw[B6,E9,l],.tuple es,by rw[E3];exact RY ..,RV B⟩,u.put ne,λw H I K=>by rw[F6 (Y6 K)];exact k.at_ w H I,by rw[Z6];exact k.len⟩;obtain hd|hd:=D5.mp hd
 .exact b d hd
 .rw[B4.mp hd];exact(RV B).a
def pick{k:Nat}{p:T3}{N:Sto}(h:aE 2 γ N=Z (.d (.tuple p),N))(o:aE 3 γ N=Z (I k,N)):fOp ixF (fI<|aC (aE 2)<|aC (aM uQ xq1) aN) (fOp dJ (aE 3)<|fC (.int 2)) γ N=Z (.d (Rw (decide (k % 2=1)) p),N):=by
 have t:fI (aC (aE 2)<|aC (aM uQ xq1) aN) γ N=Z (.d (.list [.tuple p,.list p]),N):=by
  unfold fI;rw[aF h (aF (aV (aF h aP) rfl) aP),A2];show(if 2<=bv then Z (CD.d (.list [.tuple p,.list p]),N)else Y)=_;rw[A8 (sz 66)]
 refine bF t (wG o 66) ?_;obtain⟨J,u⟩:∃J:Int,J=(k:Int):=⟨_,rfl⟩;rw[<- u];by_cases q:k % 2=1
 .rw[B8 q,show J % 2=1 by omega];exact OE rfl<|aQN ..
 .rw[D0 q,show J % 2=0 by omega];exact OE rfl<|aQR ..
abbrev GV(s:CD)(c k:Nat)(n:Int)(us:Tv Tie)(w:Nat)(ps vs:T6)(g8 g9 g10:Te):Ga:=GT s c (Z<|I k) n (Z<|fzW us) (Z (.c w)) (Z (.d (.tuple (ps.map .int)))) (Z (.d (.tuple (gsD false vs ps.length)))) g8 g9 g10
abbrev tD(gs:T3)(x:Ua)(n:Nat):T3:=[.tuple gs,lsD 3 (.tuple gs),.tuple gs.reverse,x,.tuple [],.tuple [wyD (upZ n)]]
def aEo{k:Nat}{s:CD}{C u:Te}(dk:Dk M c (m+110)):∃h3 h4 h5 h6 h7 h8 h9 am M',aAk [Z s,Z (.c c),Z<|I k,g3,g4,g5,g6,C,u,g9,g10] M=Z (.nx [Z s,Z (.c c),Z<|I k,h3,h4,h5,h6,h7,h8,h9,am],M')/\Dk M' c m:=by
 let⟨z,M1,p1,ao,br,_⟩:=Dk.popE (m:=m+109) dk;have z0:=Y7 z (show(7:Int)≠0 by decide);have z1:=S7 z (show(0:Int)<7 by decide);obtain⟨n,hn,n2,H⟩:∃n:Nat,(2:Int)+z % 7=n/\2<=n/\n<=8:=⟨(2+z % 7).toNat,61,61,61⟩
 have s1:bA aOq (cq 3) [Z s,Z (.c c),Z<|I k,g3,g4,g5,g6,C,u,g9,g10] M=Z (.nx (GT s c (Z<|I k) n g4 g5 g6 C u g9 g10),M1):=by
  rw[<- hn];exact bH (i:=3)<|bF rfl (wG (pop_at rfl dk.ty p1) 66) vU
 let⟨d,M2,e2,dt,a1,bt,dc,dl⟩:=aOT (m:=m+38) n2 H ao;have s2:bA (aM qG TB) (cq 4) (GT s c (Z<|I k) n g4 g5 g6 C u g9 g10) M1=Z (.nx (GT s c (Z<|I k) n (Z (.c d)) g5 g6 C u g9 g10),M2):=bH (i:=4)<|aV (aF rfl<|aF rfl aP) e2;let⟨us,ud,ok,ul⟩:=dt;have d2:=(B9.mp ud).1;let⟨K,ws,e3,aq,pm⟩:=aMS (γ:=GT s c (Z<|I k) n (Z (.c d)) g5 g6 C u g9 g10) 61 61 ud ok ul rfl rfl;have tw:Tw n us ws:=⟨pm,ok,ul⟩;have ar:(M2++K)[d]?=Z (.dt (kvW us)):=by rw[Y0 d2];exact ud
 have s3:RX 4 (bA (KL "Web" iM aNn)<|cq 5) (GT s c (Z<|I k) n (Z (.c d)) g5 g6 C u g9 g10) M2=Z (.nx (GT s c (Z<|I k) n (Z<|fzW us) (Z (.c M2.length)) g6 C u g9 g10),(M2++K).set d .dead):=by
  unfold RX;rw[bH (i:=5) e3,A2]
  have f3:XB 4 (GT s c (Z<|I k) n (Z (.c d)) (Z (.c M2.length)) g6 C u g9 g10) (M2++K)=Z (GT s c (Z<|I k) n (Z<|fzW us) (Z (.c M2.length)) g6 C u g9 g10,(M2++K).set d .dead):=by
   show(match (M2++K)[d]? with|some (.dt kvs)=>(vV kvs).bind _|_=>Y)=_;rw[ar];show(vV<|kvW us).bind _=_;rw[aAl];rfl
  show(XB 4 (GT s c (Z<|I k) n (Z (.c d)) (Z (.c M2.length)) g6 C u g9 g10) (M2++K)).bind _=_;rw[f3,A2]
 have wk:gM ((M2++K).set d .dead) M2.length n ws:=aq.put 61;have cw:c<M2.length:=a1.lt;have a2:Dk ((M2++K).set d .dead) c (m+38):=(a1.app (L:=K)).put dc;generalize (M2++K).set d .dead=M3 at s3 wk a2;generalize M2.length=w at s3 wk cw;have wc:w≠c:=61
 let⟨ps,M4,e4,pl,au,av⟩:=aHS (m:=m+28) n2 H a2;have aw:=wk.to av wc;have s4:bA (aM nM TB) (cq 6) (GT s c (Z<|I k) n (Z<|fzW us) (Z (.c w)) g6 C u g9 g10) M3=Z (.nx (GT s c (Z<|I k) n (Z<|fzW us) (Z (.c w)) (Z (.d (.tuple (ps.map .int)))) C u g9 g10),M4):=bH (i:=6)<|aV (aF rfl<|aF rfl aP) e4;let⟨f,vs,M5,e5,li,nm,ax,ay,_⟩:=aAW (m:=m+20+(8-n)) H pl (by rw[show m+20+(8-n)+n=m+28 by omega];exact au);have az:=aw.to ay wc;let⟨O,e6,l6,k6⟩:=RP (q:=ps.length) li (by rw[nm.len];exact H) pl.le;have b0:Ex c M5 O:=⟨l6,λi h _=>k6 i h⟩;have a3:=az.to b0 wc
 have b1:Dk O c (m+20):=by
  let⟨xs,a,b,r⟩:=ax.le (n:=m+20) 61;exact⟨xs,by unfold Li;rw[k6 c a.lt];exact a,b,r⟩
 have lp:∀N,pO [.d (.tuple (ps.map .int))] N=Z (I (ps.length:Nat),N):=λN=>by
  have:=wH (k:=false) (ds:=ps.map .int) (M:=N);rw[A6]at this;exact this
 have s5:bA aQn (cq 7) (GT s c (Z<|I k) n (Z<|fzW us) (Z (.c w)) (Z (.d (.tuple (ps.map .int)))) C u g9 g10) M4=Z (.nx (GV s c k n us w ps vs u g9 g10),O):=
  bH (i:=7) (aV (aF (aV (aF rfl<|aF rfl<|aF rfl aP) e5)<|aF (aV (aF rfl aP)<|lp M5) aP) e6)
 have bg:=aJs H pl.le nm;have P:=RV<|bg.le (k':=9) (t':=40) 66 66
 have t6:aPg (GV s c k n us w ps vs u g9 g10) O=Z (false,O):=by
  have ea:=DC (kp:=false) H a3 pl P.a;rw[show apD n ps (.tuple (gsD false vs ps.length))=true from aQs false false nm pl]at ea;exact nP<|dN<|OT (aF rfl<|aF rfl<|aF rfl aP) ea
 let⟨x1,Q,e7,h7,b2,b3⟩:=aJj (m:=m+19) b1;have a4:=a3.to b3 wc;have r3:OR (aE 7) (iL xq5) (GV s c k n us w ps vs u g9 g10) O=Z (.d (.tuple (gsD false vs ps.length).reverse),O):=XT rfl;have r6:bG (aC (wQ xq3) aN) (GV s c k n us w ps vs u g9 g10) Q=Z (.d (.tuple [wyD (upZ n)]),Q):=OJ<|XM H rfl
 have s7:bA aOQ (cq 8) (GV s c k n us w ps vs u g9 g10) O=Z (.nx (GV s c k n us w ps vs (Z (.c Q.length)) g9 g10),Q++[.lst ((tD (gsD false vs ps.length) x1 n).map .d)]):=
  bH (i:=8) (NF (aF rfl<|aF (aV (aF rfl aP)<|QH 3 _ O P.c)<|aF r3<|aF (aV (aF rfl aP) e7)<|aF (x:=.d (.tuple [])) rfl<|aF r6 aP) (show 6<=900 by decide))
 have a5:Es 10 ((upZ n).map .int):=DL (by unfold upZ;rw[A6,O0];omega) λi hi=>by have:=XQ hi;omega
 have D:TL2 (.tuple [wyD (upZ n)]):=RV<|(US (VM<|a5.le 66) a5.len).le 66 66
 have T7:TL (Q++[.lst ((tD (gsD false vs ps.length) x1 n).map .d)]) Q.length 6:=by
  refine⟨_,iZ,λx hx=>?_,rfl,.tuple [wyD (upZ n)],RY [.d (.tuple (gsD false vs ps.length)),.d (lsD 3 (.tuple (gsD false vs ps.length))),.d (.tuple (gsD false vs ps.length).reverse),.d x1,.d (.tuple [])] _,D⟩;simp only[tD,C1,Y9,A2e]at hx;obtain rfl|rfl|rfl|rfl|rfl|rfl:=hx
  .exact P.a
  .exact P.b
  .exact(RV<|bg.rev.le 66 66).a
  .exact h7
  .exact aJO (by decide +kernel)
  .exact D.a
 have a6:=a4.app (L:=[.lst ((tD (gsD false vs ps.length) x1 n).map .d)]);have a7:Dk (Q++[.lst ((tD (gsD false vs ps.length) x1 n).map .d)]) c (m+19):=b2.app;have b4:=a4.lt;generalize Q++[Cell.lst ((tD (gsD false vs ps.length) x1 n).map .d)]=M8 at s7 T7 a6 a7;generalize Q.length=t at s7 T7 b4
 let⟨γ',A,e9,⟨o,rfl⟩,T9,b5,b8⟩:=uZ (g:=cq 9) (b:=NT) (n:=6) (Inv:=λq γ N=>(∃g,γ=GV s c k n us w ps vs (Z (.c t)) g g10)/\TL N t (6+q)/\Dk N c (m+13+(6-q))/\gM N w n ws) (by
  rintro q hq γ N ⟨⟨g,rfl⟩,T,a0,F⟩;let⟨N',e,T',ba,kp,ln⟩:=aBo (s:=s) (m:=m+13+(6-(q+1))) (kk:=Z (I k)) (g4:=Z (fzW us)) (g5:=Z (.c w)) (g6:=Z (.d (.tuple (ps.map .int)))) (g9:=Z (I (q:Nat))) (g10:=g10) n2 H pl nm (by rw[show m+13+(6-(q+1))+1=m+13+(6-q)by omega];exact a0) T 61 61;refine⟨_,_,N',rfl,e,⟨_,rfl⟩,T',ba,⟨?_⟩⟩;let⟨fs,a,b⟩:=F.ob;exact⟨fs,by rw[kp w F.lt wc 61];exact a,b⟩) 6 0 (GV s c k n us w ps vs (Z (.c t)) g9 g10) M8 61 ⟨⟨_,rfl⟩,T7,a7,a6⟩
 have it:=rn1 (fa:=aC (fC (.int 6)) aN) (γ:=GV s c k n us w ps vs (Z (.c t)) g9 g10) (M:=M8) (J:=6) rfl 61 61;let⟨es,a9,b9,l9,y,bb,a8⟩:=T9.ex;have bu:es.length=12:=l9
 have ix:fOp ixF (aE 8) xq5 (GV s c k n us w ps vs (Z (.c t)) o g10) A=Z (.d y,A):=bF rfl aQH (by
  show(match A[t]? with|some (.lst xs)=>_|_=>Y)=_;rw[a9];show(atI (es.map CD.d) (-1)).bind _=_;rw[bb];rfl)
 have bc:=(B9.mp a9).1;have ap:mG aMc (GV s c k n us w ps vs (Z (.c t)) o g10) A=Z (.nx (GV s c k n us w ps vs (Z (.c t)) o g10),A.set t (.lst (es.map .d++[.d (lsD 3 y)]))):=yG (x:=.d .none)<|xY (x:=.c t) rfl (aDD a9) (aF (aV (aF ix aP)<|QH 3 y A a8.c) aP)<|HI a9 (by rw[A6];omega)
 have aa:aEE 8 (mG aMc) (GV s c k n us w ps vs (Z (.c t)) o g10) A=Z (.nx (GV s c k n us w ps vs (Z (.d (.list (es++[lsD 3 y])))) o g10),(A.set t (.lst (es.map .d++[.d (lsD 3 y)]))).set t .dead):=by
  unfold aEE;rw[ap,A2]
  have f:aGv 8 (GV s c k n us w ps vs (Z (.c t)) o g10) (A.set t (.lst (es.map .d++[.d (lsD 3 y)])))=Z (GV s c k n us w ps vs (Z (.d (.list (es++[lsD 3 y])))) o g10,(A.set t (.lst (es.map .d++[.d (lsD 3 y)]))).set t .dead):=by
   show(match (A.set t (.lst (es.map .d++[.d (lsD 3 y)])))[t]? with|some (.lst xs)=>(kI xs).bind _|_=>Y)=_;rw[F0 bc];show(kI (es.map CD.d++[lsD 3 y].map CD.d)).bind _=_;rw[<- E3,lU];rfl
  show(aGv 8 (GV s c k n us w ps vs (Z (.c t)) o g10)<|A.set t (.lst (es.map .d++[.d (lsD 3 y)]))).bind _=_;rw[f,A2]
 have R:gM ((A.set t (.lst (es.map .d++[.d (lsD 3 y)]))).set t .dead) w n ws:=(b8.put 61).put 61;have U:Dk ((A.set t (.lst (es.map .d++[.d (lsD 3 y)]))).set t .dead) c (m+13):=((b5.le 61).put 61).put 61;generalize (A.set t (.lst (es.map .d++[.d (lsD 3 y)]))).set t .dead=ab at aa R U
 have bf:∀x∈es++[lsD 3 y],TG x:=λx hx=>by
  obtain hx|hx:=D5.mp hx
  .exact b9 x hx
  .rw[B4.mp hx];exact a8.b
 let⟨bs,ac,c0,hb,_,γ1,⟨_,ae,af⟩⟩:=DG (cap:=[Z 5,Z 4,Z 6,Z 2,Y]) (f:=cQ<|aE 8) (g:=cq 4) (c:=cK) (e:=aM iS aOA) (γ:=GV s c k n us w ps vs (Z (.d (.list (es++[lsD 3 y])))) o g10) (M:=ab) (X:=λx=>∃d,x=.d d/\TG d) (E:=λy=>y=B true)
  (Inv:=λ_ γ N=>(∃g,γ=[Z (.c w),Z<|fzW us,Z (.d (.tuple (ps.map .int))),Z<|I k,g])/\gM N w n ws/\Dk N c (m+13)) (CC rfl rfl) (by rw[A6,B6,E9];omega) (λx hx=>by
   let⟨d,hd,rfl⟩:=D3.mp hx;exact⟨d,rfl,bf d hd⟩) (λy hy=>⟨_,hy⟩) (by
   rintro j x γ N ⟨d,rfl,td⟩ ⟨⟨g,rfl⟩,F,a0⟩;refine⟨[Z (.c w),Z (fzW us),Z (.d (.tuple (ps.map .int))),Z (I k),Z (.d d)],rfl,true,N,rfl,(λh=>nomatch h),λ_=>?_⟩;let⟨L,er⟩:=aJa (kp:=decide (k % 2=1)) H F tw pl td;exact⟨_,N++L,aV (aF rfl (aF rfl (aF (pick rfl rfl) (aF rfl aP)))) er,rfl,⟨_,rfl⟩,F.app,a0.app⟩) ⟨⟨_,rfl⟩,R,U⟩
 have bh:(gF<|gB<|aM wR<|aC NY aN) (GV s c k n us w ps vs (Z (.d (.list (es++[lsD 3 y])))) o g10) ab=Z (false,ac):=by
  unfold gF;rw[dN (aV (aF (f:=NY) c0 aP)<|all_true hb)];rfl
 let⟨p,G,bi,⟨no,V⟩,ag,ah⟩:=aBQ (m:=m+12) n2 H af;have W:=ae.to ah wc;have bj:bA (aM iR TB) (cq 10) (GV s c k n us w ps vs (Z (.d (.list (es++[lsD 3 y])))) o g10) ac=Z (.nx (GV s c k n us w ps vs (Z (.d (.list (es++[lsD 3 y])))) o<|Z (.d p)),G):=bH (i:=10)<|aV (aF rfl<|aF rfl aP) bi;let⟨L1,r1⟩:=IV (x:=.tuple (gsD false vs ps.length)) W V no;let⟨x3,bn,bo,_,ai,aj⟩:=aJj (M:=G++L1) (m:=m+11) ag.app;have ak:=(W.app (L:=L1)).to aj wc;let⟨L2,r2⟩:=IV (x:=x3) ak V no
 have bp:aOH (GV s c k n us w ps vs (Z (.d (.list (es++[lsD 3 y])))) o<|Z (.d p)) G=Z (false,bn++L2):=by
  have bq:gF (gB<|aM fM<|aC (aE 5)<|aC (aE 10)<|aC (aE 7) aN) (GV s c k n us w ps vs (Z (.d (.list (es++[lsD 3 y])))) o<|Z (.d p)) G=Z (false,G++L1):=by
   unfold gF;rw[dN (aV (aF rfl<|aF rfl<|aF rfl aP) r1)];rfl
  unfold aOH;rw[aFN bq];unfold gF;rw[dN (aV (aF rfl<|aF rfl<|aF (aV (aF rfl aP) bo) aP) r2)];rfl
 exact⟨_,_,_,_,_,_,_,_,_,(aQ s1).trans ((aQ s2).trans ((aQ s3).trans ((aQ s4).trans ((aQ s5).trans ((aQ<|(bY t6).trans rfl).trans ((aQ s7).trans ((aQ<|mU it e9).trans ((aQ aa).trans ((aQ<|(bY bh).trans rfl).trans ((aQ bj).trans ((bY bp).trans rfl))))))))))),(ai.app (L:=L2)).le 61⟩
def main(ns:T6)(E:ns.length<=63):∃M',F_law [.d (.list (ns.map .int))] []=Z (.d (.bool true),M'):=by
 let⟨c,M1,B,h⟩:=aKH ns;have s1:bA aNY (cq 1) [Z (.d (.list (ns.map .int))),Y,Y,Y,Y,Y,Y,Y,Y,Y,Y] []=Z (.nx [Z (.d (.list (ns.map .int))),Z (.c c),Y,Y,Y,Y,Y,Y,Y,Y,Y],M1):=bH<|aV (aF rfl<|aF rfl aP) B
 let⟨γ',M2,C,⟨o,g3,g4,g5,g6,t,u,g9,g10,rfl⟩,_⟩:=uZ (g:=cq 2) (Inv:=λk γ M=>(∃o g3 g4 g5 g6 t u g9 g10,γ=[Z (.d (.list (ns.map .int))),Z (.c c),o,g3,g4,g5,g6,t,u,g9,g10])/\Dk M c (110*(4-k))) (by
  rintro k F γ M ⟨⟨o,g3,g4,g5,g6,t,u,g9,g10,rfl⟩,dk⟩;let⟨G,H,I,K,O,P,Q,D,M',e,A⟩:=aEo (by rw[show 110*(4-(k+1))+110=110*(4-k)by omega];exact dk);exact⟨_,_,M',rfl,e,⟨_,_,_,_,_,_,_,_,_,rfl⟩,A⟩) 4 0 [Z (.d (.list (ns.map .int))),Z (.c c),Y,Y,Y,Y,Y,Y,Y,Y,Y] M1 rfl ⟨⟨_,_,_,_,_,_,_,_,_,rfl⟩,h.le 66⟩
 exact⟨M2,gK rfl<|(aQ s1).trans ((aQ<|mU (aEa rfl<|JT 66 66) C).trans rfl)⟩
end Q60
end
end
open PySem PySem.W PyProof.Rows
set_option maxRecDepth 100000 in
set_option maxHeartbeats 0 in
theorem PySem.Challenge.cw_cutstree_k60_groups_told_holds : PySem.Challenge.rw_cutstree_k60_groups_told.Holds := by
 refine Q60.k_top ?_
 k_fill
 refine L2.law_walk (l:=PySem.Challenge.rw_cutstree_k60_groups_told) (F:=Q60.F_law) (k:=10) (p:="_law_script") (by decide +kernel) rfl rfl ⟨λ_=>rfl,by decide,by decide,rfl⟩ (λw h a=>PySem.W.kIn_of a) ?T Q60.main (λ_=>by kernel_rfl)
 case T=>
  intro w mg h KX G;refine Q60.fn_law (K:=_) (mg:=mg) ?TT
  refine' Q60.txt_mk KX G ?v0 ?v1 ?v2 ?v3 ?v4 ?v5 ?v6 ?v7 ?v8 ?v9 ?v10 ?v11 ?v12 ?v13 ?v14 ?v15 ?v16 ?v17 ?v18 ?v19 ?v20 ?v21 ?v22 ?v23 ?v24 ?v25 ?v26 ?v27 ?v28 ?v29 ?v30 ?v31 ?v32 ?v33 ?v34 ?v35 ?v36 ?v37 ?v38 ?v39 ?v40 ?v41 ?v42 ?v43 ?v44 ?v45 ?v46 ?v47 ?v48 ?v49 ?v50 ?v51 ?v52 ?v53 ?v54 ?v55 ?v56 ?v57 ?v58 ?v59 ?v60 ?v61 ?v62 ?v63 ?v64 ?v65 ?v66 ?v67 ?v68 ?v69 ?v70 ?v71 ?v72 ?v73 ?v74 ?v75 ?v76 ?v77 ?v78 ?v79 ?v80 ?v81 ?v82 ?v83 ?v84 ?v85 ?v86 ?v87 ?v88 ?v89 ?v90 ?v91 ?v92 ?v93 ?v94 ?v95 ?v96 ?v97 ?v98 ?v99 ?v100 ?v101 ?v102 ?v103 ?v104 ?v105 ?v106 ?v107 ?v108 ?v109 ?v110
  (case v0|v1|v2|v3|v4|v5|v6|v7|v8|v9|v10|v11|v12|v13|v14|v15|v16|v17|v18|v19|v23|v24|v25|v27|v29|v32|v33|v34|v36|v37|v38|v39|v40|v41|v42|v44|v45|v46|v47|v50|v57|v58|v59|v60|v61|v64=>k_is)
  (case v20|v21|v22|v26|v28|v30|v31|v35|v43|v48|v49|v51|v52|v53|v54|v55|v56|v62|v63=>kernel_rfl)
  (case v65|v66|v67|v68|v69|v70|v71|v72|v73|v74|v75|v76|v77|v78|v79|v80|v81|v82|v83|v84|v85|v86|v87|v88|v89|v90|v91|v92|v93|v94|v95|v96|v97|v98|v99|v100|v101|v102|v103|v104|v105|v106|v107|v108|v109|v110=>exact L2.def_mk KX G (by k_is) (by k_is) (by k_is) (by k_is))