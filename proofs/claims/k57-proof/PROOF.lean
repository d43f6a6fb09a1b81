import PyProof.Rows.All
import Open.Boot
import OpenK.KLine
import OpenK.KWalk
import OpenK.KMore
import OpenK.KOwn
import OpenK.KRaise
import KE.KSortTup
import PyProof.EqAt
import PyProof.EqKinds
import PyProof.TupleCall
import PyProof.ReprLen
import KE.KIsAll
import PyProof.ExcArgsOwn
import PyProof.NsDelKeeps
import KE.KTryMore
import PyProof.InstStoreFacts
import PyProof.ExcInit
import PyProof.ExcClass2
import PyProof.Rows.ListMul
import PyProof.Draws
import PyProof.EnumMake
import PyProof.Rows.EnumRows
import KE.KItemsList
import PyProof.DictCompW
import PyProof.ListRange
import PyProof.ZipIter
import PyProof.AttrMissHeap
import KE.KDictOf
import KE.KUnpack
import PyProof.SetKind
import PyProof.Rows.SetFrom
import KE.KIntText
import KE.KMinKey
import KE.KLam
import PySem.Challenge.RW_cutstree_k57_ways_told
set_option Elab.async false
set_option compiler.extract_closed false
set_option bootstrap.genMatcherCode false
section
variable{a b c d:Sort _}{G:Prop}
section
variable{P Q R S T:Prop}
def eX20(h:P/\Q)(k:P->Q->G):G:=let⟨p,q⟩:=h;k p q
def eX30(h:P/\Q/\R)(k:P->Q->R->G):G:=let⟨p,q,r⟩:=h;k p q r
def eX40(h:P/\Q/\R/\S)(k:P->Q->R->S->G):G:=let⟨p,q,r,s⟩:=h;k p q r s
def eX50(h:P/\Q/\R/\S/\T)(k:P->Q->R->S->T->G):G:=let⟨p,q,r,s,t⟩:=h;k p q r s t
end
section
variable{P Q R S:a->Prop}
def eX21(h:∃x,P x)(k:∀x,P x->G):G:=let⟨x,p⟩:=h;k x p
def eX31(h:∃x,P x/\Q x)(k:∀x,P x->Q x->G):G:=let⟨x,p,q⟩:=h;k x p q
def eX41(h:∃x,P x/\Q x/\R x)(k:∀x,P x->Q x->R x->G):G:=let⟨x,p,q,r⟩:=h;k x p q r
def eX51(h:∃x,P x/\Q x/\R x/\S x)(k:∀x,P x->Q x->R x->S x->G):G:=let⟨x,p,q,r,s⟩:=h;k x p q r s
end
section
variable{P Q R:a->b->Prop}
def eX32(h:∃x y,P x y)(k:∀x y,P x y->G):G:=let⟨x,y,p⟩:=h;k x y p
def eX42(h:∃x y,P x y/\Q x y)(k:∀x y,P x y->Q x y->G):G:=let⟨x,y,p,q⟩:=h;k x y p q
def eX52(h:∃x y,P x y/\Q x y/\R x y)(k:∀x y,P x y->Q x y->R x y->G):G:=let⟨x,y,p,q,r⟩:=h;k x y p q r
end
section
variable{P Q:a->b->c->Prop}
def eX43(h:∃x y z,P x y z)(k:∀x y z,P x y z->G):G:=let⟨x,y,z,p⟩:=h;k x y z p
def eX53(h:∃x y z,P x y z/\Q x y z)(k:∀x y z,P x y z->Q x y z->G):G:=let⟨x,y,z,p,q⟩:=h;k x y z p q
end
section
variable{P:a->b->c->d->Prop}
def eX54(h:∃x y z u,P x y z u)(k:∀x y z u,P x y z u->G):G:=let⟨x,y,z,u,p⟩:=h;k x y z u p
end
end
open Lean Parser.Tactic in
local macro_rules|`(tactic|obtain⟨$s,*⟩:=$e)=>do
 let s:=s.getElems
 let m:=min s.size 5
 let mut b:Array (TSyntax `term):=#[]
 let mut f<-`(tactic|fail)
 let mut g<-`(tactic|skip)
 for i in [0:m] do
  let p:=s[i]!
  let z:=mkIdent (<-MonadQuotation.addMacroScope (.mkSimple s!"z{i}"))
  let q:=p.raw[0][0][0]
  if m<s.size&&i==4 then
   b:=b.push z
   let r:Array (TSyntax ``rcasesPatLo):=s[i:]
   g<-`(tactic|(($g:tactic)<;>(obtain⟨$[$r],*⟩:=$z:ident)))
  else if q.isOfKind ``rcasesPat.one&&q[0].getId != `rfl then b:=b.push ⟨q[0]⟩
  else if q.isOfKind ``rcasesPat.ignore then b:=b.push (<-`(_))
  else
   b:=b.push z
   g<-`(tactic|(($g:tactic)<;>(rcases $z:ident with $p:rcasesPatLo)))
 let h:=mkIdent (<-MonadQuotation.addMacroScope `h)
 let h:=if e.raw.isIdent then ⟨e.raw⟩ else h
 for k in [0:m] do
  let E:=mkIdent (.mkSimple s!"eX{m}{k}")
  f<-`(tactic|first|($f:tactic)|(refine $E:ident $h ?_))
 let d<-if e.raw.isIdent then `(tactic|skip) else `(tactic|have $h:ident:=$e)
 `(tactic|first|($d:tactic;$f:tactic;(try clear $h);intro $b*;$g:tactic)|(rcases $e:term with⟨$[$s],*⟩))
local macro_rules|`(tactic|cases $h:ident)=>`(tactic|first|subst $h:ident|(injection $h:ident with a b c;cases a;cases b;cases c)|(injection $h:ident with a b;cases a;cases b)|(injection $h:ident with a;cases a)|(injection $h:ident;done)|cases ($h))
section
set_option maxRecDepth 100000
set_option maxHeartbeats 0
namespace Q57
open PySem PySem.W PyProof.Rows
noncomputable def qv:Program:={ PySem.Challenge.rw_cutstree_k57_ways_told.prog with main:={ PySem.Challenge.rw_cutstree_k57_ways_told.prog.main with body:=((((((PySem.Challenge.rw_cutstree_k57_ways_told.prog.main.body.eraseIdx 27).eraseIdx 24).eraseIdx 19).eraseIdx 12).eraseIdx 4).eraseIdx 0) } }
noncomputable abbrev ran(w:World)(os:OsState):Option Shared:=topFrom treeTable PySem.Challenge.rw_cutstree_k57_ways_told.prog w 6100 { heap:=boot_heap w.params,gens:=#[],drawn:=boot_drawn,toks:=boot_toks,os:=os }
noncomputable abbrev xt(s:Shared):Bool:=xlAt qv [] s&&recOk (RowW.records (OpenRow.toRowW PySem.Challenge.rw_cutstree_k57_ways_told.row)) s
theorem two{c d:Type}{o:Option Shared}{f:Shared->c}{g:Shared->d}{a:c}{b:d}(e:o.map f=some a)(h:o.map g=some b):o.map (fun s=>(f s,g s))=some (a,b):=by
 cases o with
 |none=>cases e
 |some s=>cases e;cases h;rfl
theorem pk{p q γ r s t u v ι:Type}{a j:p}{b k:q}{c c':γ}{d d':r}{e l:s}{f m:t}{g n:u}{h h':v}{i o:ι}(w:a=j)(x:b=k)(y:c=c')(z:(d,e)=(d',l))(A:(f,g)=(m,n))(B:(h,i)=(h',o)):(a,b,c,d,e,f,g,h,i)=(j,k,c',d',l,m,n,h',o):=by
 cases w;cases x;cases y;cases z;cases A;cases B;rfl
theorem t1(w:World)(os:OsState):(ran w os).map (fun s=>seen (List.map (fun x=>x.name) (recsOf qv)) (ownsOf qv) [] { heap:=s.heap,drawn:=s.drawn,toks:=s.toks,os:=s.os })=some (expectedOf qv):=by kernel_rfl
theorem t2(w:World)(os:OsState):(ran w os).map (fun s=>s.heap.bltView)=some bltViewBooted:=by kernel_rfl
theorem t3(w:World)(os:OsState):(ran w os).map (fun s=>s.heap.keysOk (looseW qv []) (List.map (fun x=>x.name) (recsOf qv)) (List.map (fun x=>x.fst) (litsOf qv)) (List.map (fun x=>x.name) (clssOf qv (looseW qv [])))&&s.heap.accountedOkI (importedModules PySem.Challenge.rw_cutstree_k57_ways_told.prog.main.body)&&s.heap.isNs mainGlobals&&s.heap.isNs builtinsNs&&tablesOk qv s.heap&&xt s&&if true=true then s.gens.size==0 else !leftWithCleanup s.gens)=some true:=by kernel_rfl
theorem t4(w:World)(os:OsState):(ran w os).map (fun s=>(tabsOk qv s,pinSeenD qv (drecsOf qv) s))=some (true,pinGoodD (drecsOf qv)):=by kernel_rfl
theorem t5(w:World)(os:OsState):(ran w os).map (fun s=>(plainSeenE qv (looseW qv []) s,plainSeenD qv [] s))=some (plainGoodE qv (looseW qv []),plainGoodD qv []):=by kernel_rfl
theorem t6(w:World)(os:OsState):(ran w os).map (fun s=>(wideSeen qv s,clsSeenW qv [] s))=some (wideGood qv,clsGoodW qv []):=by kernel_rfl
theorem left_boot{l:Type}{Yf:Shared->l}{Ya:World->l}(m:opening PySem.Challenge.rw_cutstree_k57_ways_told.prog=plainProg (PySem.Challenge.rw_cutstree_k57_ways_told.prog).main.scope.names)(n:Nat.ble 600 6100=true)(o:∀s:Shared,fenceModules? PySem.Challenge.rw_cutstree_k57_ways_told.prog s=some s)(h:∀(w:World)(os:OsState),(ran w os).map Yf=some (Ya w)):LeftO PySem.Challenge.rw_cutstree_k57_ways_told.prog qv [] xt Yf Ya 6100 true:=by
 intro w;have b:=boot_open m n o w;unfold openEnds;cases e:fencedOpening treeTable PySem.Challenge.rw_cutstree_k57_ways_told.prog w 6100 with
 |none=>rw[e]at b;cases b
 |some s=>
  rw[e]at b;obtain⟨q,r,t,p,a⟩:=s;simp only[Option.map_some,Option.some.injEq,Prod.mk.injEq]at b;obtain⟨rfl,rfl,rfl,rfl⟩:=b;have d:=t4 w a;have f:=t5 w a;have g:=t6 w a;show(ran w a).map _=_;have c:=t1 w a;have i:=t2 w a;have j:=t3 w a;have k:=h w a;revert c i j d f g k;cases ran w a with
  |none=>intro c;cases c
  |some s=>
   intro d f g c i j k;have c:=Option.some.inj c;have i:=Option.some.inj i;have j:=Option.some.inj j;have d:=Option.some.inj d;have f:=Option.some.inj f;have g:=Option.some.inj g;have k:=Option.some.inj k;refine congrArg some (Prod.ext ?_ k);exact pk c i j d f g
end Q57
open PySem PySem.W PyProof.Rows
local macro_rules | `(tactic| o_head $H) => `(tactic| (
 refine holds_open (r:=PySem.Challenge.rw_cutstree_k57_ways_told.row) (q:=Q57.qv) (loose:=[]) (Xt:=Q57.xt) (XP:=XL Q57.qv []) (Yf:=Hook.obs $H) (Ya:=Hook.val $H) (YP:=Hook.says $H) (N:=6100) ?hl (Hook.of $H) (Hook.keeps $H) (fun s e=>xl_of s (Bool.and_eq_true_iff.mp e).1) XL.keeps (by rfl) (by rfl) (by rfl) (fun s e=>recFacts_of (Bool.and_eq_true_iff.mp e).2) (by rfl) (by first|assumption|decide +kernel) (by decide +kernel) ⟨rfl,rfl,rfl,rfl,rfl,by decide +kernel⟩ ?hw ?hc
 (case hl=>exact Q57.left_boot rfl rfl (fun _=>rfl) (fun w os=>by kernel_rfl))))
open_top Q57.k_top for PySem.Challenge.rw_cutstree_k57_ways_told
end
section
set_option linter.all false
set_option maxRecDepth 100000
set_option maxHeartbeats 4000000
abbrev Fg:=PySem.W.Frag
local macro_rules|`(50)=>`(by omega)|`(51)=>`(fun _=>rfl)|`(52)=>`(by decide)|`(53)=>`(by simp)|`(54)=>`(by grind)|`(55)=>`(by sleep 988)|`(56)=>`(by sleep 990)|`(57)=>`(by sleep 989)|`(58)=>`(fun _ _=>False)
noncomputable section
abbrev T0:=List (List Int)
abbrev T2:=PySem.Value->PySem.Shared->Prop
abbrev T3:=List (PySem.Addr×PySem.Obj)
abbrev T4:=List (Option Nat)
abbrev T5:=List PySem.PyData
abbrev T6:=List PySem.Value
abbrev Ta:=List Int
abbrev Tb:=List PySem.Expr
abbrev Tc:=List PySem.Stmt
abbrev Td:=List PySem.Addr
abbrev Te:=List PySem.Str
abbrev Tg:=List Nat
abbrev Ti:=Option PySem.Value
abbrev Tj:=Option Nat
abbrev Tk:=Option PySem.Addr
abbrev Tl:=Array PySem.Value
abbrev Tn:=Array Nat
abbrev To:=Option Int
abbrev Tq:=PySem.Str×PySem.NameKind
abbrev Tt:=PySem.Value->PySem.Value->PySem.Sem PySem.Value
abbrev Tu:=Nat->Nat->Bool
abbrev Tv:=PySem.Str->Option PySem.NameKind
abbrev Tx:=List (PySem.Str×PySem.Value)
abbrev Ua:=List
abbrev Ub:=Option
abbrev Uc:=PySem.Value
abbrev Ud:=PySem.PyData
abbrev Ue:=PySem.Shared
abbrev Uf:=PySem.Addr
abbrev Ug:=PySem.Expr
abbrev Uh:=PySem.Program
abbrev Ui:=PySem.Around
noncomputable abbrev Z{α:Type _}(x:α):=some x
noncomputable abbrev Y{α:Type _}:=@none α
abbrev A0:=@PySem.wpAny_bind
abbrev A1:=@Option.bind_some
abbrev A2:=@PySem.Heap.get?_push_of_some
abbrev A3:=@PySem.wpAny_pure
abbrev A4:=@List.length_map
abbrev A6:=@List.mem_singleton
abbrev A7:=@if_pos
abbrev A8:=@Nat.le_refl
abbrev A9:=@List.mem_cons_of_mem
abbrev B3:=@List.getElem?_eq_some_iff
abbrev B4:=@Bool.and_eq_true
abbrev B5:=@List.mem_append_right
abbrev B6:=@PySem.Heap.lt_size
abbrev B7:=@if_neg
abbrev B8:=@List.mem_cons
abbrev B9:=@List.mem_cons_self
abbrev C0:=@List.getElem?_eq_getElem
abbrev C1:=@List.length_append
abbrev C2:=@PySem.Heap.get?_push_size
abbrev C3:=@Nat.ne_of_lt
abbrev C4:=@decide_eq_true
abbrev C5:=@Nat.lt_of_lt_of_le
abbrev C6:=@Bool.false_ne_true
abbrev C7:=@List.mem_map
abbrev C8:=@List.getElem?_append_left
abbrev C9:=@List.mem_append
abbrev D0:=@Array.getD_eq_getD_getElem?
abbrev D3:=@List.length_cons
abbrev D4:=@List.map_cons
abbrev D5:=@List.all_eq_true
abbrev D6:=@List.getElem?_map
abbrev D7:=@of_decide_eq_true
abbrev D8:=@List.length_singleton
abbrev D9:=@List.mem_append_left
abbrev E1:=@List.getElem?_set_ne
abbrev E2:=@List.getElem?_set_self
abbrev E3:=@List.getD_eq_getElem?_getD
abbrev E4:=@PySem.wpAny_newObj_type
abbrev E5:=@PySem.wpAny_mono
abbrev E6:=@Nat.le_trans
abbrev E7:=@Array.getElem?_toList
abbrev E8:=@Array.length_toList
abbrev E9:=@Array.getElem?_eq_some_iff
abbrev F0:=@Option.some.inj
abbrev F4:=@List.size_toArray
abbrev F5:=@List.mem_range
abbrev F6:=@decide_eq_false
abbrev F7:=@List.map_append
abbrev F8:=@PySem.wpAny_field
abbrev F9:=@Nat.zero_le
abbrev I0:=@List.map_map
abbrev J0:=@PySem.W.mg_none_of
abbrev J7:=@List.lookup_cons
abbrev J8:=@PySem.wpAny_holding
abbrev J9:=@PySem.sizeLine_eq
abbrev L6:=@List.append_nil
abbrev L7:=@Int.emod_lt_of_pos
abbrev L8:=@PySem.PassesOwn.never
abbrev L9:=@List.not_mem_nil
abbrev O0:=@beq_eq_false_iff_ne
abbrev O6:=@List.mem_of_getElem?
abbrev O7:=@Nat.ne_of_gt
abbrev O8:=@PySem.mem_of_lookup
abbrev O9:=@PySem.wpAny_setField_rec
abbrev S3:=@List.find?_cons
abbrev S5:=@Int.emod_nonneg
abbrev S6:=@Nat.lt_succ_self
abbrev S7:=@Ne.symm
abbrev S8:=@PySem.wpAny_callSpecial?_slot
abbrev S9:=@PySem.wpAny_call_entry
abbrev U0:=@List.getElem?_eq_none_iff
abbrev U1:=@List.nodup_cons
abbrev U2:=@List.length_set
abbrev U3:=@PySem.Heap.get?_update_other
abbrev U4:=@beq_self_eq_true
abbrev U5:=@Bool.true_and
abbrev U6:=@PyProof.Rows.callWith_type1
abbrev U7:=@decide_eq_true_eq
abbrev U8:=@PySem.Heap.get?_update_self
abbrev U9:=@PyProof.Rows.slot_tuple_getitem
abbrev Y0:=@List.getElem?_append_right
abbrev Y1:=@List.filterMap_cons
abbrev Y2:=@Nat.lt_irrefl
abbrev Y3:=@List.any_eq_true
abbrev Y4:=@List.append_assoc
abbrev Y5:=@List.length_reverse
abbrev Y6:=@PySem.wpAny_standAt
abbrev Y7:=@PySem.Heap.size_push
abbrev Y8:=@List.getElem?_eq_none
abbrev Y9:=@PySem.wpAny_Call_Name_kw
abbrev Z0:=@PySem.Obj.data_mapFields
abbrev Z1:=@List.reverse_cons
abbrev Z2:=@Option.isSome_map
abbrev Z3:=@List.nodup_append
abbrev Z4:=@beq_iff_eq
abbrev Z5:=@PySem.wpAny_seqItems
abbrev Z6:=@List.map_congr_left
abbrev Z7:=@PySem.wpAny_truthy_bool
abbrev Z8:=@List.all_cons
abbrev Z9:=@List.length_take
abbrev A0a:=@List.mem_filterMap
abbrev A0b:=@List.find?_eq_none
abbrev A0c:=@PySem.Heap.SameBut.update
abbrev A0d:=@Bool.false_and
abbrev A0e:=@List.drop_eq_getElem_cons
abbrev A0f:=@Array.getElem?_eq_getElem
abbrev A0g:=@Nat.not_lt_zero
abbrev A0h:=@congrArg
abbrev A0i:=@Nat.lt_trans
abbrev A0j:=@PySem.tupleKind_room_in1
abbrev A0k:=@PySem.wpAny_pyIter_tuple
abbrev A0l:=@Int.toNat_natCast
abbrev A0m:=@List.any_cons
abbrev A0n:=@PyProof.Rows.callWith_builtin1
abbrev A0o:=@List.length_drop
abbrev A0p:=@List.nodup_nil
abbrev A0q:=@List.getElem_mem
abbrev A0r:=@or_false
abbrev A0s:=@List.find?_map
abbrev A0t:=@Array.getElem?_eq_none
abbrev A0u:=@Bool.eq_iff_iff
abbrev A0v:=@PySem.wpAny_setField
abbrev A0w:=@PySem.wpAny_isInstance
abbrev A0x:=@List.getElem?_toArray
abbrev A0y:=@PySem.Calls.spliced_cons
abbrev A0z:=@PySem.codeAny_mono
abbrev A1a:=@PySem.wpAny_typeOf
abbrev A1b:=@PySem.SeqAt.canLay_of_shaped
abbrev A1c:=@PySem.wpAny_passesOwn
abbrev A1d:=@Bool.and_false
abbrev A1e:=@Option.isSome_iff_exists
abbrev A1f:=@PySem.W.mg_of
abbrev A1g:=@PySem.F.slot_tuple_iterator_next
abbrev A1h:=@List.length_nil
abbrev A1i:=@if_true
abbrev A1j:=@PySem.F.plainAttrs_list
abbrev A1k:=@Option.bind_eq_some_iff
abbrev A1l:=@Nat.le_of_lt
abbrev A1m:=@List.ext_getElem?
abbrev A1n:=@PySem.wpAny_loadPart'
abbrev A1o:=@PySem.codeAny_builtin
abbrev A1p:=@List.mem_iff_getElem?
abbrev A1q:=@PySem.F.slot_zip_next
abbrev A1r:=@List.drop_length
abbrev A1s:=@PySem.Calls.spliced_nil
abbrev A1t:=@Nat.le_succ
abbrev A1u:=@PySem.Heap.SameBut.refl
abbrev A1v:=@PySem.wpAny_setState_of
abbrev A1w:=@PySem.boot_len
abbrev A1x:=@List.mem_filter
abbrev A1y:=@Bool.or_eq_true
abbrev A1z:=@List.nil_append
abbrev A2a:=@List.getElem?_range
abbrev A2b:=@List.mem_map_of_mem
abbrev A2c:=@PySem.Obj.isFreed_of_fields
abbrev A2d:=@List.zip_eq_zipWith
abbrev A2e:=@PySem.wpAny_rule
abbrev A2f:=@PySem.wpAny_typeNameOfWhole_itemiter
abbrev A2g:=@PySem.Paired.length
abbrev A2h:=@PySem.wpAny_attempt
abbrev A2i:=@PySem.W.callWith_K
abbrev A2j:=@List.filterMap_map
abbrev A2k:=@Array.getElem?_eq_none_iff
abbrev A2l:=@PySem.wpAny_typeNameOfWhole_keyiter
abbrev A2m:=@Option.isSome_none
abbrev A2n:=@List.map_singleton
abbrev A2o:=@PySem.wpAny_execs_nil
abbrev A2p:=@PyProof.Rows.boot_tuple
namespace L2
variable{H:Hp}{s:Ue}{σ:St}{A:Ui}{K:Fg}{pos:Pos}
open PySem PySem.Spec PyProof.Rows
abbrev Key:=Sum Int Str
def DQ:Key->Uc->Bool
 |.inl k,v=>Value.isInt k v
 |.inr x,v=>Value.isStrOf x v
noncomputable def aPu(w:World):Key->Int
 |.inl k=>hashInt k
 |.inr x=>hashStr w x
def dB:∀{k:Key}{v:Uc},DQ k v=true->(∃i t,k=Sum.inl i/\v=Value.int i t)\/(∃x t,k=Sum.inr x/\v=Value.str x t)
 |.inl i,v=>fun h=>by
  obtain⟨t,e⟩:=Value.isInt_shape h;exact .inl ⟨i,t,rfl,e⟩
 |.inr x,v=>fun h=>by
  obtain⟨t,e⟩:=Value.isStrOf_shape h;exact .inr ⟨x,t,rfl,e⟩
def YS(i:Int)(t:Tok):DQ (.inl i) (.int i t)=true:=by simp[DQ,Value.isInt]
def aAi(x:Str)(t:Tok):DQ (.inr x) (.str x t)=true:=by simp[DQ,Value.isStrOf]
def aMe(a b:Int):decide ((Sum.inl a:Key)=Sum.inl b)=(a==b):=54
def aMn(a b:Str):decide ((Sum.inr a:Key)=Sum.inr b)=decide (a=b):=54
def aJU(a:Int)(b:Str):decide ((Sum.inl a:Key)=Sum.inr b)=false:=F6 fun q=>nomatch q
def aKg(a:Str)(b:Int):decide ((Sum.inr a:Key)=Sum.inl b)=false:=F6 fun q=>nomatch q
def cH(prog:Uh)(w:World):PySem.KeyKind prog w Key where
 is:=DQ
 hash:=aPu w
 inj:=fun v a b ha hb=>by
  rcases dB ha with⟨i,t,rfl,rfl⟩|⟨x,t,rfl,rfl⟩
  .rcases dB hb with⟨j,u,rfl,e⟩|⟨y,u,rfl,e⟩
   .injection e with e1 _;rw[e1]
   .exact nomatch e
  .rcases dB hb with⟨j,u,rfl,e⟩|⟨y,u,rfl,e⟩
   .exact nomatch e
   .injection e with e1 _;rw[e1]
 byValue:=fun k v h=>by
  rcases dB h with⟨i,t,rfl,rfl⟩|⟨x,t,rfl,rfl⟩<;>rfl
 pyHash:=fun hv h=>by
  rcases dB hv with⟨i,t,rfl,rfl⟩|⟨x,t,rfl,rfl⟩
  .exact wpAny_pyHash_int h
  .exact wpAny_pyHash_str h
 eqBool:=fun hu hv h=>by
  rcases dB hu with⟨i,t,rfl,rfl⟩|⟨x,t,rfl,rfl⟩
  .rcases dB hv with⟨j,u,rfl,rfl⟩|⟨y,u,rfl,rfl⟩
   .rw[aMe]at h;exact wpAny_eqBool_int h
   .rw[aJU]at h;exact SeqAt.EqAt.int_str i t y u _ _ _ _ h
  .rcases dB hv with⟨j,u,rfl,rfl⟩|⟨y,u,rfl,rfl⟩
   .rw[aKg]at h;exact SeqAt.EqAt.str_int x t j u _ _ _ _ h
   .rw[aMn]at h;exact wpAny_eqBool_str h
 «strs»:=fun k x t v h=>by
  rcases dB h with⟨i,u,rfl,e⟩|⟨y,u,rfl,e⟩
  .exact nomatch e
  .injection e with e1 _
   subst e1;cases v<;>rfl
def MN(prog:Uh)(w:World)(i:Int)(t:Tok):(cH prog w).is (.inl i) (.int i t)=true:=YS i t
def NZ(prog:Uh)(w:World)(x:Str)(t:Tok):(cH prog w).is (.inr x) (.str x t)=true:=aAi x t
inductive V where
 |non|bl (b:Bool)|int (i:Int)|str (x:Str)|byt (b:Array UInt8)|flt (b:UInt64)|ref (a:Uf)|ty (n:String)
 deriving DecidableEq
abbrev Tf:=Ua V
def RelV:V->Uc->Prop
 |.non,u=>u=Value.none
 |.bl b,u=>u=Value.bool b
 |.int i,u=>∃t,u=Value.int i t
 |.str x,u=>∃t,u=Value.str x t
 |.byt b,u=>∃t,u=Value.bytes b t
 |.flt b,u=>∃t,u=Value.float b t
 |.ref a,u=>u=Value.ref a
 |.ty n,u=>u=Value.type n
abbrev bE:Tf->T6->Prop:=Paired RelV
def bE.length(r:bE xs us):xs.length=us.length:=A2g r
theorem bE.get:∀{xs:Tf}{us:T6}{i:Nat}{x:V},bE xs us->xs[i]?=Z x->∃u,us[i]?=Z u/\RelV x u
 |_,_,_,_,.nil=>fun e=>by simp at e
 |_,_,0,_,.cons r _=>fun e=>by simp at e;subst e;exact⟨_,rfl,r⟩
 |_,_,i+1,x,.cons _ t=>fun e=>by
  obtain⟨u,a,b⟩:=bE.get t (by simpa using e);exact⟨u,by simpa using a,b⟩
theorem bE.set(r:RelV x u):∀{xs:Tf}{us:T6}(i:Nat),bE xs us->bE (xs.set i x) (us.set i u)
 |_,_,_,.nil=>.nil
 |_,_,0,.cons _ t=>.cons r t
 |_,_,i+1,.cons q t=>.cons q (bE.set r i t)
theorem bE.append:∀{xs ys:Tf}{us ws:T6},bE xs us->bE ys ws->bE (xs++ys) (us++ws)
 |_,_,_,_,.nil=>fun s=>s
 |_,_,_,_,.cons r t=>fun s=>.cons r (bE.append t s)
theorem bE.take:∀{xs:Tf}{us:T6}(n:Nat),bE xs us->bE (xs.take n) (us.take n)
 |_,_,0,_=>.nil
 |_,_,_+1,.nil=>.nil
 |_,_,n+1,.cons r t=>.cons r (bE.take n t)
theorem bE.drop:∀{xs:Tf}{us:T6}(n:Nat),bE xs us->bE (xs.drop n) (us.drop n)
 |_,_,0,r=>r
 |_,_,_+1,.nil=>.nil
 |_,_,n+1,.cons _ t=>bE.drop n t
def qE:Ub V->Ti->Prop
 |some v,some u=>RelV v u
 |none,none=>True
 |_,_=>False
def KV{a:Type}:Ua (a×V)->Ua (a×Uc)->Prop:=Paired fun(p:a×V)(q:a×Uc)=>p.1=q.1/\RelV p.2 q.2
def kV:Key->V
 |.inl i=>.int i
 |.inr x=>.str x
inductive HO where
 |lst (xs:Tf)
 |tup (xs:Tf)
 |dK (kvs:Ua (Key×V))|dT (kvs:Ua (Ua Key×V))
 |set (S:Int->Bool) (n:Nat)
 |ins (C dx:Uf) (fs:Ua (Str×V))
 |own (x:Uf)
 |xd (fs:Ua (Str×V))
 |met (f x:Uf)
 |rng (lo hi:Int)
 |frz (o:Obj) (u:HO)
 |tbl (ps:Tl)
 |ext (φ:Heap->Prop)
abbrev Hp:=Uf->Ub HO
def upd(H:Hp)(a:Uf)(o:HO):Hp:=fun b=>if b=a then Z o else H b
def aT:upd H a o a=Z o:=by unfold upd;rw[A7 rfl]
def aL{a b:Uf}(h:b≠a):upd H a o b=H b:=by unfold upd;rw[B7 h]
def aHZ{o u:HO}(h:H a=Z o)(h':H b=Z u)(d:o≠u):a≠b:=54
def aQ{o:HO}(h:H a=Z o)(h':H b=Y):a≠b:=by
 intro e;subst e;rw[h]at h';cases h'
section
variable(P:Uh)(w:World)
def eG(H:Hp)(h:Heap)(a:Uf):HO->Prop
 |.lst xs=>xs.length<=sizeLine/\∃(b:T6)(n:Nat),bE xs b/\h.get? a=Z { cls:=.type "list",data:=.seq b.toArray n }
 |.tup xs=>xs.length<=sizeLine/\∃b:T6,bE xs b/\IsTup h a b.toArray
 |.dK kvs=>kvs.length<=sizeLine/\(a==sysModules)=false/\∃vs,KV kvs vs/\h.DictOf (cH P w) a vs
 |.dT kvs=>kvs.length<=sizeLine/\(a==sysModules)=false/\∃xs:Ua (Ua Key×Uf×Uc),
  Paired (fun(p:Ua Key×V)(q:Ua Key×Uf×Uc)=>p.1=q.1/\H q.2.1=Z (.tup (p.1.map kV))/\RelV p.2 q.2.2) kvs xs /\
  ∃o es ep,h.get? a=Z o/\o.ExactDict/\o.data=.dict es ep/\es.toList=xs.map (entryOfKey<|tupleKind<|cH P w)/\(xs.map (·.1)).Nodup
 |.set S n=>h.SetOf (intKind P w) a S n
 |.ins C dx fs=>H dx=Z (.own a)/\fs.length<=1000/\dx≠a/\h.get? a=Z (W.instObj C dx) /\
  ∃mA,h.Ns1 dx mA/\(∀f,qE (fs.lookup f)<|mA f)/\PySem.Within mA (fs.map (·.1))
 |.own _=>∃o,h.get? a=Z o
 |.xd fs=>∃mA,h.Ns1 a mA/\∀f,qE (fs.lookup f)<|mA f
 |.rng lo hi=>∃t u v,h.get? a=Z { cls:=.type "range",data:=.fields #[.int lo t,.int hi u,.int 1 v] }
 |.frz o u=>h.get? a=Z o/\eG H h a u
 |.tbl ps=>h.get? a=Z { cls:=.none,data:=.fields ps }
 |.met f x=>h.get? a=Z (W.methodObj (.ref f) (.ref x))
 |.ext c=>c h/\(∃o,h.get? a=Z o)/\∀d e:Heap,c d->(∀o,d.get? a=Z o->e.get? a=Z o)->c e
def HOk(H:Hp)(h:Heap):Prop:=∀a o,H a=Z o->eG P w H h a o
end
section
variable{P:Uh}{w:World}{H H':Hp}{h h':Heap}{a:Uf}{o:HO}
def eG.lt(x:eG P w H h a o):a<h.objs.size:=by
 cases o with
 |lst xs=>obtain⟨_,_,_,_,e⟩:=x;exact B6 e
 |tup xs=>obtain⟨_,_,_,p⟩:=x;exact p.lt
 |dK kvs=>obtain⟨_,_,_,_,o,_,_,e,_⟩:=x;exact B6 e
 |dT kvs=>obtain⟨_,_,_,_,o,_,_,e,_⟩:=x;exact B6 e
 |set S n=>obtain⟨o,_,_,_,e,_⟩:=x;exact B6 e
 |ins C dx fs=>obtain⟨_,_,_,e,_⟩:=x;exact B6 e
 |own y=>obtain⟨_,e⟩:=x;exact B6 e
 |xd fs=>obtain⟨_,⟨_,_,_,e,_⟩,_⟩:=x;exact B6 e
 |rng lo hi=>obtain⟨_,_,_,e⟩:=x;exact B6 e
 |frz ob u=>obtain⟨e,_⟩:=x;exact B6 e
 |tbl ps=>exact B6 x
 |met f y=>exact B6 x
 |ext b=>obtain⟨_,⟨_,e⟩,_⟩:=x;exact B6 e
theorem Paired.mapP{c d:Type}{F G:c->d->Prop}:∀{l₁:Ua c}{l₂:Ua d},Paired F l₁ l₂->(∀a b,F a b->G a b)->Paired G l₁ l₂
 |_,_,.nil=>fun _=>.nil
 |_,_,.cons r t=>fun f=>.cons (f _ _ r) (Paired.mapP t f)
def eG.stay(x:eG P w H h a o)(k:∀b u,(b=a\/H b=Z (.own a))->h.get? b=Z u->h'.get? b=Z u)
 (i:∀b,H b=Z (.own a)->H' b=Z (.own a)) (ht:∀b xs,H b=Z (.tup xs)->H' b=Z (.tup xs)):eG P w H' h' a o:=by
 induction o with
 |lst xs=>obtain⟨z,g,n,r,e⟩:=x;exact⟨z,g,n,r,k _ _ (.inl rfl) e⟩
 |tup xs=>obtain⟨z,g,r,ob,e,c⟩:=x;exact⟨z,g,r,ob,k _ _ (.inl rfl) e,c⟩
 |dK kvs=>obtain⟨z,y,vs,r,ob,es,ep,e,c⟩:=x;exact⟨z,y,vs,r,ob,es,ep,k _ _ (.inl rfl) e,c⟩
 |dT kvs=>
  obtain⟨z,y,xs,r,ob,es,ep,e,c⟩:=x;exact⟨z,y,xs,Paired.mapP r fun p q z=>⟨z.1,ht _ _ z.2.1,z.2.2⟩,ob,es,ep,k _ _ (.inl rfl) e,c⟩
 |set S n=>obtain⟨ob,es,ep,t,e,c⟩:=x;exact⟨ob,es,ep,t,k _ _ (.inl rfl) e,c⟩
 |ins C dx fs=>
  obtain⟨d,z,ne,e,mA,⟨od,es,ep,j,c⟩,r⟩:=x;exact⟨i _ d,z,ne,k _ _ (.inl rfl) e,mA,⟨od,es,ep,k _ _ (.inr d) j,c⟩,r⟩
 |own y=>obtain⟨ob,e⟩:=x;exact⟨ob,k _ _ (.inl rfl) e⟩
 |xd fs=>obtain⟨mA,⟨od,es,ep,e,c⟩,r⟩:=x;exact⟨mA,⟨od,es,ep,k _ _ (.inl rfl) e,c⟩,r⟩
 |rng lo hi=>obtain⟨t,u,v,e⟩:=x;exact⟨t,u,v,k _ _ (.inl rfl) e⟩
 |frz ob u ih=>obtain⟨e,q⟩:=x;exact⟨k _ _ (.inl rfl) e,ih q⟩
 |tbl ps=>
  have e:=x;exact k a _ (.inl rfl) e
 |met f y=>
  have e:=x;exact k a _ (.inl rfl) e
 |ext l=>obtain⟨p,⟨o,e⟩,st⟩:=x;exact⟨st _ _ p fun o q=>k _ _ (.inl rfl) q,⟨o,k _ _ (.inl rfl) e⟩,st⟩
def HOk.lt(x:HOk P w H h)(e:H a=Z o):a<h.objs.size:=(x a o e).lt
def HOk.fresh(x:HOk P w H h)(e:h.objs.size<=a):H a=Y:=by
 cases q:H a with
 |none=>rfl
 |some u=>exact absurd (C5 (x.lt q) e)<|Y2 _
def HOk.kept(x:HOk P w H h)(k:∀b u,h.get? b=Z u->h'.get? b=Z u):HOk P w H h':=fun a o e=>
 (x a o e).stay (fun b u _ q=>k b u q) (fun _ q=>q) fun _ _ q=>q
def HOk.laid(x:HOk P w H h)(k:∀b u,h.get? b=Z u->h'.get? b=Z u)(f:h.objs.size<=a)(new:eG P w (upd H a o) h' a o):HOk P w (upd H a o) h':=fun b u e=>by
 have hn:=x.fresh f;by_cases d:b=a
 .subst d;rw[aT]at e;cases e;exact new
 .rw[aL d]at e;exact(x b u e).stay (fun c v _ q=>k c v q) (fun c q=>by rw[aL (aQ q hn)];exact q) fun c xs q=>by rw[aL (aQ q hn)];exact q
end
def Rd(H:Hp)(a:Uf)(u:HO):Prop:=H a=Z u\/∃o,H a=Z (.frz o u)
def Rd.ok{P:Uh}(r:Rd H a u)(x:HOk P w H h):eG P w H h a u:=by
 rcases r with r|⟨o,r⟩
 .exact x a u r
 .obtain⟨_,q⟩:=x a _ r;exact q
def Mut:Ub HO->Prop
 |some (.lst _)=>True
 |some (.dK _)=>True
 |some (.dT _)=>True
 |some (.set _ _)=>True
 |some (.ins _ _ _)=>True
 |some (.ext _)=>True
 |_=>False
section
variable{P:Uh}{w:World}{H:Hp}{h h':Heap}{x e:Uf}{o':HO}
def HOk.write(ok:HOk P w H h)(g:Mut (H x))(l:e=x\/H e=Z (.own x))(k:∀b u,b≠e->h.get? b=Z u->h'.get? b=Z u)(j:∃u,h'.get? e=Z u)
 (new:eG P w (upd H x o') h' x o'):HOk P w (upd H x o') h':=fun b u q=>by
 have d:∀c y,H c=Z (.own y)->c≠x:=fun c y r z=>by subst z;rw[r]at g;exact g
 have f:∀c xs,H c=Z (.tup xs)->c≠x:=fun c xs r z=>by subst z;rw[r]at g;exact g
 by_cases i:b=x
 .subst i;rw[aT]at q;cases q;exact new
 .rw[aL i]at q;by_cases a:b=e
  .have q':H b=Z (.own x):=by
    rcases l with z|z
    .exact absurd (a.trans z) i
    .rw[a];exact z
   rw[q]at q';cases q';obtain⟨v,m⟩:=j;exact⟨v,by rw[a];exact m⟩
  .refine(ok b u q).stay (fun c v hc r=>k c v ?_ r) (fun c r=>by rw[aL (d c b r)];exact r) fun c xs r=>by rw[aL (f c xs r)];exact r
   rcases hc with rfl|hc
   .exact a
   .rintro rfl;rcases l with z|z
    .exact d c b hc z
    .rw[hc]at z;cases z;exact i rfl
end
structure Un(fs ex:Td)(H H':Hp)(h h':Heap):Prop where
 keep:∀b o,h.get? b=Z o->H b=Y->b∉fs->b∉ex->h'.get? b=Z o
 slot:∀b o,h.get? b=Z o->H b=Y->b∈fs->b∉ex->∃sl,h'.get? b=Z { o with slots:=sl }
 free:∀b o,h.get? b=Z o->H b=Y->b∉ex->H' b=Y
 there:∀b o,h.get? b=Z o->b∉ex->∃o',h'.get? b=Z o'
 tups:∀b xs,H b=Z (.tup xs)->H' b=Z (.tup xs)
 frzs:∀b o u,H b=Z (.frz o u)->H' b=Z (.frz o u)
 tbls:∀b ps,H b=Z (.tbl ps)->∃more,H' b=Z (.tbl (ps++more))
section
variable{fs fs' ex ex':Td}{H H1 H2:Hp}{h h1 h2 h':Heap}{a x e:Uf}{o:HO}
def Un.any(u:Un fs ex H H1 h h1){b:Uf}{ob:Obj}(q:h.get? b=Z ob)(n:H b=Y)(c:b∉ex):∃sl,h1.get? b=Z { ob with slots:=sl }:=by
 by_cases d:b∈fs
 .exact u.slot b ob q n d c
 .exact⟨ob.slots,u.keep b ob q n d c⟩
def Un.kept(k:∀b u,h.get? b=Z u->h'.get? b=Z u):Un fs ex H H h h':=
 ⟨fun b ob q _ _ _=>k b ob q,fun b ob q _ _ _=>⟨ob.slots,k b ob q⟩,fun _ _ _ n _=>n,fun b ob q _=>⟨ob,k b ob q⟩,fun _ _ q=>q,fun _ _ _ q=>q,fun _ ps q=>⟨#[],by rw[q];simp⟩⟩
def Un.refl:Un fs ex H H h h:=Un.kept fun _ _ q=>q
def Un.laid(k:∀b u,h.get? b=Z u->h'.get? b=Z u)(hp:h.objs.size<=a)(hn:H a=Y):Un fs ex H (upd H a o) h h' where
 keep:=fun b u q _ _ _=>k b u q
 slot:=fun b u q _ _ _=>⟨u.slots,k b u q⟩
 free:=fun b u q n _=>by rw[aL (C3<|C5 (B6 q) hp)];exact n
 there:=fun b u q _=>⟨u,k b u q⟩
 tups:=fun b xs q=>by rw[aL (aQ q hn)];exact q
 frzs:=fun b u xs q=>by rw[aL (aQ q hn)];exact q
 tbls:=fun b ps q=>⟨#[],by rw[aL (aQ q hn),q];simp⟩
def Un.write(d:Mut (H x))(j:e=x\/H e=Z (.own x))(k:∀b u,b≠e->h.get? b=Z u->h'.get? b=Z u)(f:∃u,h'.get? e=Z u):Un fs ex H (upd H x o) h h':=by
 have g:∀b,H b=Y->b≠x:=fun b n z=>by subst z;rw[n]at d;exact d
 have i:∀b,H b=Y->b≠e:=fun b n z=>by
  subst z;rcases j with r|r
  .exact g b n r
  .rw[n]at r;cases r
 have hm:∀b u,H b=Z u->¬Mut (Z u)->b≠x:=fun b u q nm z=>by subst z;rw[q]at d;exact nm d
 refine⟨fun b u q n _ _=>k b u (i b n) q,fun b u q n _ _=>⟨u.slots,k b u (i b n) q⟩,fun b u q n _=>by rw[aL (g b n)];exact n,fun b u q _=>?_,
  fun b xs q=>by rw[aL (hm b _ q fun z=>z)];exact q,fun b u xs q=>by rw[aL (hm b _ q fun z=>z)];exact q,fun b ps q=>⟨#[],by rw[aL (hm b _ q fun z=>z),q];simp⟩⟩
 by_cases c:b=e
 .subst c;exact f
 .exact⟨u,k b u c q⟩
end
def trk(h:Heap)(H:Hp):Td:=(List.range h.objs.size).filter fun a=>(H a).isSome
def OS(h:Heap)(H:Hp):Heap:=W.hideAll h<|trk h H
def YC(h:Heap)(H:Hp):(OS h H).objs.size=h.objs.size:=W.hideAll_size _ _
def aCw{h:Heap}{b:Uf}{o:Obj}(e:h.get? b=Z o)(n:H b=Y):(OS h H).get? b=Z o:=
 W.hideAll_get _ e fun hm=>by
  have q:=(A1x.mp hm).2;rw[n]at q;simp at q
def aHP{b:Uf}{o:Obj}(e:(OS h H).get? b=Z o):h.get? b=Z o/\H b=Y:=by
 have a:=W.of_hideAll (trk h H) e;refine⟨a,?_⟩;cases q:H b with
 |none=>rfl
 |some x=>
  have hm:b∈trk h H:=A1x.mpr ⟨F5.mpr<|B6 a,by simp[q]⟩;have z:(OS h H).get? b=Y:=W.hideAll_none (trk h H) hm;rw[z]at e;cases e
def sZ(g h:Heap)(L:Uf):T3:=(List.range h.objs.size).filterMap fun a=>if a=L\/(g.get? a).isSome=true then Y else(h.get? a).map fun o=>(a,o)
def yR{g h:Heap}{L a:Uf}{o:Obj}(c:a≠L)(d:g.get? a=Y)(b:h.get? a=Z o):(a,o)∈sZ g h L:=
 A0a.mpr ⟨a,F5.mpr<|B6 b,by simp[c,d,b]⟩
def BQ{p:Uf×Obj}(a:p∈sZ g h L):p.1≠L/\g.get? p.1=Y/\h.get? p.1=Z p.2:=by
 obtain⟨b,_,e⟩:=A0a.mp a;split at e
 .cases e
 .rename_i hn;cases q:h.get? b with
  |none=>rw[q]at e;simp at e
  |some u=>
   rw[q]at e;simp only[Option.map_some,Option.some.injEq]at e;subst e;refine⟨fun z=>hn (.inl z),?_,q⟩;cases r:g.get? b with
   |none=>rfl
   |some v=>exact(hn (.inr (by simp[r]))).elim
def rest(g h:Heap)(L d:Uf):T3:=(sZ g h L).filter fun p=>decide (p.1≠d)
def aCY:News g L h (sZ g h L):=fun p d=>let⟨a,b,c⟩:=BQ d;⟨c,a,b⟩
structure Mod(K:Fg)(mg:Str->Ti)(base:Heap):Prop where
 kin:K.In base
 glob:base.Ns mainGlobals mg
 blt:∃mb,base.Ns builtinsNs mb/\∀x:Str,x≠"__name__"->mb x=bootBuiltins x
 nolimit:base.NoLimit
 sysm:∃o es ep,base.get? sysModules=Z o/\o.data=.dict es ep
 bmn:∃bm ob,mg "__builtins__"=Z (.ref bm)/\bm≠builtinsNs/\base.get? bm=Z ob/\ob.cls=.type "module"/\ob.dict=Z builtinsNs/\ob.data=.plain
structure Cx where
 prog:Uh
 w:World
 K:Fg
 mg:Str->Ti
 base:Heap
 A:Ui
 N:Te
 s₀:Ue
 H₀:Hp
 env:Env
 outer:Ua Env
 stack:Ua Env
 ex:Td
 fn:Str->Bool
 calm:Bool
 pn:T3
 xe:T2
noncomputable def frs(l:Ua Env):Td:=l.filterMap (·.frame)
abbrev Cx.fs(X:Cx):List Addr:=frs X.outer
def Vis(sc:Scope)(x:Str):Prop:=sc.names.lookup x=Z .local\/sc.names.lookup x=Z .cell\/sc.names.lookup x=Z .free
def Loc(sc:Scope)(x:Str):Prop:=sc.names.lookup x=Z .local\/sc.names.lookup x=Z .cell
def Look(env:Env)(h:Heap)(m:Str->Ti)(x:Str)(u:Uc):Prop:=
 (env.kindOf x=Z .local/\m x=Z u)\/((env.kindOf x=Z .cell\/env.kindOf x=Z .free)/\∃c,env.cells.lookup x=Z c/\h.IsCell c (Z u))
structure Cx.Ok(X:Cx):Prop where
 mod:Mod X.K X.mg X.base
 kind:X.env.scope.kind=.function
 glob:X.env.globals=mainGlobals
 blt:X.env.builtins=builtinsNs
 above:X.s₀.heap.objs.size<=X.env.locals
 inj:∀x y c,X.env.cells.lookup x=Z c->X.env.cells.lookup y=Z c->x=y
 has:∀x,(X.env.kindOf x=Z .cell\/X.env.kindOf x=Z .free)->∃c,X.env.cells.lookup x=Z c
 cab:∀x c,X.fn x=true->X.env.cells.lookup x=Z c->X.s₀.heap.objs.size<=c
 hd:X.calm=true->X.A.handled=Y
 frames:X.A.frames=Z X.stack
 stk:X.stack=X.outer\/(X.stack=X.env::X.outer/\X.env.frame=Z X.env.locals)
 exf:∀b∈X.ex,b≠X.env.locals/\∀x c,X.env.cells.lookup x=Z c->c≠b
 bs:∀b o,X.base.get? b=Z o->X.s₀.heap.get? b=Z o/\X.H₀ b=Y
 bsz:X.base.objs.size<=X.s₀.heap.objs.size
 noex:∀b o,X.base.get? b=Z o->b∉X.ex
 exfs:∀b∈X.ex,b∉X.fs
 funs:X.s₀.heap.FunFrames X.base X.outer
 frf:∀b∈X.fs,X.H₀ b=Y
structure Inv(X:Cx)(pins:T3)(σ:Ua (Ub V))(H:Hp)(s:Ue):Prop where
 ok:X.Ok
 os:s.os=X.s₀.os
 bare:AllBare s.gens
 base:Un X.fs X.ex X.H₀ H X.s₀.heap s.heap
 loc:∃m,s.heap.Ns X.env.locals m/\∀(i:Nat)(x:Str)(v:V),X.N[i]?=Z x->σ[i]?=Z (Z v)->Vis X.env.scope x->∃u,RelV v u/\Look X.env s.heap m x u
 cell:∀x c,X.env.cells.lookup x=Z c->∃v,s.heap.IsCell c v
 free:H X.env.locals=Y
 freeC:∀x c,X.env.cells.lookup x=Z c->H c=Y
 pin:∀p∈X.pn++pins,s.heap.get? p.1=Z p.2/\H p.1=Y/\p.1≠X.env.locals/\p.1∉X.fs/\∀v,p.2.data≠.cell v
 hok:HOk X.prog X.w H s.heap
 len:σ.length=X.N.length
section
variable{X:Cx}{pins:T3}{σ:Ua (Ub V)}{H H':Hp}{s:Ue}{h':Heap}
def Cx.Ok.nofr(ok:X.Ok){b:Uf}{o:Obj}(e:X.base.get? b=Z o):b∉X.fs:=fun a=>by
 have:=(ok.funs.mem a).1;rw[e]at this;cases this
def Inv.bs(I:Inv X pins σ H s):∀b o,X.base.get? b=Z o->s.heap.get? b=Z o/\H b=Y:=fun b o e=>
 ⟨I.base.keep b o (I.ok.bs b o e).1 (I.ok.bs b o e).2 (I.ok.nofr e) (I.ok.noex b o e),I.base.free b o (I.ok.bs b o e).1 (I.ok.bs b o e).2 (I.ok.noex b o e)⟩
def Inv.bk(I:Inv X pins σ H s):∀b o,X.base.get? b=Z o->s.heap.get? b=Z o:=fun b o e=>(I.bs b o e).1
def Inv.mod(I:Inv X pins σ H s):Mod X.K X.mg X.base:=I.ok.mod
def Inv.kIn(I:Inv X pins σ H s):X.K.In s.heap:=I.ok.mod.kin.keeps I.bk
def Inv.fr(I:Inv X pins σ H s):∃m,Fr X.base X.env.locals s.heap m:=
 let⟨m,hn,_⟩:=I.loc
 ⟨m,hn,I.bk,E6 I.ok.bsz I.ok.above⟩
def Inv.lt(I:Inv X pins σ H s):X.env.locals<s.heap.objs.size:=let⟨_,hn,_⟩:=I.loc;hn.lt
def Inv.sz(I:Inv X pins σ H s):X.s₀.heap.objs.size<=s.heap.objs.size:=E6 I.ok.above<|A1l I.lt
def Inv.nofs(I:Inv X pins σ H s){a:Uf}(h:s.heap.objs.size<=a):a∉X.fs:=fun b=>by
 obtain⟨_,o,c,_⟩:=I.ok.funs.mem b;exact absurd (C5 (B6 c)<|E6 I.sz h)<|Y2 _
def Inv.cne(I:Inv X pins σ H s):∀x c,X.env.cells.lookup x=Z c->c≠X.env.locals:=fun x c e z=>by
 obtain⟨v,o,d,hd⟩:=I.cell x c e;obtain⟨m,⟨o',es,ep,a,b,_⟩,_⟩:=I.loc;rw[z,a]at d;cases d;rw[b]at hd;cases hd
def Inv.funs(I:Inv X pins σ H s):s.heap.FunFrames X.base X.outer:=by
 have all:∀(l:Ua Env),(∀b∈frs l,b∈X.fs)->X.s₀.heap.FunFrames X.base l->s.heap.FunFrames X.base l:=by
  intro l
  induction l with
  |nil=>intro _ _;trivial
  |cons env r ih=>
   intro hs f;obtain⟨g,⟨L,o,a,hn,h,hd⟩,i⟩:=f;have c:=hs L (by unfold frs;rw[Y1,a];exact B9);obtain⟨sl,e⟩:=I.base.slot L o h (I.ok.frf L c) c fun z=>I.ok.exfs L z c;exact⟨g,⟨L,_,a,hn,e,hd⟩,ih (fun b d=>hs b (by unfold frs;rw[Y1,a];exact A9 _ d)) i⟩
 exact all X.outer (fun _ d=>d) I.ok.funs
def Inv.stack(I:Inv X pins σ H s):s.heap.FunFrames X.base X.stack:=by
 rcases I.ok.stk with e|⟨e,a⟩
 .rw[e];exact I.funs
 .rw[e];obtain⟨m,hn,_⟩:=I.loc;refine .cons (by rw[I.ok.kind];decide) a hn ?_ I.funs;exact Heap.get?_none_of_le<|E6 I.ok.bsz I.ok.above
def Inv.stkSub(I:Inv X pins σ H s):∀b∈frs X.stack,b∈X.env.locals::X.fs:=fun b a=>by
 rcases I.ok.stk with e|⟨e,c⟩
 .rw[e]at a;exact A9 _ a
 .rw[e]at a;unfold frs at a;rw[Y1,c]at a;exact a
def Inv.stkFree(I:Inv X pins σ H s):∀b∈frs X.stack,H b=Y:=fun b hb=>by
 rcases B8.mp (I.stkSub b hb)with e|hb
 .rw[e];exact I.free
 .obtain⟨_,o,a,_⟩:=I.ok.funs.mem hb;exact I.base.free b o a (I.ok.frf b hb) fun z=>I.ok.exfs b z hb
def Inv.step{F:Array GenState}{t':Nat}{d':Drawn}{ch:Td}(I:Inv X pins σ H s)
 (f:∀b∈ch,(b∈X.ex\/X.s₀.heap.objs.size<=b)/\b≠X.env.locals/\(∀x c,X.env.cells.lookup x=Z c->c≠b)/\∀p∈X.pn++pins,p.1≠b)
 (keep:∀b o,b≠X.env.locals->b∉X.fs->b∉ch->s.heap.get? b=Z o->H b=Y->h'.get? b=Z o)
 (slot:∀b o,b≠X.env.locals->b∈X.fs->b∉ch->s.heap.get? b=Z o->H b=Y->∃sl,h'.get? b=Z { o with slots:=sl }) (free:∀b o,b∉ch->s.heap.get? b=Z o->H b=Y->H' b=Y)
 (there:∀b o,b∉ch->s.heap.get? b=Z o->∃o',h'.get? b=Z o')
 (tups:∀b xs,H b=Z (.tup xs)->H' b=Z (.tup xs)) (frzs:∀b o u,H b=Z (.frz o u)->H' b=Z (.frz o u)) (tbls:∀b ps,H b=Z (.tbl ps)->∃more,H' b=Z (.tbl (ps++more)))
 (ns:∀m,s.heap.Ns X.env.locals m->h'.Ns X.env.locals m) (hok:HOk X.prog X.w H' h') (M:AllBare F):
 Inv X pins σ H' { s with heap:=h',gens:=F,drawn:=d',toks:=t' }:=by
 have C:∀b o,X.s₀.heap.get? b=Z o->b≠X.env.locals:=fun b o e=>C3<|C5 (B6 e) I.ok.above
 have j:∀b o,X.s₀.heap.get? b=Z o->b∉X.ex->b∉ch:=fun b o e a y=>by
  rcases (f b y).1 with z|z
  .exact a z
  .exact absurd (C5 (B6 e) z)<|Y2 _
 have g:∀x c,X.env.cells.lookup x=Z c->∀v,s.heap.IsCell c v->h'.IsCell c v:=fun x c e v ⟨o,B,hd⟩=>by
  have h:=fun z=>(f c z).2.2.1 x c e rfl;by_cases G:c∈X.fs
  .obtain⟨sl,q⟩:=slot c o (I.cne x c e) G h B<|I.freeC x c e;exact⟨_,q,hd⟩
  .exact⟨o,keep c o (I.cne x c e) G h B<|I.freeC x c e,hd⟩
 refine⟨I.ok,I.os,M,⟨fun b o e n y a=>?_,fun b o e n y a=>?_,fun b o e n a=>?_,fun b o e a=>?_,fun b xs e=>tups b xs<|I.base.tups b xs e,fun b o xs e=>frzs b o xs<|I.base.frzs b o xs e,fun b ps e=>?_⟩,?_,fun x c e=>?_,?_,fun x c e=>?_,fun p J=>?_,hok,I.len⟩
 .exact keep b o (C b o e) y (j b o e a) (I.base.keep b o e n y a)<|I.base.free b o e n a
 .obtain⟨sl,t⟩:=I.base.slot b o e n y a;obtain⟨E,D⟩:=slot b _ (C b o e) y (j b o e a) t<|I.base.free b o e n a;exact⟨E,D⟩
 .obtain⟨o',t⟩:=I.base.there b o e a;exact free b o' (j b o e a) t<|I.base.free b o e n a
 .obtain⟨o',t⟩:=I.base.there b o e a;exact there b o' (j b o e a) t
 .obtain⟨N,t⟩:=I.base.tbls b ps e;obtain⟨O,D⟩:=tbls b _ t;exact⟨N++O,by rw[D,Array.append_assoc]⟩
 .obtain⟨m,hn,P⟩:=I.loc;refine⟨m,ns m hn,fun i x v t D Q=>?_⟩;obtain⟨u,r,l⟩:=P i x v t D Q;refine⟨u,r,?_⟩;rcases l with l|⟨k,c,e,z⟩
  .exact .inl l
  .exact .inr ⟨k,c,e,g x c e _ z⟩
 .obtain⟨v,z⟩:=I.cell x c e;exact⟨v,g x c e v z⟩
 .obtain⟨m,⟨o,_,_,B,_⟩,_⟩:=I.loc;exact free _ o (fun z=>(f _ z).2.1 rfl) B I.free
 .obtain⟨v,o,B,hd⟩:=I.cell x c e;exact free c o (fun z=>(f c z).2.2.1 x c e rfl) B<|I.freeC x c e
 .obtain⟨e,n,ne,L,d⟩:=I.pin p J;have h:=fun z=>(f p.1 z).2.2.2 p J rfl;exact⟨keep p.1 p.2 ne L h e n,free p.1 p.2 h e n,ne,L,d⟩
def Inv.un{t':Nat}(I:Inv X pins σ H s)(u:Un X.fs [] H H' s.heap h')(hok:HOk X.prog X.w H' h'):Inv X pins σ H' { s with heap:=h',toks:=t' }:=by
 obtain⟨m,⟨o,es,ep,g,r⟩,_⟩:=id I.loc;obtain⟨sl,h⟩:=u.any g I.free 53
 exact I.step (ch:=[]) (fun _ z=>nomatch z) (fun b o _ c _ e n=>u.keep b o e n c 53) (fun b o _ c _ e n=>u.slot b o e n c 53) (fun b o _ e n=>u.free b o e n 53) (fun b o _ e=>u.there b o e 53) u.tups u.frzs u.tbls (fun j hm=>by
  obtain⟨o',d,f,a,i⟩:=hm;rw[g]at a;cases a;exact⟨_,d,f,h,i⟩) hok I.bare
def Inv.call{t':Nat}{d':Drawn}(I:Inv X pins σ H s)(u:Un (frs X.stack) ch H H' s.heap h')(hok:HOk X.prog X.w H' h')(l:AllBare j)
 (d:∀b∈ch,(b∈X.ex\/X.s₀.heap.objs.size<=b)/\b≠X.env.locals/\(∀x c,X.env.cells.lookup x=Z c->c≠b)/\∀p∈X.pn++pins,p.1≠b):
 Inv X pins σ H' { s with heap:=h',gens:=j,drawn:=d',toks:=t' }:=by
 obtain⟨m,⟨o,es,ep,k,r⟩,_⟩:=id I.loc;obtain⟨sl,g⟩:=u.any k I.free fun z=>(d _ z).2.1 rfl
 exact I.step d (fun b o g q a e n=>u.keep b o e n (fun z=>(B8.mp<|I.stkSub b z).elim g q) a) (fun b o _ _ a e n=>u.any e n a) (fun b o a e n=>u.free b o e n a) (fun b o a e=>u.there b o e a) u.tups u.frzs u.tbls (fun v hm=>by
  obtain⟨o',h,i,f,t⟩:=hm;rw[k]at f;cases f;exact⟨_,h,i,g,t⟩) hok l
def Inv.turned{t':Nat}{it:Uf}(I:Inv X pins σ H s)(k:∀b o,b≠it->s.heap.get? b=Z o->h'.get? b=Z o)(hn:H it=Y)(f:it≠X.env.locals)
 (g:it∈X.ex\/X.s₀.heap.objs.size<=it) (h:∀x c,X.env.cells.lookup x=Z c->c≠it) (i:∀p∈X.pn++pins,p.1≠it):Inv X pins σ H { s with heap:=h',toks:=t' }:=by
 have d:∀b u,H b=Z u->b≠it:=fun b u e z=>by rw[z,hn]at e;cases e
 refine I.step (ch:=[it]) (fun b l=>?_) (fun b o _ _ a e _=>k b o (fun z=>a (by simp[z])) e) (fun b o _ _ a e _=>⟨o.slots,k b o (fun z=>a (by simp[z])) e⟩) (fun _ _ _ _ n=>n)
  (fun b o a e=>⟨o,k b o (fun z=>a (by simp[z])) e⟩) (fun _ _ e=>e) (fun _ _ _ e=>e) (fun b ps e=>⟨#[],by rw[e];simp⟩) (fun m hm=>?_) (fun b u e=>?_) I.bare
 .have e:b=it:=54
  subst e;exact⟨g,f,h,i⟩
 .obtain⟨o,es,ep,j,r⟩:=hm;exact⟨o,es,ep,k _ o (S7 f) j,r⟩
 .refine(I.hok b u e).stay (fun c v a q=>k c v ?_ q) (fun _ q=>q) fun _ _ q=>q;rcases a with z|z
  .rw[z];exact d b u e
  .exact d c _ z
def Inv.tok(I:Inv X pins σ H s)(t:Nat):Inv X pins σ H { s with toks:=t }:=I.un Un.refl I.hok
def Inv.kept{t':Nat}(I:Inv X pins σ H s)(k:∀b u,s.heap.get? b=Z u->h'.get? b=Z u):Inv X pins σ H { s with heap:=h',toks:=t' }:=I.un (Un.kept k)<|I.hok.kept k
def Inv.laid{a:Uf}{t':Nat}(I:Inv X pins σ H s)(k:∀b u,s.heap.get? b=Z u->h'.get? b=Z u)(c:s.heap.objs.size<=a)(new:eG X.prog X.w (upd H a o) h' a o):
 Inv X pins σ (upd H a o) { s with heap:=h',toks:=t' }:=I.un (Un.laid k c<|I.hok.fresh c)<|I.hok.laid k c new
def Inv.write{e:Uf}{t':Nat}(I:Inv X pins σ H s)(c:Mut (H x))(d:e=x\/H e=Z (.own x))(k:∀b u,b≠e->s.heap.get? b=Z u->h'.get? b=Z u)(a:∃u,h'.get? e=Z u)
 (new:eG X.prog X.w (upd H x o) h' x o):Inv X pins σ (upd H x o) { s with heap:=h',toks:=t' }:=I.un (Un.write c d k a)<|I.hok.write c d k a new
def Inv.pins_of{a:T3}(I:Inv X pins σ H s)(h:∀p∈a,s.heap.get? p.1=Z p.2/\H p.1=Y/\p.1≠X.env.locals/\p.1∉X.fs/\∀v,p.2.data≠.cell v):Inv X a σ H s:=
 ⟨I.ok,I.os,I.bare,I.base,I.loc,I.cell,I.free,I.freeC,fun p b=>(C9.mp b).elim (fun z=>I.pin p<|D9 _ z) (h p),I.hok,I.len⟩
def BN{N:Te}(c:N.Nodup){i j:Nat}{x:Str}(a:N[i]?=Z x)(b:N[j]?=Z x):i=j:=by
 obtain⟨f,d⟩:=B3.mp a;obtain⟨g,e⟩:=B3.mp b;exact(List.getElem_inj c).mp (d.trans e.symm)
def yI{A:Ui}{i:Nat}{x:Str}{Q:Unit->Ue->Prop}(I:Inv X pins σ H s)(hN:X.N.Nodup)(hi:X.N[i]?=Z x)(l:Loc X.env.scope x)(r:RelV v u)
 (h:∀S,Inv X pins (σ.set i<|Z v) H S->(∃a,Heap.SameBut a s.heap S.heap/\(a=X.env.locals\/X.env.cells.lookup x=Z a))->Q () S) (hf:X.fn x=true\/X.env.scope.names.lookup x=Z .local:=by first|exact .inl rfl|exact .inr rfl|assumption):wpAny M A (storeName X.env x u) Q E s:=by
 obtain⟨m,hn,hl⟩:=id I.loc;have J:(X.env.scope.kind==.class || (X.env.scope.kind==.module&&X.env.locals != X.env.globals))=false:=by rw[I.ok.kind];rfl
 have C:i<σ.length:=by rw[I.len];exact(B3.mp hi).1
 have cne:=I.cne
 have f:∀{a:Uf}{h':Heap},(∃o,s.heap.get? a=Z o/\H a=Y)->Heap.SameBut a s.heap h'->HOk X.prog X.w H h':=fun{a h'} ha hs b ob e=>by
  obtain⟨_,_,t⟩:=ha;refine(I.hok b ob e).stay (fun c R hc q=>(hs.2 c ?_).trans q) (fun _ q=>q) fun _ _ q=>q;rintro rfl;rcases hc with rfl|hc
  .rw[t]at e;cases e
  .rw[t]at hc;cases hc
 rcases l with hk|hk
 .refine wpAny_storeName_local hk hn (fun h' T hs=>?_) J;obtain⟨oL,_,_,U,_⟩:=id hn;refine h _ ⟨I.ok,I.os,I.bare,⟨fun b o e n D l=>?_,fun b o e n D l=>?_,I.base.free,fun b o e l=>?_,I.base.tups,I.base.frzs,I.base.tbls⟩,⟨_,T,fun j y W g B e3=>?_⟩,fun y c e=>?_,I.free,I.freeC,fun p hp=>?_,f ⟨oL,U,I.free⟩ hs,by simpa using I.len⟩ ⟨_,hs,.inl rfl⟩
  .exact(hs.2 b<|C3<|C5 (B6 e) I.ok.above).trans (I.base.keep b o e n D l)
  .obtain⟨sl,g⟩:=I.base.slot b o e n D l;exact⟨sl,(hs.2 b<|C3<|C5 (B6 e) I.ok.above).trans g⟩
  .obtain⟨o',g⟩:=I.base.there b o e l;exact⟨o',(hs.2 b<|C3<|C5 (B6 e) I.ok.above).trans g⟩
  .by_cases F:j=i
   .subst F;rw[hi]at g;cases g;rw[E2 C]at B;cases B;exact⟨u,r,.inl ⟨hk,53⟩⟩
   .rw[E1 (S7 F)]at B;obtain⟨u',r',q⟩:=hl j y W g B e3;refine⟨u',r',?_⟩;rcases q with⟨k,e⟩|⟨k,c,e,z⟩
    .refine .inl ⟨k,?_⟩;have:y≠x:=fun e=>F<|BN hN g (e▸hi);simp[this,e]
    .exact .inr ⟨k,c,e,z.sameBut hs<|cne y c e⟩
  .obtain⟨R,z⟩:=I.cell y c e;exact⟨R,z.sameBut hs<|cne y c e⟩
  .obtain⟨e,n,ne,nf,d⟩:=I.pin p hp;exact⟨(hs.2 p.1 ne).trans e,n,ne,nf,d⟩
 .have G:X.fn x=true:=by
   rcases hf with z|z
   .exact z
   .rw[z]at hk;cases hk
  obtain⟨c,hc⟩:=I.ok.has x (.inl hk);obtain⟨R,z⟩:=I.cell x c hc;refine wpAny_storeName_cell I.ok.kind hk hc z (fun h' L hs=>?_);obtain⟨oc,O,a0⟩:=id z;refine h { s with heap:=h' } ⟨I.ok,I.os,I.bare,⟨fun b o e n D l=>?_,fun b o e n D l=>?_,I.base.free,fun b o e l=>?_,I.base.tups,I.base.frzs,I.base.tbls⟩,⟨m,hn.sameBut hs<|S7<|cne x c hc,fun j y W g B e3=>?_⟩,fun y c' e=>?_,I.free,I.freeC,fun p hp=>?_,f ⟨oc,O,I.freeC x c hc⟩ hs,by simpa using I.len⟩ ⟨c,hs,.inr hc⟩
  .exact(hs.2 b<|C3<|C5 (B6 e)<|I.ok.cab x c G hc).trans (I.base.keep b o e n D l)
  .obtain⟨sl,g⟩:=I.base.slot b o e n D l;exact⟨sl,(hs.2 b<|C3<|C5 (B6 e)<|I.ok.cab x c G hc).trans g⟩
  .obtain⟨o',g⟩:=I.base.there b o e l;exact⟨o',(hs.2 b<|C3<|C5 (B6 e)<|I.ok.cab x c G hc).trans g⟩
  .by_cases F:j=i
   .subst F;rw[hi]at g;cases g;rw[E2 C]at B;cases B;exact⟨u,r,.inr ⟨.inl hk,c,hc,L⟩⟩
   .rw[E1 (S7 F)]at B;obtain⟨u',r',q⟩:=hl j y W g B e3;refine⟨u',r',?_⟩;rcases q with q|⟨k,c',e,z'⟩
    .exact .inl q
    .refine .inr ⟨k,c',e,z'.sameBut hs ?_⟩;rintro rfl;exact F<|BN hN g (I.ok.inj _ _ _ e hc▸hi)
  .by_cases P:c'=c
   .subst P;exact⟨_,L⟩
   .obtain⟨w2,z2⟩:=I.cell y c' e;exact⟨w2,z2.sameBut hs P⟩
  .obtain⟨e,n,ne,nf,d⟩:=I.pin p hp;refine⟨(hs.2 p.1 ?_).trans e,n,ne,nf,d⟩;intro q;rw[q,O]at e;have q':=F0 e;exact d R 54
def rS{A:Ui}{i:Nat}{x:Str}{Q:Unit->Ue->Prop}(I:Inv X pins σ H s)(b:X.N.Nodup)(hi:X.N[i]?=Z x)(c:Loc X.env.scope x)(r:RelV v u)
 (h:∀a,Inv X pins (σ.set i<|Z v) H a->Q () a) (d:X.fn x=true\/X.env.scope.names.lookup x=Z .local:=by first|exact .inl rfl|exact .inr rfl|assumption):wpAny M A (storeName X.env x u) Q E s:=
 yI I b hi c r (fun a e _=>h a e) d
def Inv.call'{a:Ue}(I:Inv X pins σ H s)(f:a.os=s.os)(u:Un (frs X.stack) ch H H' s.heap a.heap)(hok:HOk X.prog X.w H' a.heap)(g:AllBare a.gens)
 (d:∀b∈ch,(b∈X.ex\/X.s₀.heap.objs.size<=b)/\b≠X.env.locals/\(∀x c,X.env.cells.lookup x=Z c->c≠b)/\∀p∈X.pn++pins,p.1≠b):Inv X pins σ H' a:=by
 obtain⟨h',h,i,j,o'⟩:=a;have e:=f;subst e;exact I.call u hok g d
end
abbrev XK:=Uc->Tk->Hp->Prop
abbrev St:=Ua<|Ub V
abbrev VK:=V->Hp->Prop
abbrev TE:=St->Hp->VK->Prop
abbrev TT:=St->Hp->(Bool->Hp->Prop)->Prop
abbrev TA:=St->Hp->(Tf->Hp->Prop)->Prop
structure Ends where
 nx:St->Hp->Prop
 rt:VK
 bk:St->Hp->Prop:=fun _ _=>False
 ct:St->Hp->Prop:=fun _ _=>False
abbrev TS:=Ends->St->Hp->Prop
def EP(X:Cx)(pins:T3)(σ:St)(Q:VK)(u:Uc)(a:Ue):Prop:=∃v H',Inv X pins σ H' a/\RelV v u/\Q v H'
def TP(X:Cx)(pins:T3)(σ:St)(Q:Bool->Hp->Prop)(b:Bool)(a:Ue):Prop:=∃H',Inv X pins σ H' a/\Q b H'
def AP(X:Cx)(pins:T3)(σ:St)(Q:Tf->Hp->Prop)(us:T6)(a:Ue):Prop:=∃vs H',Inv X pins σ H' a/\bE vs us/\Q vs H'
def SP(X:Cx)(pins:T3)(D:Ends)(f:Flow)(b:Ue):Prop:=
 match f with
 |.next=>∃a H',Inv X pins a H' b/\D.nx a H'
 |.brk=>∃a H',Inv X pins a H' b/\D.bk a H'
 |.cont=>∃a H',Inv X pins a H' b/\D.ct a H'
 |.ret u=>∃v a H',Inv X pins a H' b/\RelV v u/\D.rt v H'
def PE(X:Cx)(e:Ug)(t:TE):Prop:=
 ∀(pins:T3)(s:Ue)(σ:St)(H:Hp)(Q:VK),Inv X pins σ H s->t σ H Q->wpAny (model X.prog X.w) X.A (eval e X.env) (EP X pins σ Q) X.xe s
def PT(X:Cx)(e:Ug)(t:TT):Prop:=
 ∀(pins:T3)(s:Ue)(σ:St)(H:Hp)(Q:Bool->Hp->Prop),Inv X pins σ H s->t σ H Q->wpAny (model X.prog X.w) X.A (isTrue e X.env<|eval e X.env) (TP X pins σ Q) X.xe s
def PW(X:Cx)(e:Ug)(t:TT):Prop:=
 ∀(a:Sem Uc)(pins:T3)(s:Ue)(σ:St)(H:Hp)(Q:Bool->Hp->Prop),Inv X pins σ H s->t σ H Q->wpAny (model X.prog X.w) X.A (isTrue e X.env a) (TP X pins σ Q) X.xe s
def PW.pt(h:PW X e t):PT X e t:=h _
def PA(X:Cx)(es:Tb)(t:TA):Prop:=
 ∀(pos:Pos)(pins:T3)(s:Ue)(σ:St)(H:Hp)(Q:Tf->Hp->Prop),Inv X pins σ H s->t σ H Q->wpAny (model X.prog X.w) X.A (spliced<|backTo pos<|starEach es X.env) (AP X pins σ Q) X.xe s
def PS(X:Cx)(st:Stmt)(t:TS):Prop:=
 ∀(pins:T3)(s:Ue)(σ:St)(H:Hp)(D:Ends),Inv X pins σ H s->t D σ H->wpAny (model X.prog X.w) X.A (exec st X.env) (SP X pins D) X.xe s
def PSs(X:Cx)(st:Tc)(t:TS):Prop:=
 ∀(pins:T3)(s:Ue)(σ:St)(H:Hp)(D:Ends),Inv X pins σ H s->t D σ H->wpAny (model X.prog X.w) X.A (execs st X.env) (SP X pins D) X.xe s
def thn{b:Type}{t:Sem b}{Q c:b->Ue->Prop}{M:Model}{E:T2}{s:Ue}(h:wpAny M A t Q E s)(d:∀a s,Q a s->c a s):wpAny M A t c E s:=E5 h d fun _ _ x=>x
section
variable{X:Cx}
def bin{a b:Ug}{i tb:TE}(ha:PE X a i)(k:PE X b tb){pins:T3}{R:V->V->Hp->Prop}(I:Inv X pins σ H s)(h:i σ H fun x g=>tb σ g fun y c=>R x y c)
 {j:Type} {Q:j->Ue->Prop} {f:Uc->Uc->Sem j}
 (l:∀v u s2 x y c,Inv X pins σ c s2->RelV x v->RelV y u->R x y c->wpAny (model X.prog X.w) X.A (f v u) Q X.xe s2):
 wpAny (model X.prog X.w) X.A (eval a X.env) (fun v d=>wpAny (model X.prog X.w) X.A (eval b X.env) (fun u e=>wpAny (model X.prog X.w) X.A (f v u) Q X.xe e) X.xe d) X.xe s:=by
 refine thn (ha pins s σ H _ I h) fun v s1 ⟨x,g,m,n,o⟩=>?_;refine thn (k pins s1 σ g _ m o) fun u s2 ⟨y,c,p,q,r⟩=>?_;exact l v u s2 x y c p n q r
def aOH(i:Nat):TE:=fun σ H Q=>∃v,σ[i]?=Z (Z v)/\Q v H
def tC(v:V):TE:=fun _ H Q=>Q v H
def aKw{i:Nat}{x:Str}(g:X.N[i]?=Z x)(j:Vis X.env.scope x)(hd:(x==("__debug__":Str))=false:=by decide)(d:(x==("__classdict__":Str))=false:=by decide):PE X (.Name x pos) (aOH i):=by
 intro pins s σ H Q I h;obtain⟨v,e,h⟩:=h;obtain⟨m,hn,k⟩:=I.loc;obtain⟨u,r,l⟩:=k i x v g e j;have b:EP X pins σ Q u s:=⟨v,H,I,r,h⟩;rcases l with⟨hk,hm⟩|⟨hk,c,f,a⟩
 .exact wpAny_Name (wpAny_loadName_local I.ok.kind hk hn hm b) hd
 .rcases hk with hk|hk
  .exact wpAny_Name (wpAny_loadName_cell I.ok.kind hk f a b) hd
  .exact wpAny_Name (wpAny_loadName_free I.ok.kind hk f a b d) hd
def aMo{i j pos}:PE X (.Constant (.int i) j pos) (tC (.int i)):=fun _ _ _ H _ I h=>wpAny_Constant_int ⟨.int i,H,I.tok _,⟨_,rfl⟩,h⟩
def aOb{b j pos}:PE X (.Constant (.bool b) j pos) (tC (.bl b)):=fun _ _ _ H _ I h=>Constant_bool ⟨.bl b,H,I,rfl,h⟩
def aLj{j pos}:PE X (.Constant .none j pos) (tC .non):=fun _ _ _ H _ I h=>Constant_none ⟨.non,H,I,rfl,h⟩
def aKP{x j pos}:PE X (.Constant (.str x) j pos) (tC (.str x)):=fun _ _ _ H _ I h=>Calls.Constant_str ⟨.str x,H,I.tok _,⟨_,rfl⟩,h⟩
def Gl(X:Cx)(x:Str):Prop:=X.env.kindOf x=Z .globalImplicit
def tG{u:Uc}{pos:Pos}{Q:T2}(I:Inv X pins σ H s)(a:Gl X x)(hm:X.mg x=Z u)(h:Q u s)
 (hd:(x==("__debug__":Str))=false:=by decide):wpAny (model X.prog X.w) X.A (eval (.Name x pos) X.env) Q E s:=
 Calls.Name_function_global I.ok.kind a (Calls.loadGlobal_global (by rw[I.ok.glob];exact I.mod.glob.keeps I.bk) hm h) hd
def iH{u:Uc}{pos:Pos}{Q:T2}(I:Inv X pins σ H s)(a:Gl X x)(hm:X.mg x=Y)(b:bootBuiltins x=Z u)(h:Q u s)
 (hn:x≠"__name__":=by decide) (hd:(x==("__debug__":Str))=false:=by decide):wpAny (model X.prog X.w) X.A (eval (.Name x pos) X.env) Q E s:=by
 obtain⟨mb,c,d⟩:=I.mod.blt;exact Calls.Name_function_global I.ok.kind a (Calls.loadGlobal_builtin (by rw[I.ok.glob];exact I.mod.glob.keeps I.bk) hm (by rw[I.ok.blt];exact c.keeps I.bk) ((d x hn).trans b) h) hd
def WV{u:Uc}(a:Gl X x)(hm:X.mg x=Z u)(r:RelV v u)(hd:(x==("__debug__":Str))=false:=by decide):PE X (.Name x pos) (tC v):=
 fun _ _ _ H _ I h=>tG I a hm ⟨v,H,I,r,h⟩ hd
def AJ{u:Uc}(a:Gl X x)(hm:X.mg x=Y)(b:bootBuiltins x=Z u)(r:RelV v u)(hn:x≠"__name__":=by decide)(hd:(x==("__debug__":Str))=false:=by decide):PE X (.Name x pos) (tC v):=
 fun _ _ _ H _ I h=>iH I a hm b ⟨v,H,I,r,h⟩ hn hd
variable{a b:Ug}{ta tb:TE}{pos:Pos}
def PC(X:Cx)(op:CmpOp)(a b:Ug)(t:TE):Prop:=
 ∀(pins:T3)(s:Ue)(σ:St)(H:Hp)(Q:VK),Inv X pins σ H s->t σ H Q->
  wpAny (model X.prog X.w) X.A (eval a X.env) (fun v c=>wpAny (model X.prog X.w) X.A (eval b X.env) (fun u d=>wpAny (model X.prog X.w) X.A (compareOp op v u) (EP X pins σ Q) X.xe d) X.xe c) X.xe s
def aEi(b:Ug){op:CmpOp}(h:op≠.In)(e:op≠.NotIn):behindInMarks op b=false:=by
 have c:(op==CmpOp.In)=false:=54
 have d:(op==CmpOp.NotIn)=false:=54
 cases b<;>simp[behindInMarks,c,d]
def tB(t:TE):TT:=fun σ H Q=>t σ H fun x d=>∃c,x=.bl c/\Q c d
def UJ{op:CmpOp}{t:TE}(h:PC X op a b t)(e:behindInMarks op b=false:=by first|exact aEi _ 52 52|rfl):PT X (.Compare a [op] [b] pos) (tB t):=by
 intro pins s σ H Q I f;refine wpAny_isTrue_Compare1 (thn (h pins s σ H _ I f) fun v s1 e=>thn e fun u s2 g=>thn g fun c s3 ⟨x,i,j,k,l⟩=>?_) e;obtain⟨d,rfl,q⟩:=l;cases k;exact Z7 ⟨i,j,q⟩
def aLJ{e:Ug}{t:TE}(h:PE X e t)(f:∀c,isTrue e X.env c=(do let v <- c;standAt e.pos;holding [v]<|truthy v):=by intro _;rfl):PT X e (tB t):=by
 intro pins s σ H Q I g;refine isTrue_plain (thn (h pins s σ H _ I g) fun v s1 ⟨x,i,j,k,l⟩=>?_)<|f _;obtain⟨d,rfl,q⟩:=l;cases k;exact Z7 ⟨i,j,q⟩
variable{tA tB':TT}{rest:Tb}
def aMG(t u:TT):TT:=fun σ H Q=>t σ H fun c d=>if c=true then u σ d Q else Q false d
def tOr(t u:TT):TT:=fun σ H Q=>t σ H fun c d=>if c=true then Q true d else u σ d Q
def aOK(t:TT):TT:=fun σ H Q=>t σ H fun c d=>Q (!c) d
def aGD(ha:PT X a tA):PW X (.BoolOp .And [a] pos) tA:=by
 intro d pins s σ H Q I h;refine isTrue_and (thn (ha pins s σ H Q I h) fun c s1 e=>?_);cases c with
 |true=>exact isTrue_and_nil e
 |false=>exact e
def aKF(ha:PT X a tA):PW X (.BoolOp .Or [a] pos) tA:=by
 intro d pins s σ H Q I h;refine isTrue_or (thn (ha pins s σ H Q I h) fun c s1 e=>?_);cases c with
 |false=>exact isTrue_or_nil e
 |true=>exact e
def aKC(ha:PT X a tA)(g:PW X (.BoolOp .And (b::rest) pos) tB'):PW X (.BoolOp .And (a::b::rest) pos) (aMG tA tB'):=by
 intro i pins s σ H Q I h;refine isTrue_and (thn (ha pins s σ H _ I h) fun c s1 ⟨d,e,f⟩=>?_);cases c with
 |true=>exact g i pins s1 σ d Q e f
 |false=>exact⟨d,e,f⟩
def aOd(ha:PT X a tA)(g:PW X (.BoolOp .Or (b::rest) pos) tB'):PW X (.BoolOp .Or (a::b::rest) pos) (tOr tA tB'):=by
 intro i pins s σ H Q I h;refine isTrue_or (thn (ha pins s σ H _ I h) fun c s1 ⟨d,e,f⟩=>?_);cases c with
 |true=>exact⟨d,e,f⟩
 |false=>exact g i pins s1 σ d Q e f
def aJL(ha:PT X a tA):PT X (.UnaryOp .Not a pos) (aOK tA):=by
 intro pins s σ H Q I h;exact isTrue_not<|ha pins s σ H (fun c d=>Q (!c) d) I h
def aIf(ta tb:TE):TE:=fun σ H Q=>ta σ H fun x d=>∃c,x=.bl c/\if c=true then tb σ d Q else Q (.bl false) d
def aIs(ta:TE):TE:=fun σ H Q=>ta σ H fun x d=>∃c,x=.bl c/\Q (.bl (!c)) d
def aKk{op}(h:PE X a t):PE X (.BoolOp op [a] pos) t:=fun pins s σ H Q I c=>BoolOp_one<|h pins s σ H Q I c
def aIR(ha:PE X a ta)(g:PE X (.BoolOp .And (b::rest) pos) tb):PE X (.BoolOp .And (a::b::rest) pos) (aIf ta tb):=by
 intro pins s σ H Q I h;refine BoolOp_and (thn (ha pins s σ H _ I h) fun v s1 ⟨x,e,f,i,d⟩=>?_);obtain⟨c,rfl,d⟩:=d;cases i;refine Z7 ?_;cases c with
 |true=>exact g pins s1 σ e Q f d
 |false=>exact⟨.bl false,e,f,rfl,d⟩
def aLT(ha:PE X a ta):PE X (.UnaryOp .Not a pos) (aIs ta):=by
 intro pins s σ H Q I h;refine UnaryOp_ (thn (ha pins s σ H _ I h) fun v s1 ⟨x,e,f,g,d⟩=>?_);obtain⟨c,rfl,d⟩:=d;cases g;exact not_of<|Z7 ⟨.bl (!c),e,f,rfl,d⟩
end
def SqL(K:Fg)(H:Hp)(a:Uf)(xs:Tf):Prop:=
 Rd H a (.lst xs) \/
  ∃(o:Obj)(b:Tl)(n:Nat),K.lookup a=Z o/\o.cls=.type "list"/\o.dict=Y/\o.data=.seq b n/\b.size<=sizeLine/\bE xs b.toList
def SqT(K:Fg)(H:Hp)(a:Uf)(xs:Tf):Prop:=
 Rd H a (.tup xs) \/
  ∃(o:Obj)(b:Tl)(n:Nat),K.lookup a=Z o/\o.cls=.type "tuple"/\o.data=.seq b n/\b.size<=sizeLine/\bE xs b.toList
def aPw:Uc->Ub V
 |.none=>Z .non
 |.bool b=>Z (.bl b)
 |.int i _=>Z (.int i)
 |.str x _=>Z (.str x)
 |.bytes b _=>Z (.byt b)
 |.float b _=>Z (.flt b)
 |.ref a=>Z (.ref a)
 |.type n=>Z (.ty n)
 |_=>Y
def RelV.abs(r:RelV x u):aPw u=Z x:=by
 cases x with
 |non=>cases r;rfl
 |bl _=>cases r;rfl
 |int _=>obtain⟨t,rfl⟩:=r;rfl
 |str _=>obtain⟨t,rfl⟩:=r;rfl
 |byt _=>obtain⟨t,rfl⟩:=r;rfl
 |flt _=>obtain⟨t,rfl⟩:=r;rfl
 |ref _=>cases r;rfl
 |ty _=>cases r;rfl
def RelV.inj(r:RelV x u)(q:RelV y u):x=y:=F0<|r.abs.symm.trans q.abs
theorem bE.inj:∀{xs ys:Tf}{us:T6},bE xs us->bE ys us->xs=ys
 |_,_,_,.nil,.nil=>rfl
 |_,_,_,.cons r t,.cons a b=>by rw[r.inj a,bE.inj t b]
section
variable{X:Cx}{pins:T3}{σ:St}{H:Hp}{s:Ue}{a:Uf}{xs ys:Tf}
def SqL.of(h:H a=Z (.lst xs)):SqL K H a xs:=.inl (.inl h)
def SqT.of(h:H a=Z (.tup xs)):SqT K H a xs:=.inl (.inl h)
def Inv.list(I:Inv X pins σ H s)(h:SqL X.K H a xs):∃b:T6,bE xs b/\PlainL s.heap a b.toArray/\xs.length<=sizeLine:=by
 rcases h with h|⟨o,b,n,c,d,hd,hs,f,r⟩
 .obtain⟨z,b,n,r,e⟩:=h.ok I.hok;exact⟨b,r,⟨_,n,e,rfl,rfl,rfl⟩,z⟩
 .refine⟨b.toList,r,⟨o,n,I.kIn a o c,d,hd,by simpa using hs⟩,?_⟩;have e:=r.length;simp only[E8]at e;omega
def Inv.tuple(I:Inv X pins σ H s)(h:SqT X.K H a xs):∃b:T6,bE xs b/\IsTup s.heap a b.toArray/\xs.length<=sizeLine:=by
 rcases h with h|⟨o,b,n,c,d,hs,f,r⟩
 .obtain⟨z,b,r,p⟩:=h.ok I.hok;exact⟨b,r,p,z⟩
 .refine⟨b.toList,r,⟨o,I.kIn a o c,d,n,by simpa using hs⟩,?_⟩;have e:=r.length;simp only[E8]at e;omega
def Inv.list_inj(I:Inv X pins σ H s)(h:SqL X.K H a xs)(h':SqL X.K H a ys):xs=ys:=by
 obtain⟨c,r,⟨o,n,e,_,_,d⟩,_⟩:=I.list h;obtain⟨b,i,⟨o',j,f,_,_,g⟩,_⟩:=I.list h';rw[e]at f;cases f;rw[d]at g;injection g with k _
 have:c=b:=54
 subst this;exact r.inj i
def Inv.tuple_inj(I:Inv X pins σ H s)(h:SqT X.K H a xs)(h':SqT X.K H a ys):xs=ys:=by
 obtain⟨c,r,⟨o,e,_,n,d⟩,_⟩:=I.tuple h;obtain⟨b,i,⟨o',f,_,j,g⟩,_⟩:=I.tuple h';rw[e]at f;cases f;rw[d]at g;injection g with k _
 have:c=b:=54
 subst this;exact r.inj i
end
noncomputable abbrev Cx.wish(X:Cx)(E:T2):Cx:={ X with xe:=E }
abbrev Cx.nox(X:Cx):Cx:=X.wish fun _ _=>False
def Cx.Ok.wish{X:Cx}(ok:X.Ok)(E:T2):(X.wish E).Ok:=
 ⟨ok.mod,ok.kind,ok.glob,ok.blt,ok.above,ok.inj,ok.has,ok.cab,ok.hd,ok.frames,ok.stk,ok.exf,ok.bs,ok.bsz,ok.noex,ok.exfs,ok.funs,ok.frf⟩
def Cx.Ok.unwish{X:Cx}(ok:(X.wish E).Ok):X.Ok:=
 ⟨ok.mod,ok.kind,ok.glob,ok.blt,ok.above,ok.inj,ok.has,ok.cab,ok.hd,ok.frames,ok.stk,ok.exf,ok.bs,ok.bsz,ok.noex,ok.exfs,ok.funs,ok.frf⟩
section
variable{X:Cx}{pins:T3}{σ:St}{H:Hp}{s:Ue}{E:T2}
def Inv.wish(I:Inv X pins σ H s)(E:T2):Inv (X.wish E) pins σ H s:=⟨I.ok.wish E,I.os,I.bare,I.base,I.loc,I.cell,I.free,I.freeC,I.pin,I.hok,I.len⟩
def Inv.unwish(I:Inv (X.wish E) pins σ H s):Inv X pins σ H s:=⟨I.ok.unwish,I.os,I.bare,I.base,I.loc,I.cell,I.free,I.freeC,I.pin,I.hok,I.len⟩
def SP.unwish(h:SP (X.wish E) pins D f b):SP X pins D f b:=by
 cases f with
 |next=>obtain⟨a,H',I,q⟩:=h;exact⟨a,H',I.unwish,q⟩
 |brk=>obtain⟨a,H',I,q⟩:=h;exact⟨a,H',I.unwish,q⟩
 |cont=>obtain⟨a,H',I,q⟩:=h;exact⟨a,H',I.unwish,q⟩
 |ret u=>obtain⟨v,a,H',I,r,q⟩:=h;exact⟨v,a,H',I.unwish,r,q⟩
def PSs.nox{st:Tc}(h:PSs X.nox st t):PSs X st t:=fun pins s σ H D I a=>
 E5 (h pins s σ H D (I.wish _) a) (fun _ _ q=>q.unwish) fun _ _ z=>False.elim z
end
section
variable{X:Cx}{st:Stmt}{rest:Tc}{t u:TS}{e:Ug}{te:TE}{pos:Pos}
def aIm:TS:=fun D σ H=>D.nx σ H
def aJH(t u:TS):TS:=fun D σ H=>t { D with nx:=u D } σ H
def aFo:PSs X [] aIm:=fun _ _ σ H _ I h=>A2o ⟨σ,H,I,h⟩
def MP(b:PS X st t)(c:PSs X rest u):PSs X (st::rest) (aJH t u):=by
 intro pins s σ H D I h;refine wpAny_execs_cons (thn (b pins s σ H { D with nx:=u D } I h) fun f s1 q=>?_);cases f with
 |next=>
  obtain⟨a,H',d,q⟩:=q;exact c pins s1 a H' D d q
 |ret v=>exact q
 |brk=>exact q
 |cont=>exact q
def VG(a:PS X st t):PSs X [st] t:=by
 intro pins s σ H D I h;refine wpAny_execs_cons (thn (a pins s σ H D I h) fun f s1 q=>?_);cases f with
 |next=>exact A2o q
 |ret v=>exact q
 |brk=>exact q
 |cont=>exact q
def Inv.quiet(I:Inv X pins σ H s):interactive X.env=false:=by simp[interactive,I.ok.kind]
def aCP(te:TE):TS:=fun D σ H=>te σ H fun _ a=>D.nx σ a
def WQ(a:PE X e te)(hs:swapsWith e Y pos.line X.env=pure false:=by rfl):PS X (.Expr e pos) (aCP te):=by
 intro pins s σ H D I h;exact wpAny_Expr_any (thn (a pins s σ H _ I h) fun v s1 ⟨x,b,c,f,d⟩=>⟨σ,b,c,d⟩) I.quiet hs
def aNP(te:TE):TS:=fun D σ H=>te σ H D.rt
def aJQ(a:PE X e te):PS X (.Return (Z e) pos) (aNP te):=by
 intro pins s σ H D I h;exact wpAny_Return_some (thn (a pins s σ H _ I h) fun v s1 ⟨x,b,c,d,f⟩=>⟨x,σ,b,c,d,f⟩)
def aMs(c:TT)(t u:TS):TS:=fun D σ H=>c σ H fun b a=>if b=true then t D σ a else u D σ a
def aIJ{c:Ug}{a b:Tc}{f:TT}(k:PT X c f)(ha:PSs X a t)(l:PSs X b u):PS X (.If c a b pos) (aMs f t u):=by
 intro pins s σ H D I h;refine wpAny_If (thn (k pins s σ H _ I h) fun d s1 ⟨g,i,j⟩=>?_);cases d with
 |true=>exact ha pins s1 σ g D i j
 |false=>exact l pins s1 σ g D i j
def aBo:TS:=fun _ _ _=>False
def aBh:PS X st aBo:=fun _ _ _ _ _ _ h=>h.elim
end
abbrev TG:=V->St->Hp->(St->Hp->Prop)->Prop
abbrev TGs:=Tf->St->Hp->(St->Hp->Prop)->Prop
def PG(X:Cx)(a:Ug)(t:TG):Prop:=
 ∀(pins:T3)(s:Ue)(σ:St)(H:Hp)(v:V)(u:Uc)(Q:St->Hp->Prop),Inv X pins σ H s->RelV v u->t v σ H Q->
  wpAny (model X.prog X.w) X.A (assign a X.env u) (fun _ c=>∃b H',Inv X pins b H' c/\Q b H') X.xe s
def PGs(X:Cx)(ts:Tb)(t:TGs):Prop:=
 ∀(pins:T3)(s:Ue)(σ:St)(H:Hp)(vs:Tf)(us:T6)(Q:St->Hp->Prop),Inv X pins σ H s->bE vs us->t vs σ H Q->
  wpAny (model X.prog X.w) X.A (assignInOrder ((assignEach ts X.env).map (·.2)) us) (fun _ b=>∃a H',Inv X pins a H' b/\Q a H') X.xe s
abbrev aGJ:=V->V->V->Hp->(Hp->Prop)->Prop
def aLx(X:Cx)(t:aGJ):Prop:=
 ∀(pins:T3)(s:Ue)(σ:St)(H:Hp)(o i v:V)(a b u:Uc)(Q:Hp->Prop),Inv X pins σ H s->RelV o a->RelV i b->RelV v u->t o i v H Q->
  wpAny (model X.prog X.w) X.A (setItem a b u) (fun _ c=>∃H',Inv X pins σ H' c/\Q H') X.xe s
section
variable{X:Cx}{pos:Pos}
def NB(i:Nat):TG:=fun v σ H Q=>Q (σ.set i<|Z v) H
def aHO{i:Nat}{x:Str}(a:X.N.Nodup)(hi:X.N[i]?=Z x)(b:Loc X.env.scope x)(c:X.fn x=true\/X.env.scope.names.lookup x=Z .local:=by first|exact .inl rfl|exact .inr rfl|assumption):PG X (.Name x pos) (NB i):=by
 intro pins s σ H v u Q I r h;exact wpAny_assign_Name<|rS I a hi b r (fun e d=>⟨_,H,d,h⟩) c
def aNs:TGs:=fun vs σ H Q=>vs=[]/\Q σ H
def aIr(t:TG)(u:TGs):TGs:=fun vs σ H Q=>∃v r,vs=v::r/\t v σ H fun a H'=>u r a H' Q
def aGN:PGs X [] aNs:=by
 intro pins s σ H vs us Q I r h;obtain⟨e,h⟩:=h;subst e;cases r;exact assignInOrder_nil ⟨σ,H,I,h⟩
def aEk{e:Ug}{es:Tb}{t:TG}{u:TGs}(b:PG X e t)(c:PGs X es u)
 (hs:(assignEach (e::es) X.env).map (·.2)=assign e X.env::(assignEach es X.env).map (·.2):=by rfl):PGs X (e::es) (aIr t u):=by
 intro pins s σ H vs us Q I r h;obtain⟨v,k,d,h⟩:=h;subst d;cases r with
 |cons r f=>
  rw[hs];refine assignInOrder_cons (thn (b pins s σ H _ _ _ I r h) fun _ s1 ⟨a,g,i,j⟩=>?_);exact c pins s1 a g _ _ Q i f j
def aLz(K:Fg)(n:Nat)(t:TGs):TG:=fun v σ H Q=>∃a xs,v=.ref a/\SqT K H a xs/\xs.length=n/\t xs σ H Q
def aLD{n:Nat}(f:X.calm=true)(h:PGs X es t)
 (hn:(assignEach es X.env).length=n:=by rfl) (c:(assignEach es X.env).findIdx? (·.1)=Y:=by rfl):PG X (.Tuple es k pos) (aLz X.K n t):=by
 intro pins s σ H v u Q I r d;obtain⟨a,xs,g,i,j,d⟩:=d;subst g;cases r;obtain⟨l,m,ht,w⟩:=I.tuple i;refine assign_Tuple_tuple (I.ok.hd f) ht (by simp[hn,<- j,m.length]) c fun h' p=>?_;have q:=I.kept (t':=s.toks) fun b o e=>p b o (C3<|B6 e) e;exact h pins _ σ H xs _ Q q 50 d
def aOD(to a:TE)(t:aGJ):TG:=fun v σ H Q=>to σ H fun o b=>a σ b fun i c=>t o i v c fun d=>Q σ d
def aIO{o i:Ug}{to c:TE}{t:aGJ}(d:PE X o to)(hi:PE X i c)(hs:aLx X t)
 (ha:∀v,assign (.Subscript o i pos) X.env v=(do
  let a <- holding [v] (eval o X.env);let b <- holding [v,a] (eval i X.env)
  standAt pos
  holding [v,a,b] (setItem a b v)
  release [v,a,b] []):=by intro _;rfl):PG X (.Subscript o i pos) (aOD to c t):=by
 intro pins s σ H v u Q I r h;refine A0<|J8 (thn (d pins s σ H _ I h) fun a s1 ⟨x,e,f,g,j⟩=>?_);refine A0<|J8 (thn (hi pins s1 σ e _ f j) fun b s2 ⟨y,k,l,m,n⟩=>?_);refine A0<|Y6<|A0<|J8 (thn (hs pins s2 σ k x y v a b u _ l g m r n) fun _ s3 ⟨p,q,w⟩=>?_);exact wpAny_release ⟨σ,p,q,w⟩
def aBw(a:TE)(g:TG):TS:=fun D σ H=>a σ H fun x b=>g x σ b D.nx
def aKD{tg e:Ug}{a:TE}{g:TG}(b:PE X e a)(c:PG X tg g)(hs:swapsWithSole [tg] e pos.line X.env=pure false:=by rfl)(d:swappedStores [tg] e X.env=pure Y:=by rfl)
 (f:(assignEach [tg] X.env).map (·.2)=[assign tg X.env]:=by rfl):PS X (.Assign [tg] e pos) (aBw a g):=by
 intro pins s σ H D I h;refine wpAny_Assign_stores (thn (b pins s σ H _ I h) fun v s1 ⟨x,i,j,k,l⟩=>?_) hs d;rw[f];exact thn (c pins s1 σ i x v _ j k l) fun _ s2 q=>q
def aMk{i:Nat}{x:Str}{e:Ug}{a:TE}{pos':Pos}(b:X.N.Nodup)(hi:X.N[i]?=Z x)(c:Loc X.env.scope x)(d:PE X e a)(hs:swapsWith e (Z (.Name x pos')) pos.line X.env=pure false:=by rfl)(f:X.fn x=true\/X.env.scope.names.lookup x=Z .local:=by first|exact .inl rfl|exact .inr rfl|assumption):
 PS X (.Assign [.Name x pos'] e pos) (aBw a<|NB i):=by
 intro pins s σ H D I h;refine wpAny_Assign_Name (thn (d pins s σ H _ I h) fun v s1 ⟨y,g,j,k,l⟩=>?_) hs;exact rS j b hi c k (fun s2 m=>⟨_,g,m,l⟩) f
def aNh(i j:Nat)(a:TA):TS:=fun D σ H=>a σ H fun vs b=>∃v w,vs=[v,w]/\D.nx ((σ.set i<|Z v).set j (Z w)) b
def aKL{i j:Nat}{x y:Str}{a b:Ug}{n:TA}{kt k2 pt2}(C:X.calm=true)(r:X.N.Nodup)(hi:X.N[i]?=Z x)(E:X.N[j]?=Z y)(g:i≠j)
 (t:X.env.scope.names.lookup x=Z .local) (u:X.env.scope.names.lookup y=Z .local) (ha:PA X [a,b] n)
 (F:swappedStores [.Tuple [.Name x d,.Name y f] kt pt] (.Tuple [a,b] k2 pt2) X.env=pure (Z [x,y]))
 (hs:swapsWithSole [.Tuple [.Name x d,.Name y f] kt pt] (.Tuple [a,b] k2 pt2) pos.line X.env=pure false:=by rfl):
 PS X (.Assign [.Tuple [.Name x d,.Name y f] kt pt] (.Tuple [a,b] k2 pt2) pos) (aNh i j n):=by
 intro pins s σ H D I h;refine A0<|Y6 ?_;refine A0<|A3 ?_;refine A0<|Tuple_ (thn (ha _ pins s σ H _ I h) fun us s1 ⟨vs,z,G,J,k⟩=>?_);obtain⟨v,w,L,k⟩:=k;subst L
 obtain⟨u1,c,rfl,M,l⟩:∃u1 c,us=[u1,c]/\RelV v u1/\RelV w c:=by
  cases J with
  |cons p q=>
   cases q with
   |cons O q'=>
    cases q';exact⟨_,_,rfl,p,O⟩
 refine E4 ?_ (by show 2<=sizeLine;decide);have P:Inv X pins σ z { s1 with heap:=s1.heap.push { cls:=.type "tuple",data:=.seq [u1,c].toArray } }:=G.kept fun b o e=>A2 _ e;rw[F];refine A0<|A3 ?_;refine A0<|A2e<|A0 (unpackItems_tuple (items:=#[u1,c]) (I.ok.hd C) (IsTup.new s1.heap _) fun h' m=>?_);have Q:=P.kept (t':=s1.toks) fun b o e=>m b o (C3<|B6 e) e;refine A0<|assignInOrder_cons<|wpAny_bindName<|rS Q r E (.inl u) l (fun s2 R=>?_) (.inr u);refine assignInOrder_cons<|wpAny_bindName<|rS R r hi (.inl t) M (fun s3 B=>assignInOrder_nil<|A3 ?_) (.inr t);rw[List.set_comm _ _ (S7 g)]at B;exact⟨_,z,B,k⟩
end
section
variable{X:Cx}{pos:Pos}
def aBH(c:TT)(tb:TS):TS:=fun D σ H=>∃W:Nat->St->Hp->Prop,(∃m,W m σ H)/\∀m σ H,W m σ H->
 c σ H fun b d=>if b=true then ∃N:St->Hp->Prop,(∀a H',N a H'->∃e,e<m/\W e a H')/\tb { D with nx:=N,ct:=N,bk:=D.nx } σ d else D.nx σ d
def aDN(t:PassesOwn (model X.prog X.w) X.A X.env X.xe)(B:PT X c r)(C:PSs X e tb):PS X (.While c e [] pos) (aBH r tb):=by
 intro pins s σ H D I h;obtain⟨W,⟨E,F⟩,g⟩:=h;refine wpAny_While<|codeAny_whileLoop (fun n G=>∃i H',Inv X pins i H' G/\W n i H') ?_ E ⟨σ,H,I,F⟩;rintro n s1 ⟨d,u,J,L⟩;refine A1c t (thn (B pins s1 d u _ J<|g n d u L) fun b s2 ⟨x,y,k⟩=>?_);cases b with
 |true=>
  obtain⟨N,z,k⟩:=k;refine A1c t (thn (C pins s2 d x _ y k) fun f s3 l=>?_);cases f with
  |next=>
   obtain⟨a,j,m,o⟩:=l;obtain⟨p,hm,q⟩:=z a j o;exact⟨p,hm,a,j,m,q⟩
  |cont=>
   obtain⟨a,j,m,o⟩:=l;obtain⟨p,hm,q⟩:=z a j o;exact⟨p,hm,a,j,m,q⟩
  |brk=>exact l
  |ret v=>exact l
 |false=>
  exact A2o ⟨d,x,y,k⟩
end
structure It where
 go:Nat->Hp->Prop
 yld:Nat->Hp->V->Hp->Prop
 stop:Nat->Hp->Prop
def lD(X:Cx)(pins:T3)(H:Hp)(b:Uf):Prop:=
 H b=Y/\b≠X.env.locals/\b∉X.fs/\(b∈X.ex\/X.s₀.heap.objs.size<=b)/\(∀x c,X.env.cells.lookup x=Z c->c≠b)/\∀p∈X.pn++pins,p.1≠b
def Inv.fpOk{H':Hp}{b:Uf}(I:Inv X pins σ H s)(a:s.heap.objs.size<=b)(hn:H' b=Y):lD X pins H' b:=by
 refine⟨hn,O7<|C5 I.lt a,I.nofs a,.inr (E6 I.sz a),fun x c e z=>?_,fun p d z=>?_⟩
 .obtain⟨v,q⟩:=I.cell x c e;exact absurd (C5 q.lt 54)<|Y2 _
 .exact absurd (C5 (B6 (I.pin p d).1) 54)<|Y2 _
structure Turn(P:Uh)(w:World)(K:Fg)(tg:Ug)(J:It)(fp:Td)(it:Uf)(tn:Nat->Heap->Prop):Prop where
 mem:it∈fp
 obj:∀i h,tn i h->∀b∈fp,∃o,h.get? b=Z o/\∀v,o.data≠.cell v
 keep:∀i h h',tn i h->(∀b∈fp,∀o,h.get? b=Z o->h'.get? b=Z o)->tn i h'
 item:∀(X:Cx),X.prog=P->X.w=w->X.K=K->X.calm=true->∀(i:Nat)(pins:T3)(s:Ue)(σ:St)(H:Hp)(E:T2),Inv X pins σ H s->(∀b∈fp,lD X pins H b)->tn i s.heap->J.go i H->
  wpAny (model P w) X.A (pyNext (.ref it)) (fun r s1=>∃u,r=Z u /\
   wpAny (model P w) X.A (letOwnedTupleGo tg (.ref it) u) (fun _ s2=>∃x H',Inv X pins σ H' s2/\RelV x u/\J.yld i H x H'/\tn (i+1) s2.heap/\∀b∈fp,H' b=Y) E s1) E s
 done:∀(X:Cx),X.prog=P->X.w=w->X.K=K->X.calm=true->∀(i:Nat)(pins:T3)(s:Ue)(σ:St)(H:Hp)(E:T2),Inv X pins σ H s->(∀b∈fp,lD X pins H b)->tn i s.heap->J.stop i H->
  wpAny (model P w) X.A (pyNext (.ref it)) (fun r s1=>r=Y/\Inv X pins σ H s1) E s
 self:∀(A:Ui)(i:Nat)(s:Ue)(Q:T2)(E:T2),tn i s.heap->Q (.ref it) s->wpAny (model P w) A (pyIter (.ref it)) Q E s
abbrev TI:=St->Hp->(It->Hp->Prop)->Prop
def PIE(X:Cx)(pins:T3)(σ:St)(tg:Ug)(R:It->Hp->Prop)(a:Uc)(s2:Ue):Prop:=
 ∃(it:Uf)(fp:Td)(tn:Nat->Heap->Prop)(J:It)(H':Hp),a=.ref it/\Inv X pins σ H' s2/\Turn X.prog X.w X.K tg J fp it tn/\tn 0 s2.heap/\(∀b∈fp,lD X pins H' b)/\R J H'
def PI(X:Cx)(tg a:Ug)(b:TI):Prop:=
 ∀(pins:T3)(s:Ue)(σ:St)(H:Hp)(R:It->Hp->Prop),Inv X pins σ H s->b σ H R->
  wpAny (model X.prog X.w) X.A (eval a X.env) (fun v s1=>wpAny (model X.prog X.w) X.A (pyIter v) (PIE X pins σ tg R) X.xe s1) X.xe s
def UX{A:Ui}{it:Uf}{o:Obj}{Q:Unit->Ue->Prop}(b:s.heap.get? it=Z o)(c:o.cls=.type n)(hd:o.data=.fields vs)
 (hn:["enumerate","zip","dict_itemiterator","dict_reverseitemiterator","odict_iterator","itertools.zip_longest","itertools.pairwise"].contains n=false) (a:Q () s):wpAny M A (letOwnedTupleGo tg (.ref it) u) Q E s:=by
 cases tg<;>first
  |exact A3 a
  |(cases u<;>first
   |exact A3 a
   | (refine A0 (wpAny_load b ?_)
      rw[c,hd];show wpAny M A (if (["enumerate","zip","dict_itemiterator","dict_reverseitemiterator","odict_iterator","itertools.zip_longest","itertools.pairwise"].contains n&&vs[0]?==Z (rawInt _))=true then _ else _) Q E s;rw[B7 54];exact A3 a))
def Itl(K:Fg)(a:Uf):It:=
 ⟨fun i H=>∃xs x,SqL K H a xs/\xs[i]?=Z x,fun i H x H'=>H'=H/\∀xs,SqL K H a xs->xs[i]?=Z x,fun i H=>∃xs,SqL K H a xs/\xs.length<=i⟩
def Itt(K:Fg)(a:Uf):It:=
 ⟨fun i H=>∃xs x,SqT K H a xs/\xs[i]?=Z x,fun i H x H'=>H'=H/\∀xs,SqT K H a xs->xs[i]?=Z x,fun i H=>∃xs,SqT K H a xs/\xs.length<=i⟩
noncomputable def Itr(lo:Int)(n:Nat):It:=⟨fun i _=>i<n,fun i H x H'=>H'=H/\x=.int (lo+i),fun i _=>n<=i⟩
def ZY{P:Uh}(a it:Uf):Turn P w K tg (Itl K a) [it] it (fun i h=>h.IsListIter it a i) where
 mem:=53
 obj:=fun i h st b hb=>by
  have e:b=it:=54
  subst e;obtain⟨o,e,c,d⟩:=st;exact⟨o,e,fun v z=>by rw[d]at z;cases z⟩
 keep:=fun i h h' st k=>st.at fun o e=>k it 53 o e
 item:=by
  intro X hP hw hK hc i pins s σ H E I hf st hg;subst hP hw hK;obtain⟨xs,x,hq,hx⟩:=hg;obtain⟨its,rv,p,hz⟩:=I.list hq;obtain⟨u,hu,ru⟩:=rv.get hx;obtain⟨f0,f1,f2,f3,f4,f5⟩:=hf it 53;refine wpAny_pyNext_list_item st p.isList (by simp;omega) fun h' st' sb=>?_;have I1:=I.turned (t':=s.toks) (fun b o hb e=>(sb.2 b hb).trans e) f0 f1 f3 f4 f5;obtain⟨o,e,c,d⟩:=id st';exact⟨u,rfl,UX e c d 52 ⟨x,H,I1,ru,⟨rfl,fun ys hy=>by rw[I.list_inj hy hq];exact hx⟩,st',fun b hb=>(hf b hb).1⟩⟩
 done:=by
  intro X hP hw hK hc i pins s σ H E I hf st hg;subst hP hw hK;obtain⟨xs,hq,hx⟩:=hg;obtain⟨its,rv,p,hz⟩:=I.list hq;obtain⟨f0,f1,f2,f3,f4,f5⟩:=hf it 53;have hl:=rv.length;exact wpAny_pyNext_list_end (I.ok.hd hc) st p.isList 54 fun h' eb=>⟨rfl,I.turned (fun b o hb e=>eb b o hb e) f0 f1 f3 f4 f5⟩
 self:=fun _ _ _ _ _ st h=>wpAny_pyIter_listiter st h
def UI{P:Uh}(a it:Uf):Turn P w K tg (Itt K a) [it] it (fun i h=>h.IsTupleIter it a i) where
 mem:=53
 obj:=fun i h st b hb=>by
  have e:b=it:=54
  subst e;obtain⟨o,e,c,d⟩:=st;exact⟨o,e,fun v z=>by rw[d]at z;cases z⟩
 keep:=fun i h h' st k=>st.at fun o e=>k it 53 o e
 item:=by
  intro X hP hw hK hc i pins s σ H E I hf st hg;subst hP hw hK;obtain⟨xs,x,hq,hx⟩:=hg;obtain⟨its,rv,p,hz⟩:=I.tuple hq;obtain⟨u,hu,ru⟩:=rv.get hx;obtain⟨f0,f1,f2,f3,f4,f5⟩:=hf it 53;refine wpAny_pyNext_tuple_item st p (by simp;omega) fun h' st' sb=>?_;have I1:=I.turned (t':=s.toks) (fun b o hb e=>(sb.2 b hb).trans e) f0 f1 f3 f4 f5;obtain⟨o,e,c,d⟩:=id st';exact⟨u,rfl,UX e c d 52 ⟨x,H,I1,ru,⟨rfl,fun ys hy=>by rw[I.tuple_inj hy hq];exact hx⟩,st',fun b hb=>(hf b hb).1⟩⟩
 done:=by
  intro X hP hw hK hc i pins s σ H E I hf st hg;subst hP hw hK;obtain⟨xs,hq,hx⟩:=hg;obtain⟨its,rv,p,hz⟩:=I.tuple hq;obtain⟨f0,f1,f2,f3,f4,f5⟩:=hf it 53;have hl:=rv.length;exact wpAny_pyNext_tuple_end (I.ok.hd hc) st p 54 fun h' eb=>⟨rfl,I.turned (fun b o hb e=>eb b o hb e) f0 f1 f3 f4 f5⟩
 self:=fun _ _ _ _ _ st h=>wpAny_pyIter_tupleiter st h
def SQ{P:Uh}(it:Uf)(lo:Int)(n:Nat):Turn P w K tg (Itr lo n) [it] it (fun i h=>IsRangeIter h it (lo+(i:Nat)*1) ((n:Int)-(i:Nat)) 1) where
 mem:=53
 obj:=fun i h st b hb=>by
  have e:b=it:=54
  subst e
  exact⟨_,st,fun v z=>by
   have z':=z;cases z'⟩
 keep:=fun i h h' st k=>k it 53 _ st
 item:=by
  intro X hP hw hK hc i pins s σ H E I hf st hg;subst hP hw hK;obtain⟨f0,f1,f2,f3,f4,f5⟩:=hf it 53;have W:=Walks.range (prog:=X.prog) (w:=X.w) (I.ok.hd hc) it lo 1 n;refine W.item i s _ _ hg st fun v h' tk hv st' kk=>?_;obtain⟨t,rfl⟩:=hv;have I1:Inv X pins σ H { s with heap:=h',toks:=tk }:=I.turned (fun b o hb e=>kk b o 54 e) f0 f1 f3 f4 f5;refine⟨_,rfl,UX st' rfl rfl 52 ⟨.int (lo+i),H,I1,⟨t,?_⟩,⟨rfl,rfl⟩,st',fun b hb=>(hf b hb).1⟩⟩;rw[Int.mul_one]
 done:=by
  intro X hP hw hK hc i pins s σ H E I hf st hg;subst hP hw hK;obtain⟨f0,f1,f2,f3,f4,f5⟩:=hf it 53;exact wpAny_pyNext_range_end (I.ok.hd hc) st (by have:n<=i:=hg;omega) fun h' eb=>⟨rfl,I.turned (fun b o hb e=>eb b o hb e) f0 f1 f3 f4 f5⟩
 self:=fun _ _ _ _ _ st h=>wpAny_pyIter_rangeiter st h
section
variable{X:Cx}{tg:Ug}
def MR{R:It->Hp->Prop}{E:T2}{lo hi:Int}{t u v:Tok}{tk:Nat}(I:Inv X pins σ H s)(c:-(2 ^ 62)<=lo)(d:lo<2 ^ 62)(f:-(2 ^ 62)<=hi)(g:hi<2 ^ 62)
 (q:R (Itr lo (hi-lo).toNat) H):wpAny (model X.prog X.w) X.A (pyIter (.ref s.heap.objs.size)) (PIE X pins σ tg R) E { s with heap:=s.heap.push { cls:=.type "range",data:=.fields #[.int lo t,.int hi u,.int 1 v] },toks:=tk }:=by
 refine wpAny_pyIter_range (IsRange.new ..) (small_one c d f g) ?_;have a:Inv X pins σ H { s with heap:=s.heap.push { cls:=.type "range",data:=.fields #[.int lo t,.int hi u,.int 1 v] },toks:=tk }:=I.kept fun b o e=>A2 _ e
 refine⟨(s.heap.push { cls:=.type "range",data:=.fields #[.int lo t,.int hi u,.int 1 v] }).objs.size,[(s.heap.push { cls:=.type "range",data:=.fields #[.int lo t,.int hi u,.int 1 v] }).objs.size],_,_,H,rfl,
  a.kept fun b o e=>A2 _ e,SQ _ lo (hi-lo).toNat,?_,fun b j=>?_,q⟩
 .have h:lo+((0:Nat):Int)*1=lo:=53
  have i:(((hi-lo).toNat:Nat):Int)-((0:Nat):Int)=Builtin.Range.rangeSize lo hi 1:=by rw[rangeSize_one];split<;>omega
  rw[h,i];exact C2 _ rfl
 .have e:b=(s.heap.push { cls:=.type "range",data:=.fields #[.int lo t,.int hi u,.int 1 v] }).objs.size:=54
  subst e;exact a.fpOk (A8 _)<|a.hok.fresh<|A8 _
def aIa(a:TA):TI:=fun σ H R=>a σ H fun vs b=>∃j:Int,vs=[.int j]/\-(2 ^ 62)<=j/\j<2 ^ 62/\R (Itr 0 j.toNat) b
def aIp(a:TA):TI:=fun σ H R=>a σ H fun vs b=>∃i j:Int,vs=[.int i,.int j]/\(-(2 ^ 62)<=i/\i<2 ^ 62/\-(2 ^ 62)<=j/\j<2 ^ 62)/\R (Itr i (j-i).toNat) b
def aAB{a:Ug}{c:TA}{p:Pos}(d:Gl X "range")(hm:X.mg "range"=Y)(ha:PA X [a] c)(hs:starEach [a] X.env=[(false,eval a X.env)]:=by rfl):PI X tg (.Call (.Name "range" p) [a] [] pos) (aIa c):=by
 intro pins s σ H R I h;refine Call_<|iH I d hm boot_range<|U6 (thn (ha pos pins s σ H _ I h) fun us s1 ⟨vs,l,f,g,b⟩=>?_) hs rfl;obtain⟨j,e,b,i,q⟩:=b;subst e;cases g with
 |cons r k=>
  cases k;obtain⟨t,rfl⟩:=r;exact call_range_1<|MR f 50 50 b i 54
def ZL{a b:Ug}{g:TA}{p pos:Pos}(k:Gl X "range")(hm:X.mg "range"=Y)(ha:PA X [a,b] g)(hs:starEach [a,b] X.env=[(false,eval a X.env),(false,eval b X.env)]:=by rfl)(c:starEach [b] X.env=[(false,eval b X.env)]:=by rfl):
 PI X tg (.Call (.Name "range" p) [a,b] [] pos) (aIp g):=by
 intro pins s σ H R I h;refine Call_<|iH I k hm boot_range<|U6 (thn (ha pos pins s σ H _ I h) fun us s1 ⟨vs,w,l,m,d⟩=>?_) 54 (by rw[c];rfl);obtain⟨i,j,e,⟨d,n,o,u⟩,q⟩:=d;subst e;cases m with
 |cons r f=>
  cases f with
  |cons v f=>
   cases f;obtain⟨t,rfl⟩:=r;obtain⟨x,rfl⟩:=v;exact call_range_2<|MR l d n o u q
def aOu(d:TI)(g:TG)(tb:TS):TS:=fun D σ H=>d σ H fun J e=>∃W:Nat->Nat->St->Hp->Prop,(∃m,W 0 m σ e)/\∀i m σ H,W i m σ H->
 (J.stop i H/\D.nx σ H)\/(J.go i H/\∃N:St->Hp->Prop,(∀a H',N a H'->∃c,c<m/\W (i+1) c a H')/\∀x H',J.yld i H x H'->g x σ H' fun b f=>tb { D with nx:=N,ct:=N,bk:=D.nx } b f)
noncomputable def pE(fp:Td)(h:Heap):T3:=fp.filterMap fun b=>(h.get? b).map fun o=>(b,o)
def cN{fp:Td}{h:Heap}{b:Uf}{o:Obj}(a:b∈fp)(e:h.get? b=Z o):(b,o)∈pE fp h:=A0a.mpr ⟨b,a,by rw[e];rfl⟩
def HG{p:Uf×Obj}(a:p∈pE fp h):p.1∈fp/\h.get? p.1=Z p.2:=by
 obtain⟨b,c,e⟩:=A0a.mp a;cases q:h.get? b with
 |none=>rw[q]at e;cases e
 |some o=>
  rw[q]at e;have d:=F0 e;subst d;exact⟨c,q⟩
def Inv.pinned{fp:Td}(I:Inv X pins σ H s)(f:∀b∈fp,lD X pins H b)(g:∀b∈fp,∃o,s.heap.get? b=Z o/\∀v,o.data≠.cell v):Inv X (pins++pE fp s.heap) σ H s:=
 I.pins_of fun p h=>(C9.mp h).elim (fun z=>I.pin p<|B5 _ z) fun z=>by
  obtain⟨a,e⟩:=HG z;obtain⟨f0,f1,f2,_⟩:=f p.1 a;obtain⟨o,c,d⟩:=g p.1 a;rw[e]at c;cases c;exact⟨e,f0,f1,f2,d⟩
def Inv.unpinned{pins a:T3}(I:Inv X (pins++a) σ H s):Inv X pins σ H s:=I.pins_of fun p b=>I.pin p<|B5 _<|D9 _ b
def aKT{c:Ug}{y:Tc}{V:TI}{g:TG}{tb:TS}{pos:Pos}(C:PassesOwn (model X.prog X.w) X.A X.env X.xe)(hc:X.calm=true)(hi:PI X tg c V)(hg:PG X tg g)(j:PSs X y tb)
 (hs:∀x,foldedSetIterable c X.env x=pure x:=by intro _;rfl):PS X (.For tg c y [] pos) (aOu V g tb):=by
 intro pins s σ H D I h;refine wpAny_For (thn (hi pins s σ H _ I h) fun v s1 h1=>thn h1 fun a0 s2 h2=>?_) hs;obtain⟨it,fp,tn,J,H2,e,I2,T,O,f2,W,⟨m0,w0⟩,E⟩:=h2;subst e;have k:∀{H':Hp},(∀b∈fp,H' b=Y)->∀b∈fp,lD X pins H' b:=fun hn b j=>⟨hn b j,(f2 b j).2⟩;refine codeAny_forLoop_any (fun n s'=>∃i l H',Inv X pins l H' s'/\tn i s'.heap/\(∀b∈fp,H' b=Y)/\W i n l H') ?_ m0 ⟨0,σ,H2,I2,O,fun b j=>(f2 b j).1,w0⟩;rintro n s3 ⟨i,p,M,I3,F,G,w3⟩;rcases E i n p M w3 with⟨stop,qn⟩|⟨go,N,hN,step⟩
 .refine A1c C (thn (T.done X rfl rfl rfl hc i pins s3 p M X.xe I3 (k G) F stop) fun r s4 ⟨P,I4⟩=>?_);subst P;exact A2o ⟨p,M,I4,qn⟩
 .refine A1c C (thn (T.item X rfl rfl rfl hc i pins s3 p M X.xe I3 (k G) F go) fun r s4 ⟨u,P,h4⟩=>?_);subst P;refine A1c C (thn h4 fun _ s5 ⟨x,H5,I5,r5,y5,B,Q⟩=>?_);have R:=I5.pinned (k Q)<|T.obj _ _ B;refine A1c C (thn (hg _ s5 p H5 x u _ R r5<|step x H5 y5) fun _ s6 ⟨S,H6,I6,q6⟩=>?_);refine A1c C (thn (j _ s6 S H6 _ I6 q6) fun f U z=>?_)
  have again:∀{a:St}{q:Hp},Inv X (pins++pE fp s5.heap) a q U->N a q->∃m,m<n/\∃i l H',Inv X pins l H' U/\tn i U.heap/\(∀b∈fp,H' b=Y)/\W i m l H':=fun{a q} t L=>by
   obtain⟨m',hm,w7⟩:=hN a q L;refine⟨m',hm,i+1,a,q,t.unpinned,T.keep _ _ _ B fun b j o e=>(t.pin (b,o)<|B5 _<|B5 _<|cN j e).1,fun b j=>?_,w7⟩;obtain⟨o,e,d⟩:=T.obj _ _ B b j;exact(t.pin (b,o)<|B5 _<|B5 _<|cN j e).2.1
  cases f with
  |next=>obtain⟨a,q,t,L⟩:=z;exact again t L
  |cont=>obtain⟨a,q,t,L⟩:=z;exact again t L
  |brk=>obtain⟨a,q,t,z⟩:=z;exact⟨a,q,t.unpinned,z⟩
  |ret v=>obtain⟨x7,a,q,t,r7,z⟩:=z;exact⟨x7,a,q,t.unpinned,r7,z⟩
end
abbrev R2:=V->V->Hp->VK->Prop
def OpR(X:Cx)(f:Tt)(r:R2):Prop:=
 ∀(pins:T3)(s:Ue)(σ:St)(H:Hp)(x y:V)(v u:Uc)(Q:VK),Inv X pins σ H s->RelV x v->RelV y u->r x y H Q->
  wpAny (model X.prog X.w) X.A (f v u) (EP X pins σ Q) X.xe s
def UnR(X:Cx)(f:Uc->Sem Uc)(r:V->Hp->VK->Prop):Prop:=
 ∀(pins:T3)(s:Ue)(σ:St)(H:Hp)(x:V)(v:Uc)(Q:VK),Inv X pins σ H s->RelV x v->r x H Q->
  wpAny (model X.prog X.w) X.A (f v) (EP X pins σ Q) X.xe s
def fP(X:Cx)(f:Uc)(r:Tf->Hp->VK->Prop):Prop:=
 ∀(pins:T3)(s:Ue)(σ:St)(H:Hp)(xs:Tf)(us:T6)(Q:VK),Inv X pins σ H s->bE xs us->r xs H Q->
  wpAny (model X.prog X.w) X.A (call f us) (EP X pins σ Q) X.xe s
def aPq(X:Cx)(r:V->Hp->(Bool->Hp->Prop)->Prop):Prop:=
 ∀(pins:T3)(s:Ue)(σ:St)(H:Hp)(x:V)(v:Uc)(Q:Bool->Hp->Prop),Inv X pins σ H s->RelV x v->r x H Q->
  wpAny (model X.prog X.w) X.A (truthy v) (TP X pins σ Q) X.xe s
def tOp(r:R2)(a tb:TE):TE:=fun σ H Q=>a σ H fun x b=>tb σ b fun y c=>r x y c Q
def tUn(r:V->Hp->VK->Prop)(a:TE):TE:=fun σ H Q=>a σ H fun x b=>r x b Q
def rI(C:Int->Int->Prop)(g:Int->Int->V):R2:=fun x y H Q=>∃i j,x=.int i/\y=.int j/\C i j/\Q (g i j) H
def rI0(g:Int->Int->V):R2:=fun x y H Q=>∃i j,x=.int i/\y=.int j/\Q (g i j) H
def rU(g:Int->V):V->Hp->VK->Prop:=fun x H Q=>∃i,x=.int i/\Q (g i) H
section
variable{X:Cx}{a b c:Ug}{ta tb tc:TE}{pos:Pos}
def aMb(ha:PE X a ta)(j:PE X b tb){pins:T3}{R:V->V->Hp->Prop}(I:Inv X pins σ H s)
 (h:ta σ H fun x i=>tb σ i fun y d=>R x y d) {Q:T2} {f:Tt}
 (k:∀v u s2 x y d,Inv X pins σ d s2->RelV x v->RelV y u->R x y d->wpAny (model X.prog X.w) X.A (f v u) Q X.xe s2):
 wpAny (model X.prog X.w) X.A (eval a X.env) (fun v e=>wpAny (model X.prog X.w) X.A (eval b X.env) (fun u g=>wpAny (model X.prog X.w) X.A (f v u) Q X.xe g) X.xe e) X.xe s:=by
 refine thn (ha pins s σ H _ I h) fun v s1 ⟨x,i,l,m,n⟩=>?_;refine thn (j pins s1 σ i _ l n) fun u s2 ⟨y,d,o,p,q⟩=>?_;exact k v u s2 x y d o m p q
def aMF(d:OpR X (binaryOp op) r)(ha:PE X a ta)(e:PE X b tb):PE X (.BinOp a op b pos) (tOp r ta tb):=by
 intro pins s σ H Q I h;exact wpAny_BinOp (aMb ha e I h fun v u s2 x y f g i j q=>d pins s2 σ f x y v u Q g i j q)
def aOw{op:UnaryOp}{r:V->Hp->VK->Prop}(d:UnR X (unaryOp op) r)(ha:PE X a ta):PE X (.UnaryOp op a pos) (tUn r ta):=by
 intro pins s σ H Q I h;exact UnaryOp_ (thn (ha pins s σ H _ I h) fun v s1 ⟨x,e,f,g,i⟩=>d pins s1 σ e x v Q f g i)
def opI{f:Tt}{C:Int->Int->Prop}{g:Int->Int->Int}
 (rule:∀(i j:Int)(t u:Tok)(s:Ue)(Q:T2)(E:T2),C i j->Q (.int (g i j) s.toks) { s with toks:=s.toks+1 }->wpAny (model X.prog X.w) X.A (f (.int i t) (.int j u)) Q E s):
 OpR X f (rI C fun i j=>.int (g i j)):=by
 intro pins s σ H x y v u Q I d e h;obtain⟨i,j,rfl,rfl,k,q⟩:=h;obtain⟨t,rfl⟩:=d;obtain⟨l,rfl⟩:=e;exact rule i j t l s _ _ k ⟨.int (g i j),H,I.tok _,⟨_,rfl⟩,q⟩
def aNS{f:Tt}{g:Int->Int->Int}
 (rule:∀(i j:Int)(t u:Tok)(s:Ue)(Q:T2)(E:T2),Q (.int (g i j) s.toks) { s with toks:=s.toks+1 }->wpAny (model X.prog X.w) X.A (f (.int i t) (.int j u)) Q E s):
 OpR X f (rI0 fun i j=>.int (g i j)):=by
 intro pins s σ H x y v u Q I d e h;obtain⟨i,j,rfl,rfl,q⟩:=h;obtain⟨t,rfl⟩:=d;obtain⟨k,rfl⟩:=e;exact rule i j t k s _ _ ⟨.int (g i j),H,I.tok _,⟨_,rfl⟩,q⟩
def aHQ{f:Tt}{g:Int->Int->Bool}
 (rule:∀(i j:Int)(t u:Tok)(s:Ue)(Q:T2)(E:T2),Q (.bool (g i j)) s->wpAny (model X.prog X.w) X.A (f (.int i t) (.int j u)) Q E s):
 OpR X f (rI0 fun i j=>.bl (g i j)):=by
 intro pins s σ H x y v u Q I d e h;obtain⟨i,j,rfl,rfl,q⟩:=h;obtain⟨t,rfl⟩:=d;obtain⟨k,rfl⟩:=e;exact rule i j t k s _ _ ⟨.bl (g i j),H,I,rfl,q⟩
def aNv(i j:Int):Prop:=0<=j/\j<=1000000/\i.natAbs<2 ^ 64
def aLn(i j:Int):Prop:=(-(2 ^ 64)<i/\i<2 ^ 64)\/(-(2 ^ 64)<j/\j<2 ^ 64)
def aLn.ok(h:aLn i j):IntMulOk i j:=by
 rcases h with⟨d,e⟩|⟨d,e⟩
 .exact .of_left (intBits_le_64 d e)
 .exact .of_right (intBits_le_64 d e)
def op_add:OpR X (binaryOp .Add) (rI0 fun i j=>.int (i+j)):=aNS fun _ _ _ _ _ _ _ q=>add_int q
def aJi:OpR X (binaryOp .Sub) (rI0 fun i j=>.int (i-j)):=aNS fun _ _ _ _ _ _ _ q=>sub_int q
def aJA:OpR X (binaryOp .Mod) (rI (fun _ j=>0<j) fun i j=>.int (i % j)):=opI fun i j _ _ _ _ _ d q=>by
 exact mod_int' 50 54
def aLQ:OpR X (binaryOp .Pow) (rI aNv fun i j=>.int (i ^ j.toNat)):=opI fun _ _ _ _ _ _ _ d q=>pow_int_small d.1 d.2.1 d.2.2 q
def unI{f:Uc->Sem Uc}{g:Int->Int}
 (rule:∀(i:Int)(t:Tok)(s:Ue)(Q:T2)(E:T2),Q (.int (g i) s.toks) { s with toks:=s.toks+1 }->wpAny (model X.prog X.w) X.A (f (.int i t)) Q E s):
 UnR X f (rU fun i=>.int (g i)):=by
 intro pins s σ H x v Q I d h;obtain⟨i,rfl,q⟩:=h;obtain⟨t,rfl⟩:=d;exact rule i t s _ _ ⟨.int (g i),H,I.tok _,⟨_,rfl⟩,q⟩
def aKm:UnR X (unaryOp .USub) (rU fun i=>.int (-i)):=unI fun _ _ _ _ _ q=>neg_int q
end
def aOg:V->V->Bool
 |.non,.non=>true|.non,.int _=>true|.int _,.non=>true|.non,.bl _=>true|.bl _,.non=>true|.non,.str _=>true|.str _,.non=>true
 |.int _,.int _=>true|.bl _,.bl _=>true|.str _,.str _=>true|.byt _,.byt _=>true
 |.int _,.str _=>true|.str _,.int _=>true|.bl _,.str _=>true|.str _,.bl _=>true
 |_,_=>false
def rEq:R2:=fun x y H Q=>aOg x y=true/\Q (.bl (decide (x=y))) H
def rNe:R2:=fun x y H Q=>aOg x y=true/\Q (.bl (!decide (x=y))) H
def WK:decide (V.int i=V.int j)=(i==j):=by
 rw[A0u];simp
def aCq:decide (V.bl i=V.bl j)=(i==j):=by
 rw[A0u];simp
def VO:decide (V.str i=V.str j)=(i==j):=by
 rw[A0u];simp
def XX:decide (V.byt i=V.byt j)=(i.toList==j.toList):=by
 rw[A0u];cases i;cases j;simp
section
variable{X:Cx}{a b c:Ug}{ta tb tc:TE}{pos:Pos}
def bY{Q:VK}{d:Bool}(I:Inv X pins σ H s)(q:Q (.bl k) H)(e:k=d):EP X pins σ Q (.bool d) s:=by
 subst e;exact⟨.bl k,H,I,rfl,q⟩
def op_eq:OpR X (compareOp .Eq) rEq:=by
 intro pins s σ H x y v u Q I f d h;obtain⟨hs,q⟩:=h;cases x with
 |non=>
  cases f;cases y with
  |non=>cases d;exact PySem.EqNone.eq_none_none<|bY I q 53
  |bl j=>cases d;exact PySem.EqNone.eq_none_bool<|bY I q 53
  |int j=>obtain⟨e,rfl⟩:=d;exact PySem.EqNone.eq_none_int<|bY I q 53
  |str j=>obtain⟨e,rfl⟩:=d;exact PySem.EqNone.eq_none_str<|bY I q 53
  |_=>exact absurd hs C6
 |bl i=>
  cases f;cases y with
  |non=>cases d;exact PySem.EqNone.eq_bool_none<|bY I q 53
  |bl j=>cases d;exact eq_bool<|bY I q aCq
  |str j=>obtain⟨e,rfl⟩:=d;exact PySem.EqMixed.eq_bool_str<|bY I q 53
  |_=>exact absurd hs C6
 |int i=>
  obtain⟨t,rfl⟩:=f;cases y with
  |non=>cases d;exact PySem.EqNone.eq_int_none<|bY I q 53
  |int j=>obtain⟨e,rfl⟩:=d;exact eq_int<|bY I q WK
  |str j=>obtain⟨e,rfl⟩:=d;exact PySem.EqMixed.eq_int_str<|bY I q 53
  |_=>exact absurd hs C6
 |str i=>
  obtain⟨t,rfl⟩:=f;cases y with
  |non=>cases d;exact PySem.EqNone.eq_str_none<|bY I q 53
  |bl j=>cases d;exact PySem.EqMixed.eq_str_bool<|bY I q 53
  |int j=>obtain⟨e,rfl⟩:=d;exact PySem.EqMixed.eq_str_int<|bY I q 53
  |str j=>obtain⟨e,rfl⟩:=d;exact eq_str<|bY I q VO
  |_=>exact absurd hs C6
 |byt i=>
  obtain⟨t,rfl⟩:=f;cases y with
  |byt j=>obtain⟨e,rfl⟩:=d;exact W.eq_bytes<|bY I q XX
  |_=>exact absurd hs C6
 |_=>cases y<;>exact absurd hs C6
def op_ne:OpR X (compareOp .NotEq) rNe:=by
 intro pins s σ H x y v u Q I f d h;obtain⟨hs,q⟩:=h;cases x with
 |non=>
  cases f;cases y with
  |non=>cases d;exact PySem.EqNone.ne_none_none<|bY I q 53
  |bl j=>cases d;exact PySem.EqNone.ne_none_bool<|bY I q 53
  |int j=>obtain⟨e,rfl⟩:=d;exact PySem.EqNone.ne_none_int<|bY I q 53
  |str j=>obtain⟨e,rfl⟩:=d;exact PySem.EqNone.ne_none_str<|bY I q 53
  |_=>exact absurd hs C6
 |bl i=>
  cases f;cases y with
  |non=>cases d;exact PySem.EqNone.ne_bool_none<|bY I q 53
  |bl j=>cases d;exact ne_bool<|bY I q<|A0h not aCq
  |str j=>obtain⟨e,rfl⟩:=d;exact PySem.EqMixed.ne_bool_str<|bY I q 53
  |_=>exact absurd hs C6
 |int i=>
  obtain⟨t,rfl⟩:=f;cases y with
  |non=>cases d;exact PySem.EqNone.ne_int_none<|bY I q 53
  |int j=>obtain⟨e,rfl⟩:=d;exact ne_int<|bY I q<|A0h not WK
  |str j=>obtain⟨e,rfl⟩:=d;exact PySem.EqMixed.ne_int_str<|bY I q 53
  |_=>exact absurd hs C6
 |str i=>
  obtain⟨t,rfl⟩:=f;cases y with
  |non=>cases d;exact PySem.EqNone.ne_str_none<|bY I q 53
  |bl j=>cases d;exact PySem.EqMixed.ne_str_bool<|bY I q 53
  |int j=>obtain⟨e,rfl⟩:=d;exact PySem.EqMixed.ne_str_int<|bY I q 53
  |str j=>obtain⟨e,rfl⟩:=d;exact ne_str<|bY I q<|A0h not VO
  |_=>exact absurd hs C6
 |byt i=>
  obtain⟨t,rfl⟩:=f;cases y with
  |byt j=>obtain⟨e,rfl⟩:=d;exact W.ne_bytes<|bY I q<|A0h not XX
  |_=>exact absurd hs C6
 |_=>cases y<;>exact absurd hs C6
def aOB:OpR X (compareOp .Lt) (rI0 fun i j=>.bl (decide (i<j))):=aHQ fun _ _ _ _ _ _ _ q=>lt_int q
def aMI:OpR X (compareOp .LtE) (rI0 fun i j=>.bl (decide (i<=j))):=aHQ fun _ _ _ _ _ _ _ q=>le_int q
def aNE:OpR X (compareOp .Gt) (rI0 fun i j=>.bl (decide (j<i))):=aHQ fun _ _ _ _ _ _ _ q=>gt_int q
def aNQ:OpR X (compareOp .GtE) (rI0 fun i j=>.bl (decide (j<=i))):=aHQ fun _ _ _ _ _ _ _ q=>ge_int q
def aFS:OpR X (compareOp .IsNot) (fun x y H Q=>y=.non/\Q (.bl (!decide (x=.non))) H):=by
 intro pins s σ H x y v u Q I d e h;obtain⟨rfl,q⟩:=h;cases e;refine isnot_none_gen<|bY I q ?_
 cases x<;>first
  |(cases d;rfl)
  |(obtain⟨t,rfl⟩:=d;rfl)
def OpR.or(h:OpR X f r)(h':OpR X f d):OpR X f (fun x y H Q=>r x y H Q\/d x y H Q):=by
 intro pins s σ H x y v u Q I e g q;rcases q with q|q
 .exact h pins s σ H x y v u Q I e g q
 .exact h' pins s σ H x y v u Q I e g q
def aGS(d:OpR X (compareOp op) r)(ha:PE X a ta)(e:PE X b tb)(hm:behindInMarks op b=false):PE X (.Compare a [op] [b] pos) (tOp r ta tb):=by
 intro pins s σ H Q I h;exact wpAny_Compare1 (aMb ha e I h fun v u s2 x y f g i j q=>d pins s2 σ f x y v u Q g i j q) hm
def aIq(t:TE):TT:=fun σ H Q=>t σ H fun x H'=>∃k,x=.bl k/\Q k H'
def aFR{op:CmpOp}{r:R2}(d:OpR X (compareOp op) r)(ha:PE X a ta)(f:PE X b tb)(hm:behindInMarks op b=false):PT X (.Compare a [op] [b] pos) (aIq<|tOp r ta tb):=by
 intro pins s σ H Q I h
 refine wpAny_isTrue_Compare1 (thn (ha pins s σ H _ I h) fun v s1 ⟨x,g,i,j,l⟩=>thn (f pins s1 σ g _ i l) fun u s2 ⟨y,m,n,o,p⟩=>
  thn (d pins s2 σ m x y v u _ n j o p) fun c s3 ⟨z,q,t,w,k,e,B⟩=>?_) hm
 subst e;cases w;exact Z7 ⟨q,t,B⟩
def aBx(r e:R2)(ta tb tc:TE):TE:=fun σ H Q=>ta σ H fun x f=>tb σ f fun y g=>r x y g fun z d=>∃k,z=.bl k /\
 (if k=true then tc σ d fun h i=>e y h i Q else Q (.bl false) d)
def aDa{op f:CmpOp}{r i:R2}(o:OpR X (compareOp op) r)(g:OpR X (compareOp f) i)(ha:PE X a ta)(p:PE X b tb)(q:PE X c tc)
 (hm:lastMarks [op,f] [b,c]=false:=by with_unfolding_all rfl):PE X (.Compare a [op,f] [b,c] pos) (aBx r i ta tb tc):=by
 intro pins s σ H Q I h
 refine Compare_chain (thn (ha pins s σ H _ I h) fun v s1 ⟨x,t,w,B,C⟩=>chain_link (thn (p pins s1 σ t _ w C) fun u s2 ⟨y,D,E,j,F⟩=>
  thn (o pins s2 σ D x y v u _ E B j F) fun d s3 ⟨z,l,m,G,k,e,n⟩=>?_)) hm
 subst e;cases G;refine Z7 ?_;cases k with
 |false=>exact ite_ff ⟨.bl false,l,m,rfl,n⟩
 |true=>exact ite_tt<|chain_last (thn (q pins s3 σ l _ m n) fun J L ⟨M,N,O,P,R⟩=>g pins L σ N y M u J Q O j P R)
def aHe(K:Fg)(x:V)(H:Hp)(k:Bool):Prop:=
 match x with
 |.non=>k=false
 |.bl b=>k=b
 |.int i=>k=(i != 0)
 |.str y=>y.length<=sizeLine/\k=((y.length:Int) != 0)
 |.byt y=>y.size<=sizeLine/\k=((y.size:Int) != 0)
 |.ref p=>(∃xs,SqL K H p xs/\k=!xs.isEmpty)\/(∃xs,SqT K H p xs/\k=!xs.isEmpty)\/∃kvs,H p=Z (.dK kvs)/\k=!kvs.isEmpty
 |_=>False
def UF{d:Type}{kvs:Ua (d×V)}{vs:Ua (d×Uc)}(r:KV kvs vs):(!vs.isEmpty)=!kvs.isEmpty:=by
 cases r<;>rfl
def AZ(r:bE xs d):(!d.toArray.isEmpty)=!xs.isEmpty:=by
 cases r<;>simp
def CN:(sizeLine:Nat)<2 ^ 63:=by rw[J9];decide
def aKn:aPq X (fun x H Q=>∃k,aHe X.K x H k/\Q k H):=by
 intro pins s σ H x v Q I g h;obtain⟨k,e,q⟩:=h;have hs:=J9;cases x with
 |non=>
  cases g;have d:=e;subst d;exact truthy_none ⟨H,I,q⟩
 |bl b=>
  cases g;have d:=e;subst d;exact Z7 ⟨H,I,q⟩
 |int i=>
  obtain⟨t,rfl⟩:=g;have d:=e;subst d;exact PySem.P.truthy_int ⟨H,I,q⟩
 |str y=>
  obtain⟨t,rfl⟩:=g;obtain⟨u,d⟩:=e;subst d;exact PySem.P.truthy_str 50 ⟨H,I.tok _,q⟩
 |byt y=>
  obtain⟨t,rfl⟩:=g;obtain⟨u,d⟩:=e;subst d;exact W.truthy_bytes 50 ⟨H,I.tok _,q⟩
 |ref p=>
  cases g;have d:=e;rcases d with⟨xs,j,d⟩|⟨xs,j,d⟩|⟨kvs,j,d⟩
  .subst d;obtain⟨l,r,n,o⟩:=I.list j;have f:=r.length;exact wpAny_truthy_list n.isList 54 ⟨H,I.tok _,by rw[AZ r];exact q⟩
  .subst d;obtain⟨l,r,n,o⟩:=I.tuple j;have f:=r.length;exact truthy_tuple n 54 ⟨H,I.tok _,by rw[AZ r];exact q⟩
  .subst d;obtain⟨o,hS,vs,r,m⟩:=I.hok p _ j;have f:=A2g r;exact wpAny_truthy_dict hS m 50 ⟨H,I.tok _,by rw[UF r];exact q⟩
 |_=>exact e.elim
def aCh(ha:PE X a ta)(e:∀d,isTrue a X.env d=(do let v <- d;standAt a.pos;holding [v]<|truthy v)):
 PT X a (fun σ H Q=>ta σ H fun x H'=>∃k,aHe X.K x H' k/\Q k H'):=by
 intro pins s σ H Q I h;exact isTrue_plain (thn (ha pins s σ H _ I h) fun v s1 ⟨x,f,g,i,j⟩=>aKn pins s1 σ f x v Q g i j)<|e _
def vals1{x:V}{us:T6}(r:bE [x] us):∃u,us=[u]/\RelV x u:=by
 cases r with
 |cons d e=>cases e;exact⟨_,rfl,d⟩
def vals2{x y:V}{us:T6}(r:bE [x,y] us):∃u d,us=[u,d]/\RelV x u/\RelV y d:=by
 cases r with
 |cons e f=>
  cases f with
  |cons g h=>cases h;exact⟨_,_,rfl,e,g⟩
def ZZ(e:X.calm=true):fP X (.builtin "max") (fun xs H Q=>∃i j,xs=[.int i,.int j]/\Q (.int (if j > i then j else i)) H):=by
 intro pins s σ H xs us Q I r h;obtain⟨i,j,rfl,q⟩:=h;obtain⟨u,f,rfl,⟨t,rfl⟩,⟨g,rfl⟩⟩:=vals2 r;refine max_two_ints (I.ok.hd e) fun h' tk k=>⟨_,H,I.kept k,?_,q⟩;by_cases d:j > i
 .rw[A7 d,A7 d];exact⟨_,rfl⟩
 .rw[B7 d,B7 d];exact⟨_,rfl⟩
def YM(e:X.calm=true):fP X (.builtin "min") (fun xs H Q=>∃i j,xs=[.int i,.int j]/\Q (.int (if j<i then j else i)) H):=by
 intro pins s σ H xs us Q I r h;obtain⟨i,j,rfl,q⟩:=h;obtain⟨u,f,rfl,⟨t,rfl⟩,⟨g,rfl⟩⟩:=vals2 r;refine min_two_ints (I.ok.hd e) fun h' tk k=>⟨_,H,I.kept k,?_,q⟩;by_cases d:j<i
 .rw[A7 d,A7 d];exact⟨_,rfl⟩
 .rw[B7 d,B7 d];exact⟨_,rfl⟩
end
structure UP(h:Heap)(x dx C:Uf)(mA:Str->Ti):Prop where
 obj:h.get? x=Z (W.instObj C dx)
 ns:h.Ns1 dx mA
 ne:dx≠x
def aAj{h:Heap}(n:h.Ns1 dx mA):∃od,h.get? dx=Z od/\∀b,W.lookIn b od=Z (mA b):=by
 obtain⟨o,es,ep,d,hd,f,_,hm⟩:=n;refine⟨o,d,fun b=>?_⟩;have e:=hm b;unfold nsFind findBy at e;rw[<- Array.find?_toList]at e;unfold W.lookIn;rw[hd];dsimp only;split
 .rename_i y q;rw[q]at e;exact A0h Z e
 .rename_i q;rw[q]at e
  have a:es.toList.any (·.refKey)=false:=by
   rw[List.any_eq_false];intro y g;obtain⟨z,t,c⟩:=f y<|Array.mem_toList_iff.mp g;simp[DictEntry.refKey,c]
  have i:¬es.toList.any (·.refKey)=true:=54
  rw[B7 i];exact A0h Z e
def UP.look(I:UP h x dx C mA):∃od,W.InstAt h x (W.instObj C dx) C (Z od)/\∀a,W.lookIn a od=Z (mA a):=
 let⟨od,b,c⟩:=aAj I.ns
 ⟨od,⟨I.obj,rfl,rfl,b⟩,c⟩
section
variable{prog:Uh}{w:World}{A:Ui}{E:T2}{s:Ue}{K:Fg}{x dx C f:Uf}{mA:Str->Ti}{name:Str}{v:Uc}
def get_map{Q:T2}(X:K.In s.heap)(I:UP s.heap x dx C mA)(c:W.plainGet K C name=true)(d:W.hasDictIn K C=true)
 (ha:W.findIn K (.ref C) name=Z Y) (e:mA name=Z v) (b:W.handedIn v=true) (h:Q v { s with toks:=s.toks+1 }):
 wpAny (model prog w) A (getAttr (.ref x) name a) Q E s:=by
 obtain⟨od,J,g⟩:=I.look;exact W.get_value X J (W.plainGet_of c).1 (W.findObj_own d ha rfl 54) b h
def aCe{Q:Uc×T6->Ue->Prop}(X:K.In s.heap)(I:UP s.heap x dx C mA)(a:W.plainGet K C name=true)
 (c:W.findIn K (.ref C) name=Z (Z (.ref f))) (ht:W.isFn K (.ref f)=true) (d:mA name=Y) (h:Q (.ref f,[.ref x]) s):
 wpAny (model prog w) A (getMethod (.ref x) name b) Q E s:=by
 obtain⟨od,J,e⟩:=I.look;exact W.method_fn X J (W.plainGet_of a).1 (W.plainGet_of a).2 c (Z4.mp ht) (by show(W.lookIn name od).map (·.isSome)=Z false;rw[e,d];rfl) h
def aGC{Q:Unit->Ue->Prop}(X:K.In s.heap)(I:UP s.heap x dx C mA)
 (hs:W.findIn K (.ref C) "__setattr__"=Z (Z (.builtin "object.__setattr__"))) (j:W.plainOver K C=true) (ht:W.takerIn K C name=Z Y) (k:W.hasDictIn K C=true)
 (l:PySem.Within mA ns) (m:ns.length<=sizeLine)
 (h:∀h',UP h' x dx C (fun y=>if y=name then Z v else mA y)->Heap.SameBut dx s.heap h'->Q () { s with heap:=h',toks:=s.toks+2 }):
 wpAny (model prog w) A (setAttr (.ref x) name v) Q E s:=by
 obtain⟨od,J,r⟩:=I.look;refine W.set_plain X J hs (W.osa_open X J j ht fun b=>?_);obtain⟨t,n,d⟩:=W.any_some k;have o:=I.obj;refine A0<|A3<|A0<|A0<|wpAny_loadPart o<|A0<|W.Looks.here (W.looks_clsIn X n) ?_;rw[d];refine A3<|A0<|A3<|A0 ?_;refine wpAny_nsSet1 I.ns fun h' a c=>?_;obtain⟨u,p,q,e,g,i⟩:=a.count<|PySem.Within.cons name v l;refine A0<|wpAny_lookBehind e (by rw[g];exact pastItsLine_dict<|E6 i 54) ?_;exact A3<|h _ ⟨(c.2 _<|S7 I.ne).trans I.obj,a,I.ne⟩ c
def aDW{R:Result->Ue->Prop}{vs:T6}{a:Tx}(X:K.In s.heap)(hm:W.makesIn K C=true)
 (hi:W.findIn K (.ref C) "__init__"=Z (Z (.ref f))) (b:W.typeIn K (.ref f)=Z (.type "function"))
 (h:codeAny (model prog w) (A.under (.builtin "type.__call__" ⟨.ref C::vs,a⟩)) (.call (.ref f) ⟨.ref (s.heap.objs.size+1)::vs,a⟩) (W.InitBack (s.heap.objs.size+1) R)
  { s with heap:=(s.heap.push W.emptyDict).push (W.instObj C s.heap.objs.size) }):
 codeAny (model prog w) A (.call (.ref C) ⟨vs,a⟩) R s:=by
 obtain⟨c,g,d,t,os⟩:=s;exact W.make_core (W.makes_of X hm) (W.looks_findIn X hi) (fun self=>W.bind_fn X self b) (.inl rfl) h
end
noncomputable def oO(f:Str)(v:V):Ua (Str×V)->Ua (Str×V)
 |[]=>[(f,v)]
 |(g,x)::r=>if g=f then(g,v)::r else(g,x)::oO f v r
theorem yP(f g:Str)(v:V):∀fs:Ua (Str×V),(oO f v fs).lookup g=if g=f then Z v else fs.lookup g
 |[]=>by
  show List.lookup g [(f,v)]=_;by_cases h:g=f
  .have a:=Z4.mpr h;simp only[List.lookup,a,A7 h]
  .have a:=O0.mpr h;simp only[List.lookup,a,B7 h]
 |(k,x)::r=>by
  have ih:=yP f g v r;rw[show oO f v ((k,x)::r)=(if k=f then(k,v)::r else(k,x)::oO f v r)from rfl];by_cases b:k=f
  .rw[A7 b];by_cases h:g=k
   .have a:=Z4.mpr h;simp only[List.lookup,a,A7<|h.trans b]
   .have a:=O0.mpr h;simp only[List.lookup,a,B7 (fun e:g=f=>h<|e.trans b.symm)]
  .rw[B7 b];by_cases h:g=k
   .have a:=Z4.mpr h;simp only[List.lookup,a,B7 (fun e:g=f=>b<|h.symm.trans e)]
   .have a:=O0.mpr h;simp only[List.lookup,a];exact ih
theorem xH(f:Str)(v:V):∀fs:Ua (Str×V),f∈(oO f v fs).map (·.1)/\∀g,g∈fs.map (·.1)->g∈(oO f v fs).map (·.1)
 |[]=>⟨by simp[oO],fun g h=>by simp at h⟩
 |(k,x)::r=>by
  obtain⟨i1,i2⟩:=xH f v r;rw[show oO f v ((k,x)::r)=(if k=f then(k,v)::r else(k,x)::oO f v r)from rfl];by_cases a:k=f
  .rw[A7 a];subst a;exact⟨53,fun g h=>by simpa using h⟩
  .rw[B7 a];refine⟨?_,fun g h=>?_⟩
   .rw[D4];exact A9 _ i1
   .rw[D4]at h ⊢;rcases B8.mp h with e|e
    .exact B8.mpr (.inl e)
    .exact A9 _<|i2 g e
theorem zE(f:Str)(v:V):∀fs:Ua (Str×V),(oO f v fs).length<=fs.length+1
 |[]=>by simp[oO]
 |(k,x)::r=>by
  have ih:=zE f v r;rw[show oO f v ((k,x)::r)=(if k=f then(k,v)::r else(k,x)::oO f v r)from rfl];by_cases a:k=f
  .rw[A7 a,D3,D3];omega
  .rw[B7 a,D3,D3];omega
def qE.some_of{v:V}(r:qE (Z v) o):∃u,o=Z u/\RelV v u:=by
 cases o with
 |none=>exact r.elim
 |some u=>exact⟨u,rfl,r⟩
def qE.none_of(r:qE Y o):o=Y:=by
 cases o with
 |none=>rfl
 |some u=>exact r.elim
def aAu(r:RelV v u):W.handedIn u=true:=by
 cases v with
 |non=>cases r;rfl
 |bl b=>cases r;rfl
 |int i=>obtain⟨t,e⟩:=r;cases e;rfl
 |str x=>obtain⟨t,e⟩:=r;cases e;rfl
 |byt b=>obtain⟨t,e⟩:=r;cases e;rfl
 |flt b=>obtain⟨t,e⟩:=r;cases e;rfl
 |ref a=>cases r;rfl
 |ty n=>cases r;rfl
section
variable{P:Uh}{w:World}{H H':Hp}{h h':Heap}{a C dx:Uf}{fs fs':Ua (Str×V)}
def KN(hok:HOk P w H h)(e:H a=Z (.ins C dx fs)):∃mA,UP h a dx C mA/\(∀f,qE (fs.lookup f)<|mA f)/\PySem.Within mA (fs.map (·.1))/\fs.length<=1000/\H dx=Z (.own a):=by
 obtain⟨d,z,ne,ob,mA,n,r,q⟩:=(hok a _ e);exact⟨mA,⟨ob,n,ne⟩,r,q,z,d⟩
end
structure Cls(K:Fg)(C:Uf):Prop where
 pg:W.plainGet K C Str.empty=true
 hd:W.hasDictIn K C=true
 po:W.plainOver K C=true
 sa:W.findIn K (.ref C) "__setattr__"=Z (Z (.builtin "object.__setattr__"))
def Cls.get(c:Cls K C)(f:Str):W.plainGet K C f=true:=c.pg
def iJ(K:Fg)(C:Uf)(f:Str):Prop:=W.findIn K (.ref C) f=Z Y
def iJ.taker(n:iJ K C f):W.takerIn K C f=Z Y:=by
 unfold W.takerIn;rw[show W.findIn K (.ref C) f=Z Y from n];rfl
structure aEP(K:Fg)(C:Uf)(m:Str)(f:Uf):Prop where
 at_:W.findIn K (.ref C) m=Z (Z (.ref f))
 fn:W.isFn K (.ref f)=true
 kp:W.keepIn K (.ref f)=true
section
variable{X:Cx}{pins:T3}{σ:St}{H:Hp}{s:Ue}{a C dx:Uf}{fs:Ua (Str×V)}{f:Str}{v:V}{A:Ui}{E:T2}
def UG{Q:T2}(I:Inv X pins σ H s)(e:H a=Z (.ins C dx fs))(c:Cls X.K C)(n:iJ X.K C f)(l:fs.lookup f=Z v)
 (h:∀u d,Inv X pins σ H d->RelV v u->Q u d):wpAny (model X.prog X.w) A (getAttr (.ref a) f b) Q E s:=by
 obtain⟨mA,O,r,_,_,_⟩:=KN I.hok e;obtain⟨u,i,g⟩:=qE.some_of (by rw[<- l];exact r f);exact get_map I.kIn O (c.get f) c.hd n i (aAu g)<|h u _ (I.tok _) g
def BO{Q:Uc×T6->Ue->Prop}(I:Inv X pins σ H s)(e:H a=Z (.ins C dx fs))(c:Cls X.K C)(k:aEP X.K C m g)(l:fs.lookup m=Y)
 (h:Q (.ref g,[.ref a]) s):wpAny (model X.prog X.w) A (getMethod (.ref a) m b) Q E s:=by
 obtain⟨mA,O,r,_,_,_⟩:=KN I.hok e;have hn:=qE.none_of (by rw[<- l];exact r m);exact aCe I.kIn O (c.get m) k.at_ k.fn hn h
def TY{Q:Unit->Ue->Prop}(I:Inv X pins σ H s)(e:H a=Z (.ins C dx fs))(c:Cls X.K C)(n:iJ X.K C f)(D:fs.length<1000)(l:RelV y u)
 (h:∀i,Inv X pins σ (upd H a (.ins C dx (oO f y fs))) i->Q () i):wpAny (model X.prog X.w) A (setAttr (.ref a) f u) Q E s:=by
 obtain⟨mA,O,r,j,_,k⟩:=KN I.hok e;have m:(fs.map (·.1)).length<=sizeLine:=by rw[A4,J9];omega
 refine aGC I.kIn O c.sa c.po n.taker c.hd j m fun h' d p=>h _ ?_;have hd:∃o,h'.get? dx=Z o:=let⟨o,_,_,t,_⟩:=d.ns;⟨o,t⟩;refine I.write (by rw[e];exact True.intro) (.inr k) (fun b q x z=>(p.2 b x).trans z) hd ?_;refine⟨by rw[aL O.ne];exact k,?_,O.ne,d.obj,_,d.ns,fun g=>?_,fun g B=>?_⟩
 .have:=zE f y fs;omega
 .show qE ((oO f y fs).lookup g) (if g=f then Z u else mA g);rw[yP];by_cases q:g=f
  .rw[A7 q,A7 q];exact l
  .rw[B7 q,B7 q];exact r g
 .by_cases q:g=f
  .rw[q];exact(xH f y fs).1
  .refine(xH f y fs).2 g (j g fun z=>B ?_);show(if g=f then Z u else mA g)=Y;rw[B7 q];exact z
def Inv.made(I:Inv X pins σ H s):Inv X pins σ (upd (upd H s.heap.objs.size (.own (s.heap.objs.size+1))) (s.heap.objs.size+1) (.ins C s.heap.objs.size []))
 { s with heap:=(s.heap.push W.emptyDict).push (W.instObj C s.heap.objs.size) }:=by
 have c:(s.heap.push W.emptyDict).get? s.heap.objs.size=Z W.emptyDict:=C2 s.heap rfl
 have d:((s.heap.push W.emptyDict).push (W.instObj C s.heap.objs.size)).get? (s.heap.objs.size+1)=Z (W.instObj C s.heap.objs.size):=by
  have:=C2 (s.heap.push W.emptyDict) (o:=W.instObj C s.heap.objs.size) rfl
  rwa [Y7]at this
 have g:(s.heap.push W.emptyDict).Ns s.heap.objs.size (fun _=>Y):=⟨W.emptyDict,#[],_,c,rfl,(fun e h=>absurd h 53),51⟩;have i:=I.laid (o:=.own (s.heap.objs.size+1)) (t':=s.toks) (fun b u q=>A2 _ q) (A8 _) ⟨_,c⟩;refine i.laid (fun b u q=>A2 _ q) (Nat.le_of_eq<|Y7 _ _) ?_;have ne:s.heap.objs.size≠s.heap.objs.size+1:=C3<|S6 _;refine⟨by rw[aL ne,aT],F9 _,ne,d,fun _=>Y,(Heap.Ns1.of_empty g).at fun o q=>A2 _ q,fun _=>True.intro,fun y j=>absurd rfl j⟩
def aHk{f:Str}{pos:Pos}{s:Ue}(c:attributeBase e f env (eval e env)=eval e env)
 (h:wpAny (model prog w) A (eval e env) (fun o b=>wpAny (model prog w) A (getAttr o f true) Q E b) E s):wpAny (model prog w) A (eval (.Attribute e f pos) env) Q E s:=
 Attribute_any_ h (by rw[arm_eval_Attribute,c])
end
def aMV(K:Fg)(c:TE)(f:Str):TE:=fun σ H Q=>c σ H fun x b=>∃a C dx fs v,x=.ref a/\b a=Z (.ins C dx fs)/\Cls K C/\iJ K C f/\fs.lookup f=Z v/\Q v b
def aNb(K:Fg)(c d:TE)(f:Str):TS:=fun D σ H=>d σ H fun y e=>c σ e fun x b=>∃a C dx fs,x=.ref a/\b a=Z (.ins C dx fs)/\Cls K C/\iJ K C f/\fs.length<1000 /\
 D.nx σ (upd b a (.ins C dx (oO f y fs)))
section
variable{X:Cx}{o e value:Ug}{f:Str}{pos pos' tpos:Pos}{ta tv:TE}
def aLf(b:PE X e ta)(d:attributeBase e f X.env (eval e X.env)=eval e X.env):PE X (.Attribute e f pos) (aMV X.K ta f):=by
 intro pins s σ H Q I h;refine aHk d (thn (b pins s σ H _ I h) fun u s1 g=>?_);obtain⟨x,i,j,k,a,C,dx,fs,v,ex,m,c,n,l,q⟩:=g;subst ex;obtain rfl:=k;exact UG j m c n l fun t s2 p r=>⟨v,i,p,r,q⟩
def aJv(ha:PE X o ta)(b:PE X value tv)(hs:swapsWith value (Z (.Attribute o f pos')) pos.line X.env=pure false):PS X (.Assign [.Attribute o f pos'] value pos) (aNb X.K ta tv f):=by
 intro pins s σ H D I h;refine plainObj_wpAny_Assign_Attribute (thn (b pins s σ H _ I h) fun u s1 ⟨y,d,g,i,q⟩=>thn (ha pins s1 σ d _ g q) fun v s2 j=>?_) hs;obtain⟨x,w,k,m,a,C,dx,fs,ex,p,c,n,l,r⟩:=j;subst ex;obtain rfl:=m;exact TY k p c n l i fun s3 t=>⟨σ,_,t,r⟩
def methcall_of{Q:T2}(p:PE X e d)(I:Inv X pins σ H s)
 (h:d σ H fun x b=>∃a C dx fs g,x=.ref a/\b a=Z (.ins C dx fs)/\Cls X.K C/\aEP X.K C m g/\fs.lookup m=Y /\
  ∀s1,Inv X pins σ b s1->wpAny (model X.prog X.w) X.A (callWith pos (.ref g) [.ref a] (backTo pos (starEach args X.env)) (backToKw pos (keywordEach [] X.env))) Q X.xe s1)
 (ht:eval (.Call (.Attribute e m apos) args [] pos) X.env=(do
  let i <- eval e X.env
  standAt apos.atName
  let(f,first) <- holding [i] (getMethod i m n)
  callWith pos f first (backTo pos (starEach args X.env)) (backToKw pos (keywordEach [] X.env)))):
 wpAny (model X.prog X.w) X.A (eval (.Call (.Attribute e m apos) args [] pos) X.env) Q X.xe s:=by
 refine W.methodCall_KW (thn (p pins s σ H _ I h) fun u s1 r=>?_) ht;obtain⟨x,b,j,t,a,C,dx,fs,g,ex,v,c,k,l,q⟩:=r;subst ex;obtain rfl:=t;exact BO j v c k l<|q s1 j
end
structure cE(k:Nat)(A:Ui)(q:Bool:=true):Prop where
 hd:q=true->A.handled=Y
 dp:A.depth+3*k+5<recursionLimit
 un:A.units+16*k+200<cLine
 gd:A.guards=Z []
def cE.mono{j:Nat}(r:cE k A q)(h:j<=k):cE j A q:=⟨r.hd,by have:=r.dp;omega,by have:=r.un;omega,r.gd⟩
def cE.deeper{k:Nat}(r:cE (k+1) A q)(env:Env):cE k (A.deeper env) q:=
 ⟨r.hd,by have:=r.dp;show A.depth+1+3*k+5<_;omega,by have:=r.un;show A.units+3+16*k+200<_;omega,r.gd⟩
def UQ{C:Uf}{us:T6}{a:Tx}:(A.under (.builtin "type.__call__" ⟨.ref C::us,a⟩)).depth=A.depth+1:=rfl
def UN{C:Uf}{us:T6}{a:Tx}:(A.under (.builtin "type.__call__" ⟨.ref C::us,a⟩)).units=A.units+1:=rfl
def OK{C:Uf}{us:T6}{a:Tx}:(A.under (.builtin "type.__call__" ⟨.ref C::us,a⟩)).guards=A.guards:=rfl
def cE.make{k:Nat}(r:cE (k+1) A q)(C:Uf)(us:T6)(a:Tx):cE k (A.under (.builtin "type.__call__" ⟨.ref C::us,a⟩)) q:=
 ⟨r.hd,by have:=r.dp;rw[UQ];omega,by have:=r.un;rw[UN];omega,by rw[OK];exact r.gd⟩
def cE.depth(r:cE k A q):A.depth<recursionLimit:=by have:=r.dp;omega
def cE.units(r:cE k A q):A.units+64<cLine:=by have:=r.un;omega
def ZJ:TA:=fun _ H Q=>Q [] H
def tS(a:TE)(tr:TA):TA:=fun σ H Q=>a σ H fun x b=>tr σ b fun xs c=>Q (x::xs) c
section
variable{X:Cx}{e:Ug}{es:Tb}{te:TE}{t:TA}{pos:Pos}
def DB:PA X [] ZJ:=fun _ _ _ _ H Q I h=>A1s ⟨[],H,I,.nil,h⟩
def jX(ha:PE X e te)(a:PA X es t)(hs:starEach (e::es) X.env=(false,eval e X.env)::starEach es X.env:=by rfl):PA X (e::es) (tS te t):=by
 intro pos pins s σ H Q I h;rw[hs];refine A0y (thn (ha pins s σ H _ I h) fun u s1 ⟨x,b,c,d,f⟩=>?_);exact thn (a pos pins s1 σ b _ c f) fun us s2 ⟨xs,g,i,j,k⟩=>⟨x::xs,g,i,.cons d j,k⟩
def aGm(t:TA):TE:=fun σ H Q=>t σ H fun xs a=>xs.length<=sizeLine/\∀p,a p=Y->Q (.ref p) (upd a p (.tup xs))
def aJj(t:TA):TE:=fun σ H Q=>t σ H fun xs a=>xs.length<=sizeLine/\∀p,a p=Y->Q (.ref p) (upd a p (.lst xs))
def RN{x1}(h:PA X es t):PE X (.Tuple es x1 pos) (aGm t):=by
 intro pins s σ H Q I c;refine wpAny_Tuple_spliced (thn (h pos pins s σ H _ I c) fun us s1 ⟨xs,d,a,r,z,q⟩=>⟨by rw[<- r.length];exact z,?_⟩);have f:=a.hok.fresh<|A8 _;refine⟨.ref s1.heap.objs.size,upd d s1.heap.objs.size (.tup xs),a.laid (fun b u e=>A2 _ e) (A8 _) ?_,rfl,q _ f⟩;exact⟨z,us,r,⟨_,C2 _ rfl,rfl,_,rfl⟩⟩
def aDY(h:PA X es t):PE X (.List es pos) (aJj t):=by
 intro pins s σ H Q I c;refine wpAny_List_spliced (thn (h pos pins s σ H _ I c) fun us s1 ⟨xs,d,a,r,z,q⟩=>⟨by rw[<- r.length];exact z,?_⟩);have f:=a.hok.fresh<|A8 _;refine⟨.ref s1.heap.objs.size,upd d s1.heap.objs.size (.lst xs),a.laid (fun b u e=>A2 _ e) (A8 _) ?_,rfl,q _ f⟩;exact⟨z,us,0,r,C2 _ rfl⟩
end
abbrev Sp:=Tf->Hp->VK->XK->Prop
abbrev CXT:=List Env->Hp->Shared->XK->Value->Shared->Prop
structure SC(P:Uh)(w:World)(K:Fg)(mg:Str->Ti)(base:Heap)(A:Ui)(outer:Ua Env)(s:Ue)(H:Hp):Prop where
 frames:A.frames=Z outer
 mod:Mod K mg base
 bs:∀b o,base.get? b=Z o->s.heap.get? b=Z o/\H b=Y
 bsz:base.objs.size<=s.heap.objs.size
 funs:s.heap.FunFrames base outer
 frf:∀b∈frs outer,H b=Y
 hok:HOk P w H s.heap
 bare:AllBare s.gens
def CE(outer:Ua Env)(P:Uh)(w:World)(H:Hp)(s:Ue)(Q:VK)(u:Uc)(a:Ue):Prop:=
 ∃v H',a.os=s.os/\AllBare a.gens/\Un (frs outer) [] H H' s.heap a.heap/\HOk P w H' a.heap/\RelV v u/\Q v H'
def CR(CX:CXT)(outer:Ua Env)(P:Uh)(w:World)(H:Hp)(s:Ue)(Q:VK)(E:XK)(r:Result)(a:Ue):Prop:=
 match r with
 |.ok (.ret u)=>CE outer P w H s Q u a
 |.ok _=>False
 |.error e=>CX outer H s E e a
structure jH(P:Uh)(w:World)(K:Fg)(mg:Str->Ti)(base:Heap)(CX:CXT)(k:Nat)(f:Uf)(fd:FuncData)(ps:Te)(sp:Sp)(q:Bool:=true):Prop where
 len:∀vs H Q E,sp vs H Q E->vs.length=ps.length
 run:∀(A:Ui)(outer:Ua Env)(s:Ue)(H:Hp)(args:Args)(us:T6)(vs:Tf)(Q:VK)(E:XK),cE k A q->SC P w K mg base A outer s H->BindsTo s fd args (ps.zip us)->bE vs us->sp vs H Q E->
  codeAny (model P w) A (.call (.ref f) args) (CR CX outer P w H s Q E) s
def jH.mono{P:Uh}{k:Nat}(F:jH P w K mg base CX j f fd ps sp q)(h:j<=k):
 jH P w K mg base CX k f fd ps sp q:=⟨F.len,fun A outer s H args us vs Q E a=>F.run A outer s H args us vs Q E<|a.mono h⟩
def SC.make{P:Uh}(e:SC P w K mg base A outer s H)(C:Uf)(us:T6)(a:Tx):
 SC P w K mg base (A.under (.builtin "type.__call__" ⟨.ref C::us,a⟩)) outer s H:=⟨by first|exact e.frames|(simpa[Around.under,Code.envs,Code.isFrame,pushEnvs]using e.frames),e.mod,e.bs,e.bsz,e.funs,e.frf,e.hok,e.bare⟩
section
variable{X:Cx}{pins:T3}{σ:St}{H:Hp}{s s':Ue}
def Inv.env0(I:Inv X pins σ H s):SC X.prog X.w X.K X.mg X.base X.A X.stack s H:=
 ⟨I.ok.frames,I.ok.mod,I.bs,E6 I.ok.bsz I.sz,I.stack,I.stkFree,I.hok,I.bare⟩
def Inv.after(I:Inv X pins σ H s)(h:CE X.stack X.prog X.w H s Q u s'):EP X pins σ Q u s':=by
 obtain⟨v,H',os,bare,un,hok,r,q⟩:=h;obtain⟨c,g,d,t,a⟩:=s';obtain rfl:=os;exact⟨v,H',I.call un hok bare (fun b z=>absurd z 53),r,q⟩
end
def aBD(sp:Sp)(a:Tf)(E:XK)(t:TA):TE:=fun σ H Q=>t σ H fun vs b=>sp (vs++a) b Q E
def aIk(C:Uf)(m:Str)(sp:Sp)(b:Tf)(E:XK)(d:TE)(t:TA):TE:=fun σ H Q=>d σ H fun x c=>∃a dx fs,x=.ref a/\c a=Z (.ins C dx fs)/\fs.lookup m=Y /\
 t σ c fun vs e=>sp (x::(vs++b)) e Q E
def aIz(C:Uf)(sp:Sp)(a:Tf)(E:XK)(t:TA):TE:=fun σ H Q=>t σ H fun vs b=>∀x dx,b x=Y->b dx=Y->dx≠x->
 sp (.ref x::(vs++a)) (upd (upd b dx (.own x)) x (.ins C dx [])) (fun v c=>v=.non/\Q (.ref x) c) E
def Binds(K:Fg)(fd:FuncData)(ps:Te)(ds:T6):Prop:=
 ∀(s:Ue)(us:T6),K.In s.heap->(us++ds).length=ps.length->BindsTo s fd ⟨us,[]⟩ (ps.zip (us++ds))
def Binds.all{ps:Te}(h:∀us:T6,us.length=ps.length->bindArgs fd ⟨us,[]⟩=pure (ps.zip us)):Binds K fd ps []:=fun s us _ a=>by
 rw[L6]at a ⊢;exact .of_eq (h us a)
def DN(CX:CXT)(X:Cx)(E:XK):Prop:=∀(pins:T3)(σ:St)(H:Hp)(s:Ue)(e:Uc)(a:Ue),Inv X pins σ H s->CX X.stack H s E e a->X.xe e a
section
variable{X:Cx}{CX:CXT}{k:Nat}{f C:Uf}{fd:FuncData}{ps:Te}{sp:Sp}{dvs:Tf}{ds:T6}{E:XK}{x m:Str}{p pos apos:Pos}{e o:Ug}{es:Tb}{ta:TE}{t:TA}
def aEz{σ:St}{H:Hp}{s:Ue}{vs:Tf}(F:jH X.prog X.w X.K X.mg X.base CX k f fd ps sp q)(c:cE k X.A q)(d:Binds X.K fd ps ds)(hd:bE dvs ds)(g:DN CX X E)
 (I:Inv X pins σ H s) (r:bE vs us) (h:sp (vs++dvs) H Q E):wpAny (model X.prog X.w) X.A (call (.ref f) us) (EP X pins σ Q) X.xe s:=by
 have b:=r.append hd;have i:(us++ds).length=ps.length:=by rw[<- b.length];exact F.len _ _ _ _ h
 refine wpAny_call (A0z (F.run X.A X.stack s H ⟨us,[]⟩ (us++ds) (vs++dvs) Q E c I.env0 (d s us I.kIn i) b h) fun r j a=>?_);cases r with
 |error e=>exact g pins σ H s e j I a
 |ok fl=>
  cases fl with
  |ret u=>exact I.after a
  |next=>exact False.elim a
  |brk=>exact False.elim a
  |cont=>exact False.elim a
def VQ{q:Bool}(F:jH X.prog X.w X.K X.mg X.base CX k f fd ps sp q)(d:cE k X.A q)(g:Gl X x)(hm:X.mg x=Z (.ref f))(i:W.keepIn X.K (.ref f)=true)(j:Binds X.K fd ps ds)(hd:bE dvs ds)(l:DN CX X E)
 (ha:PA X (e::es) t) (a:(x==("__debug__":Str))=false:=by decide) (n:starEach (e::es) X.env=(false,eval e X.env)::starEach es X.env:=by rfl) (b:(backTo pos<|starEach es X.env).any (·.1)=false:=by rfl):
 PE X (.Call (.Name x p) (e::es) [] pos) (aBD sp dvs E t):=by
 intro pins s σ H Q I h;refine Y9<|tG I g hm ?_ a;refine A2i I.ok.mod.kin i (thn (ha pos pins s σ H _ I h) fun us s1 ⟨vs,u,c,r,q⟩=>⟨c.kIn,?_⟩) n b;exact aEz F d j hd l c r q
def aFG(v:PE X o ta)(c:Cls X.K C)(hm:aEP X.K C m f)(F:jH X.prog X.w X.K X.mg X.base CX k f fd ps sp)(y:cE k X.A)(z:Binds X.K fd ps ds)(hd:bE dvs ds)(B:DN CX X E)(ha:PA X (e::es) t)
 (b:starEach (e::es) X.env=(false,eval e X.env)::starEach es X.env:=by rfl) (d:(backTo pos<|starEach es X.env).any (·.1)=false:=by rfl)
 (ht:eval (.Call (.Attribute o m apos) (e::es) [] pos) X.env=(do
  let g <- eval o X.env
  standAt apos.atName
  let(f,first) <- holding [g] (getMethod g m n)
  callWith pos f first (backTo pos (starEach (e::es) X.env)) (backToKw pos (keywordEach [] X.env))):=by rfl):
 PE X (.Call (.Attribute o m apos) (e::es) [] pos) (aIk C m sp dvs E ta t):=by
 intro pins s σ H Q I h;refine W.methodCall_KW (thn (v pins s σ H _ I h) fun u s1 D=>?_) ht;obtain⟨x,G,i,J,a,dx,fs,ex,L,l,q⟩:=D;subst ex;obtain rfl:=J;refine BO i L c hm l ?_;refine A2i I.ok.mod.kin hm.kp (thn (ha pos pins s1 σ G _ i q) fun us s2 ⟨vs,N,j,r,M⟩=>⟨j.kIn,?_⟩) b d;exact aEz (vs:=.ref a::vs) F y z hd B j (.cons rfl r) M
structure Mk(K:Fg)(C f:Uf):Prop where
 makes:W.makesIn K C=true
 init:W.findIn K (.ref C) "__init__"=Z (Z (.ref f))
 fn:W.isFn K (.ref f)=true
 kp:W.keepIn K (.ref C)=true
def aBf{σ:St}{H:Hp}{s:Ue}{Q:VK}(M:Mk X.K C f)(F:jH X.prog X.w X.K X.mg X.base CX k f fd ps sp)(i:cE (k+1) X.A)(j:Binds X.K fd ps ds)(hd:bE dvs ds)
 (l:∀H s e b,Inv X pins σ H s->CX X.stack H s E e b->X.xe e b) (I:Inv X pins σ H s) (r:bE vs us)
 (h:∀x dx,H x=Y->H dx=Y->dx≠x->sp (.ref x::(vs++dvs)) (upd (upd H dx (.own x)) x (.ins C dx [])) (fun v n=>v=.non/\Q (.ref x) n) E):
 wpAny (model X.prog X.w) X.A (call (.ref C) us) (EP X pins σ Q) X.xe s:=by
 have d:=h (s.heap.objs.size+1) s.heap.objs.size (I.hok.fresh<|A1t _) (I.hok.fresh<|A8 _)<|C3<|S6 _;have c:=Inv.made (C:=C) I;have g:bE (V.ref (s.heap.objs.size+1)::(vs++dvs)) (Value.ref (s.heap.objs.size+1)::(us++ds)):=.cons rfl (r.append hd)
 have q:(Value.ref (s.heap.objs.size+1)::us++ds).length=ps.length:=by
  have e:=g.length;rw[F.len _ _ _ _ d]at e;exact e.symm
 refine wpAny_call (aDW I.kIn M.makes M.init (Z4.mp M.fn) (A0z (F.run _ X.stack _ _ ⟨Value.ref (s.heap.objs.size+1)::us,[]⟩ (Value.ref (s.heap.objs.size+1)::(us++ds)) _ _ E (i.make C us [])
  (c.env0.make C us []) (j _ (Value.ref (s.heap.objs.size+1)::us) c.kIn q) g d) fun r b a=>?_))
 cases r with
 |error e=>exact l _ _ e b c a
 |ok fl=>
  cases fl with
  |ret u=>
   obtain⟨v,H',y,z,ev,B⟩:=c.after a;subst ev;exact⟨z,⟨V.ref (s.heap.objs.size+1),H',y,rfl,B⟩⟩
  |next=>exact False.elim a
  |brk=>exact False.elim a
  |cont=>exact False.elim a
def aGh(M:Mk X.K C f)(F:jH X.prog X.w X.K X.mg X.base CX k f fd ps sp)(d:cE (k+1) X.A)(g:Gl X x)(hm:X.mg x=Z (.ref C))(i:Binds X.K fd ps ds)(hd:bE dvs ds)(j:DN CX X E)
 (ha:PA X (e::es) t) (a:(x==("__debug__":Str))=false:=by decide) (l:starEach (e::es) X.env=(false,eval e X.env)::starEach es X.env:=by rfl) (b:(backTo pos<|starEach es X.env).any (·.1)=false:=by rfl):
 PE X (.Call (.Name x p) (e::es) [] pos) (aIz C sp dvs E t):=by
 intro pins s σ H Q I h;refine Y9<|tG I g hm ?_ a;refine A2i I.ok.mod.kin M.kp (thn (ha pos pins s σ H _ I h) fun us s1 ⟨vs,n,c,r,q⟩=>⟨c.kIn,?_⟩) l b;exact aBf M F d i hd (j pins σ) c r q
end
structure aU(N P:Te)(sc:Scope):Prop where
 kind:sc.kind=.function
 co:sc.isCoroutine=false
 gen:sc.isGenerator=false
 nd:N.Nodup
 pre:N.take P.length=P
 par:∀x∈P,sc.names.lookup x=Z .local\/sc.names.lookup x=Z .cell
 nofree:∀y∈sc.names,y.2≠.free
theorem HQ{kindOf:Tv}{x:Str}:∀{binds:Tx}{m:Str->Ti},(∀v,(x,v)∉binds)->bindL kindOf binds m x=m x
 |[],_=>51
 |(n,v)::r,m=>fun h=>by
  unfold bindL;rw[HQ fun w a=>h w<|A9 _ a];split
  .have:x≠n:=54
   simp[this]
  .rfl
theorem IL{kindOf:Tv}{x:Str}:∀{binds:Tx}{m:Str->Ti},(∀v,(x,v)∉binds)->bindC kindOf binds m x=m x
 |[],_=>51
 |(n,v)::r,m=>fun h=>by
  unfold bindC;rw[IL fun w a=>h w<|A9 _ a];split
  .rfl
  .have:x≠n:=54
   simp[this]
theorem GQ{kindOf:Tv}{x:Str}{v:Uc}:∀{P:Te}{vs:T6}{i:Nat}{m:Str->Ti},P.Nodup->P[i]?=Z x->vs[i]?=Z v->kindOf x=Z .local->
 bindL kindOf (P.zip vs) m x=Z v
 |[],_,_,_=>fun _ h _ _=>by simp at h
 |_::_,[],_,_=>fun _ _ h _=>by simp at h
 |p::P,w::vs,0,m=>fun nd a b c=>by
  simp at a b;subst a;subst b;show bindL kindOf ((p,w)::P.zip vs) m p=_;unfold bindL;rw[HQ fun v d=>(U1.mp nd).1 (List.of_mem_zip d).1,A7 c];simp
 |p::P,w::vs,i+1,m=>fun nd a b c=>by
  unfold bindL;exact GQ (U1.mp nd).2 (by assumption) 54 c
theorem IJ{kindOf:Tv}{x:Str}{v:Uc}:∀{P:Te}{vs:T6}{i:Nat}{m:Str->Ti},P.Nodup->P[i]?=Z x->vs[i]?=Z v->kindOf x≠Z .local->
 bindC kindOf (P.zip vs) m x=Z v
 |[],_,_,_=>fun _ h _ _=>by simp at h
 |_::_,[],_,_=>fun _ _ h _=>by simp at h
 |p::P,w::vs,0,m=>fun nd a b c=>by
  simp at a b;subst a;subst b;show bindC kindOf ((p,w)::P.zip vs) m p=_;unfold bindC;rw[IL fun v d=>(U1.mp nd).1 (List.of_mem_zip d).1,B7 c];simp
 |p::P,w::vs,i+1,m=>fun nd a b c=>by
  unfold bindC;exact IJ (U1.mp nd).2 (by assumption) 54 c
def start(N:Te)(vs:Tf):St:=vs.map Z++List.replicate (N.length-vs.length) Y
noncomputable def lM(CX:CXT)(P:Uh)(w:World)(K:Fg)(mg:Str->Ti)(base:Heap)(N:Te)(qual:Str)(scope:Scope)(f:Uf)(cd:Uc)(A:Ui)(outer:Ua Env)(s:Ue)(H:Hp)(E:XK)(q:Bool:=true):Cx where
 prog:=P
 w:=w
 K:=K
 mg:=mg
 base:=base
 A:=A.deeper<|envOfC qual scope s.heap.objs.size f cd
 N:=N
 s₀:=s
 H₀:=H
 env:=envOfC qual scope s.heap.objs.size f cd
 outer:=outer
 stack:=envOfC qual scope s.heap.objs.size f cd::outer
 ex:=[]
 calm:=q
 fn:=fun _=>true
 pn:=[]
 xe:=fun e s'=>wpAny (model P w) (A.deeper<|envOfC qual scope s.heap.objs.size f cd) (leaving (envOfC qual scope s.heap.objs.size f cd) e) (fun _ s''=>CX outer H s E e s'') (fun e' s''=>CX outer H s E e' s'') s'
def NS{sc:Scope}(h:sc.names.lookup x=Z .cell):∃c,(cellsFrom n sc.names []).lookup x=Z c:=by
 have q:=W.cellsFrom_some sc.names n [] (.inl h);exact A1e.mp q
def ZQ{P:Uh}{K:Fg}{A:Ui}{s s1:Ue}{H:Hp}{vs:Tf}{q:Bool}
 (S:aU N ps scope) (hd:q=true->A.handled=Y) (g:SC P w K mg base A outer s H) (F:vs.length=ps.length) (r:bE vs us)
 (x:InCallC s s.heap.objs.size (bindL (envOfC qual scope s.heap.objs.size f n).kindOf (ps.zip us) fun _=>Y) (cellsFrom (s.heap.objs.size+1) scope.names []) (bindC (envOfC qual scope s.heap.objs.size f n).kindOf (ps.zip us) fun _=>Y) s1):
 Inv (lM CX P w K mg base N qual scope f n A outer s H E q) [] (start N vs) H s1:=by
 have C:ps.length<=N.length:=by have:=A0h List.length S.pre;rw[Z9]at this;omega
 obtain⟨o,tk,rfl,t⟩:=x.done;have j:∀b:Uf,b∉(lM CX P w K mg base N qual scope f n A outer s H E q).ex:=fun b z=>absurd (show b∈([]:Td)from z) 53
 refine⟨⟨g.mod,S.kind,rfl,rfl,A8 _,fun y z c o d=>?_,fun y hy=>?_,fun y c _ h=>?_,hd,Around.frames_deeper g.frames,.inr ⟨rfl,rfl⟩,fun b z=>absurd z<|j b,g.bs,g.bsz,fun b _ _=>j b,fun b z=>absurd z<|j b,g.funs,g.frf⟩,
  rfl,g.bare,Un.kept t,⟨_,x.toInCall.ns,fun i y v o d G=>?_⟩,fun y c h=>⟨_,x.cell y c h⟩,g.hok.fresh (A8 _),fun y c h=>?_,fun p l=>absurd (show p∈([]:T3)from l) 53,g.hok.kept t,?_⟩
 .exact name_of_addr x.apart (O8 o)<|O8 d
 .have hy:=hy;rcases hy with hy|hy
  .exact NS hy
  .exact absurd rfl<|S.nofree _<|O8 hy
 .exact A1l<|x.above y c<|O8 h
 .have hi:i<vs.length:=by
   unfold start at d;by_cases hi:i<vs.length
   .exact hi
   .rw[Y0 54]at d;rw[List.getElem?_replicate]at d;split at d<;>cases d
  have ha:vs[i]?=Z v:=by
   unfold start at d;rw[C8 54,D6]at d;cases e:vs[i]? with
   |none=>rw[e]at d;cases d
   |some a=>rw[e]at d;cases (d);rfl
  obtain⟨u,B,D⟩:=r.get ha
  have l:ps[i]?=Z y:=by
   rw[<- S.pre,List.getElem?_take_of_lt 50];exact o
  have m:ps.Nodup:=by rw[<- S.pre];exact S.nd.sublist<|List.take_sublist _ _
  refine⟨u,D,?_⟩;rcases S.par y (O6 l)with k|k
  .exact .inl ⟨k,GQ m l B k⟩
  .obtain⟨c,e⟩:=NS k;refine .inr ⟨.inl k,c,e,?_⟩;have q:=x.cell y c e;rw[IJ m l B (by show scope.names.lookup y≠_;rw[k];decide)]at q;exact q
 .exact g.hok.fresh<|A1l<|x.above y c<|O8 h
 .unfold start;show _=N.length;rw[C1,A4,List.length_replicate];omega
def aHV{P:Uh}{K:Fg}{F kV doc oc:Uc}{od:Tk}
 {osl:Array (Ti)} {sp:Sp} {q:Bool} (G:K.lookup f=Z ⟨oc,od,.func (W.fnOf g qual a c scope F kV doc pm an cdv ct),osl⟩) (p:W.codeIn K cdv qual=true) (S:aU N ps scope)
 (len:∀vs H Q E,sp vs H Q E->vs.length=ps.length)
 (h:∀(A:Ui)(outer:Ua Env)(s:Ue)(H:Hp)(vs:Tf)(Q:VK)(E:XK),cE k (A.deeper<|envOfC qual scope s.heap.objs.size f cdv) q->sp vs H Q E->
  ∃t,PSs (lM CX P w K mg base N qual scope f cdv A outer s H E q) c t/\t { nx:=fun _ H'=>Q .non H',rt:=Q } (start N vs) H):
 jH P w K mg base CX (k+1) f (W.fnOf g qual a c scope F kV doc pm an cdv ct) ps sp q:=by
 refine⟨len,fun A outer s H args us vs Q E z j L r l=>?_⟩;have M:=len _ _ _ _ l;have KX:=j.mod.kin.keeps fun b o e=>(j.bs b o e).1;have B:=j.mod.nolimit.keeps fun b o e=>(j.bs b o e).1
 have i:∀y∈ps.zip us,scope.names.lookup y.1=Z .local\/(scope.names.lookup y.1=Z .cell/\((cellsFrom (s.heap.objs.size+1) scope.names []).lookup y.1).isSome=true):=fun⟨n,v⟩ O=>by
  rcases S.par n (List.of_mem_zip O).1 with q|q
  .exact .inl q
  .exact .inr ⟨q,W.cellsFrom_some _ _ _ (.inl q)⟩
 refine codeAny_call_function z.depth (KX _ _ G) rfl S.co S.gen rfl (W.codeRec_of KX p)<|L _ _ _ _ ?_;refine wpAny_newFunctionEnv_cells S.kind i fun env R s1 x=>?_;subst R;refine⟨B.keeps x.toInCall.keep,codeAny_func ?_⟩;obtain⟨t,ht,T⟩:=h A outer s H vs Q E (z.deeper _) l;have I:Inv (lM CX P w K mg base N qual scope f cdv A outer s H E q) [] (start N vs) H s1:=ZQ S z.hd j M r x;refine E5 (ht [] s1 (start N vs) H _ I T) (fun fl C hs=>?_) fun e C hs=>hs
 have m:∀{d:St}{H':Hp}{v:V}{u:Uc},Inv (lM CX P w K mg base N qual scope f cdv A outer s H E q) [] d H' C->RelV v u->Q v H'->CE outer P w H s Q u C:=
  fun{d H' v u} J D q=>⟨v,H',J.os,J.bare,J.base,J.hok,D,q⟩
 cases fl with
 |ret u=>
  obtain⟨v,d,H',J,D,q⟩:=hs;exact m J D q
 |next=>
  obtain⟨d,H',J,q⟩:=hs;exact m (v:=V.non) J rfl q
 |brk=>
  obtain⟨_,_,_,q⟩:=hs;exact False.elim q
 |cont=>
  obtain⟨_,_,_,q⟩:=hs;exact False.elim q
section
variable{X:Cx}{x:Str}{p pos:Pos}{e:Ug}{es:Tb}{t:TA}{id T:String}{r:Tf->Hp->VK->Prop}
def tCB(r:Tf->Hp->VK->Prop)(t:TA):TE:=fun σ H Q=>t σ H fun vs a=>r vs a Q
def wZ(c:fP X (.builtin id) r)(d:Gl X x)(hm:X.mg x=Y)(f:bootBuiltins x=Z (.builtin id))(ha:PA X (e::es) t)(hn:x≠"__name__":=by decide)(a:(x==("__debug__":Str))=false:=by decide)
 (g:starEach (e::es) X.env=(false,eval e X.env)::starEach es X.env:=by rfl) (b:(backTo pos<|starEach es X.env).any (·.1)=false:=by rfl):PE X (.Call (.Name x p) (e::es) [] pos) (tCB r t):=by
 intro pins s σ H Q I h;refine Y9<|iH I d hm f ?_ hn a;exact A0n (thn (ha pos pins s σ H _ I h) fun us s1 ⟨vs,i,j,k,l⟩=>c pins s1 σ i vs us Q j k l) g b
def aAk(c:fP X (.type T) r)(d:Gl X x)(hm:X.mg x=Y)(f:bootBuiltins x=Z (.type T))(ha:PA X (e::es) t)(hn:x≠"__name__":=by decide)(a:(x==("__debug__":Str))=false:=by decide)
 (g:starEach (e::es) X.env=(false,eval e X.env)::starEach es X.env:=by rfl) (b:(backTo pos<|starEach es X.env).any (·.1)=false:=by rfl):PE X (.Call (.Name x p) (e::es) [] pos) (tCB r t):=by
 intro pins s σ H Q I h;refine Y9<|iH I d hm f ?_ hn a;exact U6 (thn (ha pos pins s σ H _ I h) fun us s1 ⟨vs,i,j,k,l⟩=>c pins s1 σ i vs us Q j k l) g b
end
end L2
namespace HT
open PySem PyProof.Rows
noncomputable def lexLt:Ta->Ta->Bool
 |[],[]=>false
 |[],_::_=>true
 |_::_,[]=>false
 |x::xs,y::a=>if x=y then lexLt xs a else decide (x<y)
def SV(x y:Int)(xs ys:Ta):lexLt (x::xs) (y::ys)=if x=y then lexLt xs ys else decide (x<y):=rfl
def lexLt_nil_nil:lexLt [] []=false:=rfl
def lexLt_nil_cons(y:Int)(ys:Ta):lexLt [] (y::ys)=true:=rfl
def lexLt_cons_nil(x:Int)(xs:Ta):lexLt (x::xs) []=false:=rfl
def aCA(A:Ui)(s:Ue)(a:Int)(t:Tok)(c:Int)(u:Tok):∃e,SeqAt.EqAt A s (.int a t) (.int c u) e/\(e=true↔a=c):=
 ⟨(a==c),SeqAt.EqAt.int_int a t c u,53⟩
def aAH(A:Ui)(s:Ue)(a:Int)(t:Tok)(c:Int)(u:Tok)(prog:Uh)(w:World)(E:T2)(Q:T2)(h:Q (.bool (decide (a<c))) s):
 wpAny (model prog w) A (richCompare .Lt (.int a t) (.int c u)) Q E s:=
 (PyProof.Rows.lt_int h:wpAny (model prog w) A (compareOp .Lt (.int a t) (.int c u)) Q E s)
section
open PySem.SeqAt
open PySem.AutoSeq1 (wpAny_loadPart')
open PySem.MeetsSeq PySem.MeetsSeq2 PySem.MeetsSeq3
def FR(l b:Uf)(items f:Tl)(n M:Nat)(N F:Tk)(sl G:Array (Ti))(ns ms:Ta)(hi:IntsAre items.toList ns)(K:IntsAre f.toList ms):
 Meets (Builtin.«tuple.__lt__» ⟨[.ref l,.ref b],[]⟩)
  (fun _ R s=>s.heap.get? l=Z { cls:=.type "tuple",dict:=N,data:=.seq items n,slots:=sl }/\s.heap.get? b=Z { cls:=.type "tuple",dict:=F,data:=.seq f M,slots:=G } /\
   R (.ok (.ret (.bool (lexLt ns ms)))) s):=
 .of_wp fun prog w A R s h=>by
  obtain⟨E,g,d,tk,os⟩:=s;obtain⟨O,P,h⟩:=h;have f2:=AutoSeq1.sub_tuple_tuple;have V:items.size=ns.length:=by rw[<- hi.length];simp
  have W:f.size=ms.length:=by rw[<- K.length];simp
  wp_walk using A1n O,A1n P,wpAny_forIn_list _ (fun rest b H=>b.1=Y/\H=⟨E,g,d,tk,os⟩/\∃(vs ws:T6)(j k:Ta),rest=vs.zip ws /\
   IntsAre vs j/\IntsAre ws k/\j.length+f.size=k.length+items.size/\R (.ok (.ret (.bool (lexLt j k)))) ⟨E,g,d,tk,os⟩) _
  case turn=>
   rintro⟨y,x⟩ rest b H ⟨B,rfl,vs,ws,j,k,r,v,m,i,o⟩;cases v with
   |nil=>rw[List.zip_nil_left]at r;cases r
   |cons a t C=>
    cases m with
    |nil=>rw[List.zip_nil_right]at r;cases r
    |cons c u D=>
     injection r with I z
     injection I with Q S
     subst Q S;rw[SV]at o;simp only[D3]at i;obtain⟨e,T,p⟩:=aCA A.in1 ⟨E,g,d,tk,os⟩ a t c u;refine A0<|T prog w _ _ ?_;cases e with
     |true=>
      rw[A7 (p.mp rfl)]at o
      wp_walk
      exact⟨rfl,rfl,_,_,_,_,z,C,D,50,o⟩
     |false=>
      rw[B7 fun q=>absurd (p.mpr q) C6]at o;have J:=aAH A.in1 ⟨E,g,d,tk,os⟩ a t c u prog w
      wp_walk using J
      exact⟨_,rfl,by simpa using o⟩
  case fin=>
   rintro⟨X,b2⟩ H ⟨B,rfl,vs,ws,j,k,r,v,m,i,o⟩;subst B
   have L:lexLt j k=decide (items.size<f.size):=by
    cases v with
    |nil=>
     cases m with
     |nil=>
      exact(F6 50).symm
     |cons c u U=>
      simp only[A1h,D3]at i;exact(C4 50).symm
    |cons a t L=>
     cases m with
     |nil=>
      simp only[A1h,D3]at i;exact(F6 50).symm
     |cons c u U=>
      cases r
   rw[L]at o
   wp_walk
   exact⟨_,rfl,by simpa[Builtin.Tuple.tupleCompareSizes]using o⟩
  case h=>
   exact⟨rfl,rfl,items.toList,f.toList,ns,ms,rfl,hi,K,50,h⟩
end
section
variable{prog:Uh}{w:World}{A:Ui}{E:T2}{s:Ue}
def lt_tupInts{Q:T2}(k:IsTup s.heap l items)(m:IsTup s.heap b a)(hi:IntsAre items.toList ns)(o:IntsAre a.toList ms)
 (p:A.units<cLine) (h:Q (.bool (lexLt ns ms)) s):wpAny (model prog w) A (compareOp .Lt (.ref l) (.ref b)) Q E s:=by
 obtain⟨⟨cls,q,data,sl⟩,i,r,n,hd⟩:=id k;obtain⟨⟨j,d,data2,e⟩,c,f,t,g⟩:=id m;subst r hd f g
 exact richCompare_meets_room (op:=.Lt) ⟨_,i,rfl⟩ ⟨_,c,rfl⟩ F.slot_tuple_lt F.entry_tuple_lt (F.args_tuple_lt_2 _ _) (FR l b items a n t q d sl e ns ms hi o)
  ⟨i,c,show Value.bool (lexLt ns ms)≠Value.notImplemented/\Q (.bool (lexLt ns ms)) s from⟨(fun x=>nomatch x),h⟩⟩ p
def cat_tup{vs ws:T6}{Q:T2}(ht:IsTup s.heap t vs.toArray)(m:IsTup s.heap b ws.toArray)(u:vs≠[])
 (o:ws=[]->Q (.ref t) s) (p:ws≠[]->Q (.ref s.heap.objs.size) { s with heap:=s.heap.push { cls:=.type "tuple",data:=.seq (vs++ws).toArray } })
 (q:vs.length+ws.length<=sizeLine):wpAny (model prog w) A (binaryOp .Add (.ref t) (.ref b)) Q E s:=by
 obtain⟨⟨cls,j,data,sl⟩,f,r,n,hd⟩:=id ht;obtain⟨⟨k,c,data2,d⟩,a,g,l,h⟩:=id m;subst r hd g h;have e:vs.toArray++ws.toArray=(vs++ws).toArray:=53
 by_cases i:ws=[]
 .exact concat_meets ⟨_,f,rfl⟩ ⟨_,a,rfl⟩ noFill_tuple_add seq_tuple_add F.slot_tuple_add F.entry_tuple_add (F.args_tuple_add_2 _ _)
   (tuple_addW1 t b vs.toArray ws.toArray n l j c sl d 54 (by simp[i])) ⟨f,a,o i⟩
 .refine concat_meets ⟨_,f,rfl⟩ ⟨_,a,rfl⟩ noFill_tuple_add seq_tuple_add F.slot_tuple_add F.entry_tuple_add (F.args_tuple_add_2 _ _)
   (tuple_addW2 t b vs.toArray ws.toArray n l j c sl d 54 54 50) ⟨f,a,?_⟩
  rw[e];exact p i
def sIx(n d:Nat):To->Nat
 |none=>d
 |some v=>if v<0 then(v+(n:Int)).toNat else min v.toNat n
def sIx_none(n d:Nat):sIx n d Y=d:=rfl
def sIx_nat(n d k:Nat):sIx n d (Z (k:Int))=min k n:=rfl
def sIx_le(n d:Nat)(hd:d<=n)(o:To):sIx n d o<=n:=by
 cases o with
 |none=>exact hd
 |some v=>
  show(if v<0 then(v+(n:Int)).toNat else min v.toNat n)<=n;by_cases a:v<0
  .rw[A7 a];omega
  .rw[B7 a];exact Nat.min_le_right _ _
def VB(v:Int)(n d:Nat):(if v<0 then max (v+(n:Int)) 0 else min v (n:Int))=((sIx n d (Z v):Nat):Int):=by
 show(if v<0 then max (v+(n:Int)) 0 else min v (n:Int))=(((if v<0 then(v+(n:Int)).toNat else min v.toNat n):Nat):Int);by_cases a:v<0
 .simp only[A7 a];omega
 .simp only[B7 a];omega
def SB(lo hi:To)(n:Nat):Builtin.Slice.sliceAdjust lo hi 1 (n:Int)=(((sIx n 0 lo:Nat):Int),((sIx n n hi:Nat):Int)):=by
 have a:¬((1:Int)<0):=50
 unfold Builtin.Slice.sliceAdjust;refine Prod.ext ?_ ?_
 .cases lo with
  |none=>rfl
  |some v=>exact VB v n 0
 .cases hi with
  |none=>rfl
  |some v=>exact VB v n n
def TR(i j:Nat):Builtin.Slice.slicePlaces (i:Int) (j:Int) 1=j-i:=by
 unfold Builtin.Slice.slicePlaces;split<;>omega
def vD{Q:To->Ue->Prop}(p:IsPart v o)(h:Q o s):wpAny (model prog w) A (Builtin.Slice.slicePartIndex v) Q E s:=by
 cases p with
 |none=>exact slicePart_none h
 |int i t=>exact slicePart_int h
def nK{lo:To}{n:Nat}{Q:Int×Int×Nat->Ue->Prop}(hs:s.heap.IsSliceOf sl vl c .none)(d:IsPart vl lo)(e:IsPart c hi)
 (h:Q (((sIx n 0 lo:Nat):Int),1,sIx n n hi-sIx n 0 lo) s):wpAny (model prog w) A (Builtin.Slice.sliceApplied (.ref sl)<|pure (n:Int)) Q E s:=by
 obtain⟨os,a,f,b⟩:=id hs;refine A0<|A0<|F8 a b rfl<|A0<|F8 a b rfl<|A0<|F8 a b rfl<|A3 ?_;refine A0<|slicePart_none ?_;refine A0<|vD d<|A0<|vD e<|A0<|A3 ?_;show wpAny _ _ (match Builtin.Slice.sliceAdjust lo hi 1 (n:Int)with|(lo,hi)=>pure (lo,(1:Int),Builtin.Slice.slicePlaces lo hi 1)) _ _ s;rw[SB lo hi n];show wpAny _ _ (pure (((sIx n 0 lo:Nat):Int),(1:Int),Builtin.Slice.slicePlaces ((sIx n 0 lo:Nat):Int) ((sIx n n hi:Nat):Int) 1)) _ _ s;rw[TR];exact A3 h
def aCT(xs:Tl)(i k:Nat):((List.range k).filterMap fun(m:Nat)=>xs[((i:Int)+(m:Int)*1).toNat]?).toArray=((xs.toList.drop i).take k).toArray:=by
 have e:(fun(m:Nat)=>xs[((i:Int)+(m:Int)*1).toNat]?)=fun m=>xs[i+m]?:=by
  funext m;have:((i:Int)+(m:Int)*1).toNat=i+m:=50
  rw[this]
 rw[e];have:=pick_run xs i k;rw[A2j]at this;have a:((fun x=>xs[x]?) ∘ fun x=>i+x)=fun m=>xs[i+m]?:=rfl;rw[a]at this;rw[this]
def getItem_tuple_cut{lo:To}{Q:T2}(ht:IsTup s.heap t items)(hs:s.heap.IsSliceOf sl vl f .none)(g:IsPart vl lo)(i:IsPart f hi)
 (j:¬(sIx items.size 0 lo=0/\sIx items.size items.size hi=items.size))
 (h:Q (.ref s.heap.objs.size) { s with heap:=s.heap.push { cls:=.type "tuple",data:=.seq ((items.toList.drop<|sIx items.size 0 lo).take (sIx items.size items.size hi-sIx items.size 0 lo)).toArray } })
 (k:items.size<=sizeLine):wpAny (model prog w) A (getItem (.ref t) (.ref sl)) Q E s:=by
 have a:sizeOk (.seq ((items.toList.drop<|sIx items.size 0 lo).take (sIx items.size items.size hi-sIx items.size 0 lo)).toArray):=by
  show((items.toList.drop<|sIx items.size 0 lo).take (sIx items.size items.size hi-sIx items.size 0 lo)).toArray.size<=sizeLine;rw[F4,Z9,A0o,E8];omega
 obtain⟨os,b,c,l⟩:=id hs;have d:s.TypeIs (.ref sl) "slice":=⟨os,b,c⟩;unfold getItem
 try with_reducible refine J8 ?_
 first|refine A0 (A3 ?_)|skip
 refine A0<|wpAny_sequenceKey ht.typeIs 52 ?_
 refine A0 (S8 ht.typeIs U9
  (S9 U9 ht.typeIs entry_tuple_getitem ?_ (args_tuple_getitem _ _)))
 show wpAny _ _ (Builtin.Tuple.tupleItemsOf (.ref t) >>= _) _ _ s;refine A0<|tupleItemsOf_ ht ?_;refine A0<|A1a d ?_;refine A0<|nK hs g i ?_
 have e:¬((((sIx items.size 0 lo:Nat):Int)==0&&(1:Int)==1&&(sIx items.size items.size hi-sIx items.size 0 lo)==items.size)=true):=by
  intro q;rw[B4,B4]at q;have m:=eq_of_beq q.1.1;have n:=eq_of_beq q.2;exact j ⟨50,50⟩
 show wpAny _ _ (if (((sIx items.size 0 lo:Nat):Int)==0&&(1:Int)==1&&(sIx items.size items.size hi-sIx items.size 0 lo)==items.size)=true then _ else _) _ _ s;rw[B7 e,aCT]
 first
  |exact A0<|E4 (A3 ⟨_,rfl,A3 h⟩) a
  |exact A0<|E4 (A0<|A3<|A3 ⟨_,rfl,A3 h⟩) a
  |exact A0<|A0<|E4 (A3<|A3 ⟨_,rfl,A3 h⟩) a
  |exact A0<|A0<|E4 (A3 ⟨_,rfl,A3 h⟩) a
end
end HT
namespace L2
variable{H:Hp}{σ:St}{s:Ue}{pos:Pos}
open PySem PySem.Spec PyProof.Rows
abbrev TO:=St->Hp->(To->Hp->Prop)->Prop
def PO(X:Cx)(e:Ub Ug)(t:TO):Prop:=
 ∀(pins:T3)(s:Ue)(σ:St)(H:Hp)(Q:To->Hp->Prop),Inv X pins σ H s->t σ H Q->
  wpAny (model X.prog X.w) X.A (evalPart e X.env) (fun u a=>∃o H',Inv X pins σ H' a/\IsPart u o/\Q o H') X.xe s
def XI:TO:=fun _ H Q=>Q Y H
def aIi(t:TE):TO:=fun σ H Q=>t σ H fun x a=>∃i,x=.int i/\Q (Z i) a
def intsAre_of{ns:Ta}:∀{us:T6},bE (ns.map V.int) us->IntsAre us ns:=by
 induction ns with
 |nil=>intro us r;rw[List.map_nil]at r;cases r;exact .nil
 |cons n ns ih=>
  intro us r;cases r with
  |cons a b=>
   obtain⟨t,e⟩:=a;subst e;exact .cons n t (ih b)
section
variable{X:Cx}{e:Ug}{te:TE}{lo hi:Ub Ug}{tl th:TO}{pos p2:Pos}
def aGb:PO X Y XI:=by
 intro pins s σ H Q I h;exact A3 ⟨Y,H,I,.none,h⟩
def aGB(h:PE X e te):PO X (Z e) (aIi te):=by
 intro pins s σ H Q I a;refine thn (h pins s σ H _ I a) fun u s1 ⟨x,b,c,d,f⟩=>?_;obtain⟨i,rfl,q⟩:=f;obtain⟨t,rfl⟩:=d;exact⟨Z i,b,c,.int i t,q⟩
def SlR(X:Cx)(r:V->To->To->Hp->VK->Prop):Prop:=
 ∀(pins:T3)(s:Ue)(σ:St)(H:Hp)(x:V)(v vl a:Uc)(lo hi:To)(sl:Uf)(Q:VK),Inv X pins σ H s->RelV x v->s.heap.IsSliceOf sl vl a .none->IsPart vl lo->IsPart a hi->r x lo hi H Q->
  ∃T id,typeLookup (.type T) "__getitem__"=pure (Z (.builtin id))/\s.TypeIs v T/\wpAny (model X.prog X.w) X.A (getItem v (.ref sl)) (EP X pins σ Q) X.xe s
def SlR.or(h:SlR X r)(h':SlR X a):SlR X (fun x lo hi H Q=>r x lo hi H Q\/a x lo hi H Q):=by
 intro pins s σ H x v vl b lo hi sl Q I c hs d f q;rcases q with q|q
 .exact h pins s σ H x v vl b lo hi sl Q I c hs d f q
 .exact h' pins s σ H x v vl b lo hi sl Q I c hs d f q
def tSl(r:V->To->To->Hp->VK->Prop)(te:TE)(tl th:TO):TE:=fun σ H Q=>te σ H fun x a=>tl σ a fun l b=>th σ b fun u c=>r x l u c Q
def aCD{r:V->To->To->Hp->VK->Prop}(d:SlR X r)(f:PE X e te)(g:PO X lo tl)(i:PO X hi th):PE X (.Subscript e (.Slice lo hi Y p2) pos) (tSl r te tl th):=by
 intro pins s σ H Q I h;refine Subscript_ (thn (f pins s σ H _ I h) fun v s1 ⟨x,j,k,m,n⟩=>?_);refine wpAny_Slice (thn (g pins s1 σ j _ k n) fun vl s2 ⟨l,o,p,t,w⟩=>thn (i pins s2 σ o _ p w) fun a s3 ⟨u,c,y,z,A⟩=>?_);refine A3 ?_;have B:Inv X pins σ c { s3 with heap:=s3.heap.push { cls:=.type "slice",data:=.fields #[vl,a,.none] } }:=y.kept fun b ob q=>A2 _ q;obtain⟨T,id,hT,ht,C⟩:=d pins { s3 with heap:=s3.heap.push { cls:=.type "slice",data:=.fields #[vl,a,.none] } } σ c x v vl a l u s3.heap.objs.size Q B m (Heap.IsSliceOf.new ..) t z A;exact tail_any ht hT C rfl
def NU(xs:Tf)(lo hi:To):Tf:=(xs.drop<|HT.sIx xs.length 0 lo).take (HT.sIx xs.length xs.length hi-HT.sIx xs.length 0 lo)
def yT(xs:Tf)(lo hi:To):(NU xs lo hi).length<=xs.length:=by
 unfold NU;rw[Z9,A0o];omega
def aOo(K:Fg):V->To->To->Hp->VK->Prop:=fun x lo hi H Q=>∃a xs,x=.ref a/\SqT K H a xs /\
 ¬(HT.sIx xs.length 0 lo=0/\HT.sIx xs.length xs.length hi=xs.length)/\∀p,H p=Y->Q (.ref p) (upd H p (.tup (NU xs lo hi)))
def sl_tup:SlR X (aOo X.K):=by
 intro pins s σ H x v vl l lo hi sl Q I f hs g i h;obtain⟨a,xs,rfl,j,m,q⟩:=h;cases f;obtain⟨d,r,ht,k⟩:=I.tuple j;have c:d.toArray.size=xs.length:=by rw[F4];exact r.length.symm
 refine⟨"tuple",_,PyProof.Rows.slot_tuple_getitem.lookup,ht.typeIs,?_⟩;refine HT.getItem_tuple_cut ht hs g i 54 ?_ 50;rw[c];refine⟨.ref s.heap.objs.size,_,I.laid (fun b ob q=>A2 _ q) (A8 _) ?_,rfl,q _<|I.hok.fresh<|A8 _⟩;exact⟨E6 (yT xs lo hi) k,_,(r.drop<|HT.sIx xs.length 0 lo).take (HT.sIx xs.length xs.length hi-HT.sIx xs.length 0 lo),IsTup.new _ _⟩
def aBM(K:Fg):R2:=fun x y H Q=>∃a b xs c,x=.ref a/\y=.ref b/\SqT K H a xs/\SqT K H b c/\xs≠[]/\xs.length+c.length<=sizeLine /\
 (c=[]->Q (.ref a) H)/\(c≠[]->∀p,H p=Y->Q (.ref p) (upd H p (.tup (xs++c))))
def bE.nil_iff(r:bE xs us):us=[]↔xs=[]:=by
 cases r with
 |nil=>simp
 |cons _ _=>simp
def aFO:OpR X (binaryOp .Add) (aBM X.K):=by
 intro pins s σ H x y v u Q I i j h;obtain⟨a,b,xs,r,rfl,rfl,ha,k,l,f,m,n⟩:=h;cases i;cases j;obtain⟨o,d,p,_⟩:=I.tuple ha;obtain⟨g,c,p2,_⟩:=I.tuple k;refine HT.cat_tup p p2 (fun z=>l<|d.nil_iff.mp z) (fun z=>⟨.ref a,H,I,rfl,m<|c.nil_iff.mp z⟩) (fun z=>?_) (by rw[<- d.length,<- c.length];exact f);refine⟨.ref s.heap.objs.size,_,I.laid (fun b ob q=>A2 _ q) (A8 _) ?_,rfl,n (fun w=>z<|c.nil_iff.mpr w) _<|I.hok.fresh<|A8 _⟩;exact⟨by rw[C1];exact f,_,d.append c,IsTup.new _ _⟩
end
def ixN(n:Nat)(i:Int):Tj:=if 0<=i then(if i<n then Z i.toNat else Y)else if -(n:Int)<=i then Z (i+n).toNat else Y
def atI{a:Type}(xs:Ua a)(i:Int):Ub a:=(ixN xs.length i).bind fun j=>xs[j]?
def VR{n:Nat}{j:Nat}(h:ixN n i=Z j):seqIndex? i n=Z j/\j<n/\-(n:Int)<=i/\i<n:=by
 unfold ixN at h;by_cases b:0<=i
 .rw[A7 b]at h;by_cases a:i<n
  .rw[A7 a]at h;have e:=F0 h;exact⟨by rw[seqIndex_of b a,e],50,50,a⟩
  .rw[B7 a]at h;cases h
 .rw[B7 b]at h;by_cases a:-(n:Int)<=i
  .rw[A7 a]at h;have e:=F0 h;exact⟨by rw[seqIndex_neg 50 a,e],50,a,50⟩
  .rw[B7 a]at h;cases h
def JH{a:Type}{xs:Ua a}{v:a}(h:atI xs i=Z v):∃j,seqIndex? i xs.length=Z j/\xs[j]?=Z v/\j<xs.length/\-(xs.length:Int)<=i/\i<xs.length:=by
 unfold atI at h;cases e:ixN xs.length i with
 |none=>rw[e]at h;cases h
 |some j=>
  rw[e]at h;obtain⟨b,c,d,f⟩:=VR e;exact⟨j,b,h,c,d,f⟩
def wU{a:Type}{xs:Ua a}{j:Nat}{v:a}(h:xs[j]?=Z v):atI xs (j:Int)=Z v:=by
 have b:=(B3.mp h).1
 have e:ixN xs.length (j:Int)=Z j:=by
  unfold ixN;rw[A7 50,A7 50];simp
 unfold atI;rw[e];exact h
def WO(b:Ug):Prop:=∀o i,subscripted b false o i=operate [o,i] (getItem o i)
def IxR(X:Cx)(r:R2):Prop:=
 ∀(b a:Ug)(pins:T3)(s:Ue)(σ:St)(H:Hp)(x y:V)(v u:Uc)(Q:VK),Inv X pins σ H s->RelV x v->RelV y u->r x y H Q->
  subscripted a false v u=operate [v,u] (getItem v u)->wpAny (model X.prog X.w) X.A (subscriptTail b a v u) (EP X pins σ Q) X.xe s
def MtR(X:Cx)(id:String)(r:V->Tf->Hp->VK->Prop):Prop:=
 ∀(pins:T3)(s:Ue)(σ:St)(H:Hp)(x:V)(xs:Tf)(v:Uc)(us:T6)(Q:VK),Inv X pins σ H s->RelV x v->bE xs us->r x xs H Q->
  wpAny (model X.prog X.w) X.A (call (.builtin id) (v::us)) (EP X pins σ Q) X.xe s
section
variable{X:Cx}{a b:Ug}{ta tb:TE}{pos:Pos}
def IxR.or(h:IxR X r)(h':IxR X e):IxR X (fun x y H Q=>r x y H Q\/e x y H Q):=by
 intro c d pins s σ H x y v u Q I f g q hs;rcases q with q|q
 .exact h c d pins s σ H x y v u Q I f g q hs
 .exact h' c d pins s σ H x y v u Q I f g q hs
def aNH(c:IxR X r)(ha:PE X a ta)(d:PE X b tb)(hs:WO b):PE X (.Subscript a b pos) (tOp r ta tb):=by
 intro pins s σ H Q I h;exact Subscript_ (aMb ha d I h fun v u s2 x y e f g i q=>c a b pins s2 σ e x y v u Q f g i q<|hs _ _)
def aOf(K:Fg):R2:=fun x y H Q=>∃p xs i v,x=.ref p/\y=.int i/\SqL K H p xs/\atI xs i=Z v/\Q v H
def aML(K:Fg):R2:=fun x y H Q=>∃p xs i v,x=.ref p/\y=.int i/\SqT K H p xs/\atI xs i=Z v/\Q v H
def aMW:R2:=fun x y H Q=>∃z i c,x=.str z/\y=.int i/\z.length<=sizeLine/\atI z.cps.toList i=Z c/\Q (.str ⟨#[c]⟩) H
def ix_list:IxR X (aOf X.K):=by
 intro e f pins s σ H x y v u Q I n o h hs;obtain⟨p,xs,i,z,rfl,rfl,A,B,q⟩:=h;cases n;obtain⟨t,rfl⟩:=o;obtain⟨g,r,k,J⟩:=I.list A;obtain⟨j,d,C,L,D,E⟩:=JH B;obtain⟨w,M,l⟩:=r.get C;have F:=r.length;have hn:=CN;have c:EP X pins σ Q w s:=⟨z,H,I,l,q⟩;by_cases m:0<=i
 .have G:i.toNat=j:=by
   rw[seqIndex_of m E]at d;exact F0 d
  exact item_listR k.isList m 50 54 c hs
 .have G:(i+(g.toArray.size:Int)).toNat=j:=by
   rw[seqIndex_neg 50 D]at d;rw[F4,<- F];exact F0 d
  exact subscriptTail_builtinR k.isList.typeIs slot_list_getitem.lookup
   (wpAny_getItem_list_neg k.isList 50 54 50 54 ⟨rfl,c⟩) hs
def ix_tup:IxR X (aML X.K):=by
 intro c d pins s σ H x y v u Q I k l h hs;obtain⟨p,xs,i,z,rfl,rfl,m,n,q⟩:=h;cases k;obtain⟨t,rfl⟩:=l;obtain⟨o,r,g,D⟩:=I.tuple m;obtain⟨j,A,B,E,F,G⟩:=JH n;obtain⟨w,J,e⟩:=r.get B;have C:=r.length;have hn:=CN;have f:EP X pins σ Q w s:=⟨z,H,I,e,q⟩
 exact subscriptTail_builtinR g.typeIs slot_tuple_getitem.lookup
  (getItem_tuple g 50 50 (by rw[F4,<- C];exact A) 54 ⟨rfl,f⟩) hs
def aKR:IxR X aMW:=by
 intro d e pins s σ H x y v u Q I f g h hs;obtain⟨z,i,c,rfl,rfl,w,k,q⟩:=h;obtain⟨t,rfl⟩:=f;obtain⟨A,rfl⟩:=g;obtain⟨j,l,B,C,m,n⟩:=JH k;have o:z.cps.toList.length=z.length:=by rfl
 rw[o]at l m n;have hn:=CN
 exact tail_any (typeIs_str s z t) slot_str_getitem.lookup (getItem_str (by
  have p:decide (i < -(2 ^ 63:Int))=false:=F6 50;have r:decide (i>=2 ^ 63)=false:=F6 50;rw[p,r,Bool.or_false]) 54 ⟨.str ⟨#[c]⟩,H,I.tok _,⟨_,rfl⟩,q⟩) hs
def rIx(K:Fg):R2:=fun x y H Q=>aOf K x y H Q\/aML K x y H Q\/aMW x y H Q
def aLV:IxR X (rIx X.K):=ix_list.or<|ix_tup.or aKR
def RR(c:T6)(n j:Nat)(u:Uc):Obj.mapSeq (·.setIfInBounds j u) { cls:=.type "list",data:=.seq c.toArray n }={ cls:=.type "list",data:=.seq (c.set j u).toArray n }:=by
 simp[Obj.mapSeq]
def Inv.lst(I:Inv X pins σ H s)(h:H p=Z (.lst xs)):
 ∃(c:T6)(n:Nat),bE xs c/\s.heap.get? p=Z { cls:=.type "list",data:=.seq c.toArray n }/\xs.length<=sizeLine:=by
 obtain⟨z,c,n,r,e⟩:=I.hok p _ h;exact⟨c,n,r,e,z⟩
def Inv.lstUpd{d c:T6}{f:Obj->Obj}(I:Inv X pins σ H s)(h:H p=Z (.lst xs))
 (j:s.heap.get? p=Z { cls:=.type "list",data:=.seq d.toArray n }) (i:f { cls:=.type "list",data:=.seq d.toArray n }={ cls:=.type "list",data:=.seq c.toArray g }) (r:bE ys c) (k:ys.length<=sizeLine) (t:Nat):
 Inv X pins σ (upd H p (.lst ys)) { s with heap:=s.heap.update p f,toks:=t }:=by
 have e:(s.heap.update p f).get? p=Z { cls:=.type "list",data:=.seq c.toArray g }:=by
  rw[U8 f j (by rw[i]<;>rfl),i]
 refine I.write (by rw[h];trivial) (.inl rfl) (fun b u l q=>(U3 _ _<|S7 l).trans q) ⟨_,e⟩ ?_;exact⟨k,c,g,r,e⟩
def aIc:V->V->V->Hp->(Hp->Prop)->Prop:=fun o i v H Q=>∃p xs k j,o=.ref p/\i=.int k/\H p=Z (.lst xs)/\ixN xs.length k=Z j/\Q (upd H p (.lst (xs.set j v)))
def set_list:aLx X aIc:=by
 intro pins s σ H o i v C D u Q I l m w h;obtain⟨p,xs,k,j,rfl,rfl,f,x,q⟩:=h;cases l;obtain⟨t,rfl⟩:=m;obtain⟨c,n,r,e,E⟩:=I.lst f;obtain⟨d,F,y,z⟩:=VR x;have A:=r.length;have hn:=CN
 have G:Inv X pins σ (upd H p (.lst (xs.set j v))) { s with heap:=s.heap.update p (Obj.mapSeq (·.setIfInBounds j u)) }:=
  I.lstUpd f e (RR c n j u) (r.set w j) 54 s.toks
 by_cases g:0<=k
 .have B:k.toNat=j:=by
   rw[seqIndex_of g z]at d;exact F0 d
  exact W.ki_setAt e g 50 54 54
 .have B:(k+(c.toArray.size:Int)).toNat=j:=by
   rw[seqIndex_neg 50 y]at d;rw[F4,<- A];exact F0 d
  exact W.ki_setBack e 50 54 50 54
def KW(lo hi:To)(n:Nat):(sliceBounds lo hi Y n).1=((HT.sIx n 0 lo:Nat):Int)/\(sliceBounds lo hi Y n).2.1=((HT.sIx n n hi:Nat):Int)/\(sliceBounds lo hi Y n).2.2=1:=by
 refine⟨?_,?_,rfl⟩
 .cases lo with
  |none=>simp[sliceBounds,HT.sIx]
  |some i=>
   simp only[sliceBounds,HT.sIx,Option.getD_none];by_cases h:i<0
   .simp only[h,A1i]<;>omega
   .simp only[h,if_false]<;>omega
 .cases hi with
  |none=>simp[sliceBounds,HT.sIx]
  |some i=>
   simp only[sliceBounds,HT.sIx,Option.getD_none];by_cases h:i<0
   .simp only[h,A1i]<;>omega
   .simp only[h,if_false]<;>omega
def FC(c:T6)(lo hi:To):slicePick c.toArray lo hi Y=((c.drop<|HT.sIx c.length 0 lo).take (HT.sIx c.length c.length hi-HT.sIx c.length 0 lo)).toArray:=by
 obtain⟨d,e,f⟩:=KW lo hi c.toArray.size;unfold slicePick;rw[d,e,f];simp only[sliceRange_one,pick_run]<;>rfl
def aNG(K:Fg):V->To->To->Hp->VK->Prop:=fun x lo hi H Q=>∃a xs,x=.ref a/\SqL K H a xs/\∀p,H p=Y->Q (.ref p) (upd H p (.lst (NU xs lo hi)))
def sl_list:SlR X (aNG X.K):=by
 intro pins s σ H x v vl k lo hi sl Q I d hs e f h;obtain⟨a,xs,rfl,g,q⟩:=h;cases d;obtain⟨i,r,ht,j⟩:=I.list g;have c:=r.length;refine⟨"list",_,slot_list_getitem.lookup,ht.isList.typeIs,?_⟩;refine wpAny_getItem_list_slice ht.isList hs e f .none 53 ?_ 54;rw[FC,<- c];refine⟨.ref s.heap.objs.size,_,I.laid (fun b ob q=>A2 _ q) (A8 _) ?_,rfl,q _<|I.hok.fresh<|A8 _⟩;exact⟨E6 (yT xs lo hi) j,_,0,(r.drop<|HT.sIx xs.length 0 lo).take (HT.sIx xs.length xs.length hi-HT.sIx xs.length 0 lo),C2 _ rfl⟩
def JV:fP X (.builtin "len") (fun xs H Q=>∃p ys,xs=[.ref p]/\(SqL X.K H p ys\/SqT X.K H p ys)/\Q (.int ys.length) H):=by
 intro pins s σ H xs us Q I r h;obtain⟨p,ys,rfl,hq,q⟩:=h;obtain⟨u,rfl,g⟩:=vals1 r;cases g;have hn:=CN;rcases hq with hq|hq
 .obtain⟨d,e,f,i⟩:=I.list hq;have c:=e.length;exact Calls.call_len_list f.isList 54 ⟨.int ys.length,H,I.tok _,⟨s.toks+1,by rw[F4,c]⟩,q⟩
 .obtain⟨d,e,f,i⟩:=I.tuple hq;have c:=e.length;exact len_tuple f 54 ⟨.int ys.length,H,I.tok _,⟨s.toks+1,by rw[F4,c]⟩,q⟩
def LX:fP X (.type "list") (fun xs H Q=>∃p ys,xs=[.ref p]/\(SqL X.K H p ys\/SqT X.K H p ys)/\∀l,H l=Y->Q (.ref l) (upd H l (.lst ys))):=by
 intro pins s σ H xs us Q I r h;obtain⟨p,ys,rfl,hq,q⟩:=h;obtain⟨u,rfl,t⟩:=vals1 r;cases t
 have f:∀(c:T6),bE ys c->ys.length<=sizeLine->∀(h':Heap)(c':Nat),(∀b o',s.heap.get? b=Z o'->h'.get? b=Z o')->
  h'.get? s.heap.objs.size=Z { cls:=.type "list",dict:=Y,data:=.seq c.toArray c',slots:=#[] }->EP X pins σ Q (.ref s.heap.objs.size) { s with heap:=h' }:=fun c d g h' c' kp e=>
  ⟨.ref s.heap.objs.size,_,I.laid kp (A8 _) (show eG X.prog X.w _ h' _ (.lst ys)from⟨g,c,c',d,e⟩),rfl,q _<|I.hok.fresh<|A8 _⟩
 rcases hq with hq|hq
 .obtain⟨c,d,j,g⟩:=I.list hq;have i:=d.length;obtain⟨o,k,m,n,hd⟩:=j.isList;exact call_list_seq p (.inl rfl) k m hd (fun h' c' kp e=>f c d g h' c' kp e) 54
 .obtain⟨c,d,j,g⟩:=I.tuple hq;have i:=d.length;obtain⟨o,k,m,n,hd⟩:=j;exact call_list_seq p (.inr rfl) k m hd (fun h' c' kp e=>f c d g h' c' kp e) 54
def FT:fP X (.type "tuple") (fun xs H Q=>∃p ys,xs=[.ref p]/\((SqL X.K H p ys/\∀l,H l=Y->Q (.ref l) (upd H l (.tup ys)))\/(SqT X.K H p ys/\Q (.ref p) H))):=by
 intro pins s σ H xs us Q I r h;obtain⟨p,ys,rfl,h⟩:=h;obtain⟨u,rfl,m⟩:=vals1 r;cases m;rcases h with⟨d,q⟩|⟨d,q⟩
 .obtain⟨c,f,g,i⟩:=I.list d;have j:=f.length;refine call_tuple_list g.isList (fun h' kp=>?_) 54;have k:=I.kept (t':=s.toks) kp
  have n:Inv X pins σ (upd H h'.objs.size (.tup ys)) { s with heap:=h'.push { cls:=.type "tuple",data:=.seq c.toArray } }:=
   k.laid (fun b o e=>A2 _ e) (A8 _) (⟨i,c,f,IsTup.new _ _⟩)
  exact⟨.ref h'.objs.size,_,n,rfl,q _<|k.hok.fresh<|A8 _⟩
 .obtain⟨c,f,g,i⟩:=I.tuple d;exact call_tuple_same g ⟨.ref p,H,I,rfl,q⟩
def tyV(K:Fg)(T:String)(x:V)(H:Hp):Prop:=match x with
 |.str _=>T="str"
 |.int _=>T="int"
 |.ref p=>(T="list"/\∃xs,SqL K H p xs)\/(T="tuple"/\∃o,K.lookup p=Z o/\o.cls=.type "tuple"/\o.dict=Y) \/
  (T="dict"/\((∃kvs,H p=Z (.dK kvs))\/∃kvs,H p=Z (.dT kvs)))\/(T="set"/\∃S n,H p=Z (.set S n))
 |_=>False
def aBS(I:Inv X pins σ H s)(r:RelV x v)(ty:tyV X.K T x H):
 s.TypeIs v T/\∀a,v=.ref a->∃ob,s.heap.get? a=Z ob/\ob.dict=Y:=by
 cases x with
 |str z=>
  obtain⟨t,rfl⟩:=r;cases ty;exact⟨typeIs_str s z t,fun _ e=>nomatch e⟩
 |int i=>
  obtain⟨t,rfl⟩:=r;cases ty;exact⟨typeIs_int s i t,fun _ e=>nomatch e⟩
 |ref p=>
  cases r;rcases ty with⟨rfl,xs,h⟩|⟨rfl,o,d,j,hd⟩|⟨rfl,d⟩|⟨rfl,S,n,d⟩
  .obtain⟨k,_,g,_⟩:=I.list h;refine⟨g.isList.typeIs,fun a e=>?_⟩;cases e;obtain⟨o,n,e,c,hd,_⟩:=g;exact⟨o,e,hd⟩
  .refine⟨⟨o,I.kIn p o d,j⟩,fun a e=>?_⟩;cases e;exact⟨o,I.kIn _ o d,hd⟩
  .have z:∃o,s.heap.get? p=Z o/\o.ExactDict:=by
    rcases d with⟨kvs,d⟩|⟨kvs,d⟩
    .obtain⟨_,_,_,_,o,_,_,e,ex,_⟩:=I.hok p _ d;exact⟨o,e,ex⟩
    .obtain⟨_,_,_,_,o,_,_,e,ex,_⟩:=I.hok p _ d;exact⟨o,e,ex⟩
   obtain⟨o,e,ex⟩:=z;refine⟨⟨o,e,ex.1⟩,fun a f=>?_⟩;cases f;exact⟨o,e,ex.2.1⟩
  .obtain⟨o,_,_,_,e,ex,_⟩:=I.hok p _ d;refine⟨⟨o,e,ex.1⟩,fun a f=>?_⟩;cases f;exact⟨o,e,ex.2.1⟩
 |_=>exact False.elim ty
def aOr(K:Fg)(T:String)(r:V->Tf->Hp->VK->Prop)(to:TE):TE:=fun σ H Q=>to σ H fun x c=>tyV K T x c/\r x [] c Q
def tBM(K:Fg)(T:String)(r:V->Tf->Hp->VK->Prop)(to:TE)(t:TA):TE:=fun σ H Q=>to σ H fun x c=>tyV K T x c/\t σ c fun xs d=>r x xs d Q
variable{o e:Ug}{es:Tb}{to:TE}{t:TA}{name:Str}{apos cpos:Pos}{T id:String}{r:V->Tf->Hp->VK->Prop}
def aBF(j:PlainAttrs T)(slot:Slot T name id)(f:typeOf (.builtin id)=pure (.type "method_descriptor"))(hm:MtR X id r)(k:PE X o to)
 (c:attributeBase o name X.env (eval o X.env)=eval o X.env:=by rfl) (d:(apos.endLine==cpos.line)=true:=by rfl):PE X (.Call (.Attribute o name apos) [] [] cpos) (aOr X.K T r to):=by
 intro pins s σ H Q I h;refine wpAny_Call_method0_late c d (thn (k pins s σ H _ I h) fun v s1 ⟨x,l,g,i,ty,m⟩=>?_);obtain⟨n,p⟩:=aBS g i ty;exact⟨T,id,j,slot,f,n,p,Calls.callWith_builtin rfl<|PySem.evalArgs_none<|hm pins s1 σ l x [] v [] Q g i .nil m⟩
def aIF(m:PlainAttrs T)(slot:Slot T name id)(i:typeOf (.builtin id)=pure (.type "method_descriptor"))(hm:MtR X id r)(n:PE X o to)(ha:PA X (e::es) t)
 (c:attributeBase o name X.env (eval o X.env)=eval o X.env:=by rfl)
 (f:((backTo cpos<|starEach (e::es) X.env).all (fun x=>!x.1)&&(backToKw cpos<|keywordEach [] X.env).all (fun x=>x.1.isSome)
  && decide ((e::es).length+([]:Ua Keyword).length+(if ([]:Ua Keyword).isEmpty then 0 else 1)<30))=true:=by rfl)
 (d:(apos.endLine==cpos.line)=true:=by rfl) (hs:starEach (e::es) X.env=(false,eval e X.env)::starEach es X.env:=by rfl) (g:(backTo cpos<|starEach es X.env).any (·.1)=false:=by rfl):
 PE X (.Call (.Attribute o name apos) (e::es) [] cpos) (tBM X.K T r to t):=by
 intro pins s σ H Q I h;refine wpAny_Call_method_late c f d rfl (thn (n pins s σ H _ I h) fun v s1 ⟨x,p,j,k,ty,q⟩=>?_);obtain⟨u,w⟩:=aBS j k ty;refine⟨T,id,m,slot,i,u,w,?_⟩;have l:=ha cpos pins s1 σ p _ j q;rw[hs]at l ⊢;refine Calls.callWith_builtin 54<|Calls.evalArgs_plain ?_;exact thn l fun us s2 ⟨vs,y,z,A,B⟩=>hm pins s2 σ y x vs v us Q z k A B
end
def MtM(X:Cx)(id:String)(r:V->Tf->Hp->VK->Prop):Prop:=
 ∀(pins:T3)(s:Ue)(σ:St)(H:Hp)(x:V)(xs:Tf)(v:Uc)(us:T6)(Q:VK),Inv X pins σ H s->RelV x v->bE xs us->r x xs H Q->
  wpAny (model X.prog X.w) X.A (call (.builtin id) (v::us)) (EP X pins σ Q) X.xe s
def bE.one{x:V}{us:T6}(h:bE [x] us):∃u,us=[u]/\RelV x u:=by
 cases h with
 |cons r h=>cases h;exact⟨_,rfl,r⟩
def bE.two{x y:V}{us:T6}(h:bE [x,y] us):∃u v,us=[u,v]/\RelV x u/\RelV y v:=by
 cases h with
 |cons r h=>
  cases h with
  |cons q h=>cases h;exact⟨_,_,rfl,r,q⟩
def bE.zero:∀{us:T6},bE [] us->us=[]
 |_,.nil=>rfl
def bE.dropLast(h:bE xs us):bE xs.dropLast us.dropLast:=by
 induction h with
 |nil=>exact .nil
 |cons r t ih=>
  cases t with
  |nil=>exact .nil
  |cons q a=>exact .cons r ih
def bE.reverse(h:bE xs us):bE xs.reverse us.reverse:=by
 induction h with
 |nil=>exact .nil
 |cons r t ih=>rw[Z1,Z1];exact bE.append ih (.cons r .nil)
def RP{a:Type}(l:Ua a):l.eraseIdx (l.length-1)=l.dropLast:=54
section
variable{X:Cx}{pins:T3}{σ:St}{H:Hp}{s:Ue}{l b:Uf}{xs ys zs:Tf}
def Inv.lset{c a:T6}{f:Tl->Tl}{t':Nat}(I:Inv X pins σ H s)(d:H l=Z (.lst xs))
 (e:s.heap.get? l=Z { cls:=.type "list",data:=.seq c.toArray n }) (g:f c.toArray=a.toArray) (h:bE ys a) (i:ys.length<=sizeLine):
 Inv X pins σ (upd H l (.lst ys)) { s with heap:=s.heap.update l<|Obj.mapSeq f,toks:=t' }:=by
 have q:=PySem.IsL.update e f;rw[g]at q;refine I.write (by rw[d];exact trivial) (.inl rfl) (fun m u j k=>(U3 s.heap (Obj.mapSeq f)<|S7 j).trans k) ⟨_,q⟩ ?_;exact⟨i,a,_,h,q⟩
def Inv.lnew{t':Nat}(I:Inv X pins σ H s)(c:bE ys a)(d:ys.length<=sizeLine):
 Inv X pins σ (upd H s.heap.objs.size (.lst ys)) { s with heap:=s.heap.push { cls:=.type "list",data:=.seq a.toArray },toks:=t' }:=
 I.laid (fun _ _ q=>A2 _ q) (A8 _) ⟨d,a,0,c,C2 _ rfl⟩
def Inv.fresh(I:Inv X pins σ H s):H s.heap.objs.size=Y:=I.hok.fresh<|A8 _
def Inv.lstM(I:Inv X pins σ H s)(c:H l=Z (.lst xs)):xs.length<=sizeLine/\∃(a:T6)(n:Nat),bE xs a/\xs.length=a.length/\s.heap.get? l=Z { cls:=.type "list",data:=.seq a.toArray n }:=by
 obtain⟨z,a,n,r,e⟩:=I.hok l _ c;exact⟨z,a,n,r,r.length,e⟩
end
section
variable{X:Cx}
def WN:V->Tf->Hp->VK->Prop:=fun x vs H Q=>∃l xs y,x=.ref l/\vs=[y]/\H l=Z (.lst xs)/\xs.length<sizeLine/\Q .non (upd H l (.lst (xs++[y])))
def aAa:MtM X "list.append" WN:=by
 intro pins s σ H x vs v us Q I c d h;obtain⟨l,xs,y,rfl,rfl,b,g,q⟩:=h;cases c;obtain⟨u,rfl,f⟩:=d.one;obtain⟨z,a,n,r,i,e⟩:=I.lstM b;refine call_meets F.slot_list_append ⟨_,e,rfl⟩ F.entry_list_append (F.args_list_append_2 _ _) (PySem.list_append l a.toArray n u 54) ⟨e,?_⟩;refine⟨.non,_,I.lset b e 53 (r.append (.cons f .nil)) ?_,rfl,q⟩;rw[C1,D8];omega
def aOe:V->Tf->Hp->VK->Prop:=fun x vs H Q=>∃l xs y,x=.ref l/\vs=[]/\H l=Z (.lst xs)/\xs[xs.length-1]?=Z y/\Q y (upd H l (.lst xs.dropLast))
def aKx:MtM X "list.pop" aOe:=by
 intro pins s σ H x vs v us Q I f g h;obtain⟨l,xs,y,rfl,rfl,d,i,q⟩:=h;cases f;have b:=g.zero;subst b;obtain⟨z,a,n,r,j,e⟩:=I.lstM d;obtain⟨u,k,m⟩:=r.get i
 have c:a.toArray[a.toArray.size-1]?=Z u:=by
  show a.toArray[a.length-1]?=Z u;rw[<- E7,<- j];exact k
 refine call_meets F.slot_list_pop ⟨_,e,rfl⟩ F.entry_list_pop (F.args_list_pop_1 _) (MeetsSeq.list_pop_last l a.toArray n u c 54) ⟨e,?_⟩;refine⟨y,_,I.lset d e ?_ r.dropLast ?_,m,q⟩
 .show a.toArray.eraseIdxIfInBounds (a.toArray.size-1)=a.dropLast.toArray;rw[F4,List.eraseIdxIfInBounds_toArray,RP]
 .rw[List.length_dropLast];omega
def QX:V->Tf->Hp->VK->Prop:=fun x vs H Q=>∃l xs,x=.ref l/\vs=[]/\H l=Z (.lst xs)/\Q .non (upd H l (.lst xs.reverse))
def SJ:MtM X "list.reverse" QX:=by
 intro pins s σ H x vs v us Q I d f h;obtain⟨l,xs,rfl,rfl,c,q⟩:=h;cases d;have a:=f.zero;subst a;obtain⟨z,b,n,r,g,e⟩:=I.lstM c;refine call_meets F.slot_list_reverse ⟨_,e,rfl⟩ F.entry_list_reverse (F.args_list_reverse_1 _) (AutoSeq1.list_reverse_list_0 l b.toArray n 54) ⟨e,?_⟩;refine⟨.non,_,I.lset c e 53 r.reverse ?_,rfl,q⟩;rw[Y5];omega
end
section
variable{κ:Type}[DecidableEq κ]
noncomputable def gO(kvs:Ua (κ×V))(k:κ):Ub V:=(kvs.find? fun a=>decide (a.1=k)).map (·.2)
noncomputable def putK(kvs:Ua (κ×V))(k:κ)(v:V):Ua (κ×V):=
 if (kvs.any fun a=>decide (a.1=k))=true then kvs.map (fun a=>if a.1=k then(a.1,v)else a)else kvs++[(k,v)]
def DX{p:κ×V}{r:Ua (κ×V)}{k:κ}(e:p.1=k):gO (p::r) k=Z p.2:=by simp[gO,S3,e]
def CU{p:κ×V}{r:Ua (κ×V)}{k:κ}(e:¬p.1=k):gO (p::r) k=gO r k:=by simp[gO,S3,e]
theorem BY(k:κ):∀kvs:Ua (κ×V),(kvs.any fun a=>decide (a.1=k))=(gO kvs k).isSome
 |[]=>rfl
 |p::r=>by
  rw[A0m];by_cases e:p.1=k
  .simp only[DX e,C4 e,Bool.true_or,Option.isSome_some]
  .rw[CU e,F6 e,Bool.false_or];exact BY k r
def jC(kvs:Ua (κ×V))(k:κ)(v:V):(putK kvs k v).length<=kvs.length+1:=by
 unfold putK;split
 .rw[A4];omega
 .rw[C1,D3,A1h];omega
def aBC{k:κ}(v:V)(h:gO kvs k=Y):putK kvs k v=kvs++[(k,v)]:=by
 unfold putK;rw[BY,h];exact B7 52
def qE.isSome_eq(r:qE o u):o.isSome=u.isSome:=by
 cases o with
 |none=>cases u with
  |none=>rfl
  |some _=>exact r.elim
 |some _=>cases u with
  |none=>exact r.elim
  |some _=>rfl
def qE.getD(r:qE o u)(rd:RelV d d'):RelV (o.getD d) (u.getD d'):=by
 cases o with
 |none=>cases u with
  |none=>exact rd
  |some _=>exact r.elim
 |some _=>cases u with
  |none=>exact r.elim
  |some _=>exact r
def KV.val(r:KV kvs vs)(k:κ):qE (gO kvs k) (valueAt vs k):=by
 induction r with
 |nil=>exact True.intro
 |@cons p q ps a h t ih=>
  obtain⟨d,f⟩:=h;by_cases e:p.1=k
  .have c:=d.symm.trans e;have b:valueAt (q::a) k=Z q.2:=by simp[valueAt,S3,c]
   rw[DX e,b];exact f
  .have c:¬q.1=k:=fun z=>e<|d.trans z;have b:valueAt (q::a) k=valueAt a k:=by simp[valueAt,S3,c]
   rw[CU e,b];exact ih
def KV.any(r:KV kvs vs)(k:κ):(kvs.any fun a=>decide (a.1=k))=vs.any fun a=>decide (a.1=k):=by
 induction r with
 |nil=>rfl
 |cons h t ih=>rw[A0m,A0m,ih,h.1]
def KV.repl(r:KV kvs vs)(k:κ)(c:RelV y u):
 KV (kvs.map fun a=>if a.1=k then(a.1,y)else a) (vs.map fun a=>if a.1=k then(a.1,u)else a):=by
 induction r with
 |nil=>exact .nil
 |@cons p q ps f h t ih=>
  rw[D4,D4];refine .cons ?_ ih;obtain⟨b,d⟩:=h;by_cases e:p.1=k
  .rw[A7 e,A7<|b.symm.trans e];exact⟨b,c⟩
  .rw[B7 e,B7 fun z=>e<|b.trans z];exact⟨b,d⟩
def KV.put(r:KV kvs vs)(k:κ)(a:RelV y u):KV (putK kvs k y) (stored vs k u):=by
 unfold putK stored;rw[r.any k];by_cases e:(vs.any fun b=>decide (b.1=k))=true
 .rw[A7 e,A7 e];exact r.repl k a
 .rw[B7 e,B7 e];exact Paired.snoc r ⟨rfl,a⟩
def KV.length(r:KV kvs vs):kvs.length=vs.length:=A2g r
end
def zM{P:Uh}(r:RelV (kV k) u):(cH P w).is k u=true:=by
 cases k with
 |inl i=>obtain⟨t,e⟩:=r;subst e;exact MN P w i t
 |inr x=>obtain⟨t,e⟩:=r;subst e;exact NZ P w x t
theorem sR{P:Uh}:∀{ks:Ua Key}{us:T6},bE (ks.map kV) us->ItemsAre (cH P w) ks us
 |[],_=>fun r=>by rw[List.map_nil]at r;cases r;exact .nil
 |k::ks,_=>fun r=>by
  cases r with
  |cons h t=>exact .cons (zM h) (sR t)
abbrev KT(H:Hp):Ua (Ua Key×V)->Ua (Ua Key×Uf×Uc)->Prop:=Paired fun p q=>p.1=q.1/\H q.2.1=Z (.tup (p.1.map kV))/\RelV p.2 q.2.2
def KT.val(r:KT H kvs xs)(k:Ua Key):qE (gO kvs k) ((atKey xs k).map (·.2)):=by
 induction r with
 |nil=>exact True.intro
 |@cons p q ps a h t ih=>
  obtain⟨d,_,f⟩:=h;by_cases e:p.1=k
  .have c:=d.symm.trans e;have b:atKey (q::a) k=Z q.2:=by simp[atKey,S3,c]
   rw[DX e,b];exact f
  .have c:¬q.1=k:=fun z=>e<|d.trans z;have b:atKey (q::a) k=atKey a k:=by simp[atKey,S3,c]
   rw[CU e,b];exact ih
def KT.repl(r:KT H kvs xs)(k:Ua Key)(d:RelV y u):
 KT H (kvs.map fun b=>if b.1=k then(b.1,y)else b) (xs.map<|putAt k u):=by
 induction r with
 |nil=>exact .nil
 |@cons p q ps g h t ih=>
  rw[D4,D4];refine .cons ?_ ih;obtain⟨a,c,f⟩:=h;unfold putAt;by_cases e:p.1=k
  .rw[A7 e,A7<|a.symm.trans e];exact⟨a,c,d⟩
  .rw[B7 e,B7 fun z=>e<|a.trans z];exact⟨a,c,f⟩
def KT.put(r:KT H kvs xs)(k:Ua Key)(c:H b=Z (.tup (k.map kV)))(a:RelV y u):
 KT H (putK kvs k y) (storedH xs k b u):=by
 have e:(kvs.any fun d=>decide (d.1=k))=(atKey xs k).isSome:=by
  rw[BY,(r.val k).isSome_eq,Z2]
 unfold putK storedH;rw[e];by_cases q:(atKey xs k).isSome=true
 .rw[A7 q,A7 q];exact r.repl k a
 .rw[B7 q,B7 q];exact Paired.snoc r ⟨rfl,c,a⟩
def KT.keeps{H':Hp}(r:KT H kvs xs)(ht:∀b ys,H b=Z (.tup ys)->H' b=Z (.tup ys)):KT H' kvs xs:=
 Paired.mapP r fun _ _ z=>⟨z.1,ht _ _ z.2.1,z.2.2⟩
section
variable{P:Uh}{w:World}{H:Hp}{h:Heap}{a:Uf}
def aIB(ok:HOk P w H h)(e:Rd H a u):eG P w H h a u:=e.ok ok
def EW(ok:HOk P w H h)(e:Rd H a (.dK kvs)):kvs.length<=sizeLine/\(a==sysModules)=false/\∃vs,KV kvs vs/\h.DictOf (cH P w) a vs:=
 show eG P w H h a (.dK kvs)from aIB ok e
def aDi(ok:HOk P w H h)(e:H a=Z (.dK kvs)):kvs.length<=sizeLine/\(a==sysModules)=false/\∃vs,KV kvs vs/\h.DictOf (cH P w) a vs:=EW ok (.inl e)
def uW{ks:Ua Key}(ok:HOk P w H h)(e:H a=Z (.tup (ks.map kV))):(tupleKind<|cH P w).is h ks a:=by
 obtain⟨_,b,r,o,c,d,n,f⟩:=(ok a _ e);exact⟨o,b.toArray,n,c,d,f,by simpa using sR r⟩
def zJ(ok:HOk P w H h)(e:Rd H a (.dT kvs)):kvs.length<=sizeLine/\(a==sysModules)=false /\
 ∃xs,KT H kvs xs/\h.DictOfH (tupleKind<|cH P w) a xs:=by
 obtain⟨z,y,xs,r,o,es,ep,b,c,d,f,g⟩:=(aIB ok e);refine⟨z,y,xs,r,o,es,ep,b,c,d,f,fun x hx=>?_,g⟩
 have all:∀{l:Ua (Ua Key×V)}{m:Ua (Ua Key×Uf×Uc)},KT H l m->∀x∈m,(tupleKind<|cH P w).is h x.1 x.2.1:=by
  intro l m q
  induction q with
  |nil=>intro x hx;exact nomatch hx
  |@cons p q ps i j t ih=>
   intro x hx;rcases B8.mp hx with e|hx
   .subst e;exact uW ok 54
   .exact ih x hx
 exact all r x hx
def aIb(ok:HOk P w H h)(e:H a=Z (.dT kvs)):kvs.length<=sizeLine/\(a==sysModules)=false /\
 ∃xs,KT H kvs xs/\h.DictOfH (tupleKind<|cH P w) a xs:=zJ ok (.inl e)
end
def tH(H:Hp)(a:Uf)(y:V)(r:Ub V):Prop:=
 (∃kvs k,Rd H a (.dK kvs)/\y=kV k/\r=gO kvs k)\/∃kvs k b,Rd H a (.dT kvs)/\y=.ref b/\H b=Z (.tup (k.map kV))/\r=gO kvs k
def FA(H:Hp)(a:Uf)(y v:V)(H':Hp):Prop:=
 (∃kvs k,H a=Z (.dK kvs)/\y=kV k/\kvs.length<sizeLine/\H'=upd H a (.dK (putK kvs k v))) \/
 ∃kvs k b,H a=Z (.dT kvs)/\y=.ref b/\H b=Z (.tup (k.map kV))/\kvs.length<sizeLine/\H'=upd H a (.dT (putK kvs k v))
def tH.k{a:Uf}{kvs:Ua (Key×V)}{k:Key}(e:H a=Z (.dK kvs)):tH H a (kV k) (gO kvs k):=.inl ⟨kvs,k,.inl e,rfl,rfl⟩
def tH.t{k:Ua Key}(e:H a=Z (.dT kvs))(c:H b=Z (.tup (k.map kV))):tH H a (.ref b) (gO kvs k):=.inr ⟨kvs,k,b,.inl e,rfl,c,rfl⟩
def FA.k{a:Uf}{kvs:Ua (Key×V)}{k:Key}{v:V}(e:H a=Z (.dK kvs))(b:kvs.length<sizeLine):FA H a (kV k) v (upd H a (.dK (putK kvs k v))):=.inl ⟨kvs,k,e,rfl,b,rfl⟩
def FA.t{k:Ua Key}(e:H a=Z (.dT kvs))(c:H b=Z (.tup (k.map kV)))(d:kvs.length<sizeLine):
 FA H a (.ref b) v (upd H a (.dT (putK kvs k v))):=.inr ⟨kvs,k,b,e,rfl,c,d,rfl⟩
section
variable{X:Cx}{pins:T3}{σ:St}{H:Hp}{s:Ue}{a:Uf}{y v:V}{u r:Uc}{o:Ub V}{A:Ui}{E:T2}
def Inv.big(I:Inv X pins σ H s):sysModules<s.heap.objs.size:=by
 have h:=(I.mod.glob.keeps I.bk).lt;exact A0i 52 h
def ZR{Q:T2}(x:A.units+1<cLine)(I:Inv X pins σ H s)(g:tH H a y (Z v))(q:RelV y u)(h:∀f t,Inv X pins σ H t->RelV v f->Q f t):
 wpAny (model X.prog X.w) A (getItem (.ref a) u) Q E s:=by
 rcases g with⟨kvs,k,e,i,l⟩|⟨kvs,k,b,e,i,B,l⟩
 .subst i;obtain⟨z,hd,vs,c,j⟩:=EW I.hok e;obtain⟨f,m,d⟩:=qE.some_of (by rw[l];exact c.val k);exact wpAny_getItem_of (zM q) j.mapOf m<|h f _ (I.tok _) d
 .subst i;cases q;obtain⟨z,hd,xs,c,j⟩:=zJ I.hok e;obtain⟨f,m,d⟩:=qE.some_of (by rw[l];exact c.val k);obtain⟨p,C,n⟩:=Option.map_eq_some_iff.mp m;refine wpAny_getItem_heap (A0j x) (uW I.hok B) j C ?_;rw[n];exact h f _ (I.tok _) d
def aPt{Q:T2}(m:A.units+1<cLine)(I:Inv X pins σ H s)(g:tH H a y o)(i:RelV y u)(h:∀j,Inv X pins σ H j->Q (.bool o.isSome) j):
 wpAny (model X.prog X.w) A (compareOp .In u (.ref a)) Q E s:=by
 rcases g with⟨kvs,k,e,d,l⟩|⟨kvs,k,b,e,d,n,l⟩
 .subst d;obtain⟨z,hd,vs,c,f⟩:=EW I.hok e;refine wpAny_in_of (zM i) hd f.mapOf ?_;rw[<- (c.val k).isSome_eq,<- l];exact h _<|I.tok _
 .subst d;cases i;obtain⟨z,hd,xs,c,f⟩:=zJ I.hok e;refine wpAny_in_heap (A0j m) (uW I.hok n) hd f ?_;have q:=(c.val k).isSome_eq;rw[Z2]at q;rw[<- q,<- l];exact h _<|I.tok _
def aGX{Q:T2}(m:A.units+1<cLine)(I:Inv X pins σ H s)(g:tH H a y o)(i:RelV y u)(h:∀j,Inv X pins σ H j->Q (.bool (!o.isSome)) j):
 wpAny (model X.prog X.w) A (compareOp .NotIn u (.ref a)) Q E s:=by
 rcases g with⟨kvs,k,e,d,l⟩|⟨kvs,k,b,e,d,n,l⟩
 .subst d;obtain⟨z,hd,vs,c,f⟩:=EW I.hok e;refine wpAny_notIn_of (zM i) hd f.mapOf ?_;rw[<- (c.val k).isSome_eq,<- l];exact h _<|I.tok _
 .subst d;cases i;obtain⟨z,hd,xs,c,f⟩:=zJ I.hok e;refine wpAny_notIn_heap (A0j m) (uW I.hok n) hd f ?_;have q:=(c.val k).isSome_eq;rw[Z2]at q;rw[<- q,<- l];exact h _<|I.tok _
def sP{t':Nat}(I:Inv X pins σ H s)(c:Mut (H a))(hs:Heap.SameBut a s.heap h')(d:∃q,h'.get? a=Z q)(new:eG X.prog X.w (upd H a ob) h' a ob):
 Inv X pins σ (upd H a ob) { s with heap:=h',toks:=t' }:=
 I.write c (.inl rfl) (fun b q e z=>(hs.2 b e).trans z) d new
def RE{P:Uh}{h':Heap}{kvs:Ua (Key×V)}(z:kvs.length<=sizeLine)(hd:(a==sysModules)=false)(b:KV kvs vs)(c:h'.DictOf (cH P w) a vs):
 eG P w H' h' a (.dK kvs):=⟨z,hd,vs,b,c⟩
def ZG{Q:Unit->Ue->Prop}(F:A.units+1<cLine)(I:Inv X pins σ H s)(g:FA H a y v H')(t:RelV y u)(x:RelV v r)(h:∀B,Inv X pins σ H' B->Q () B):
 wpAny (model X.prog X.w) A (setItem (.ref a) u r) Q E s:=by
 rcases g with⟨kvs,k,e,j,l,m⟩|⟨kvs,k,b,e,j,C,l,m⟩
 .subst j m;obtain⟨z,hd,vs,d,n⟩:=aDi I.hok e;have G:vs.length<=sizeLine:=by rw[<- d.length];exact z
  have p:(putK kvs k v).length<=sizeLine:=by have:=jC kvs k v;omega
  refine wpAny_setItem_pairs (zM t) n fun h' f hs=>h _ ?_;have J:∃q,h'.get? a=Z q:=let⟨q,_,_,i,_⟩:=f;⟨q,i⟩;exact sP I (by rw[e];exact True.intro) hs J<|RE p hd (d.put k x) f
 .subst j m;cases t;obtain⟨z,hd,xs,d,n⟩:=aIb I.hok e;have G:xs.length<=sizeLine:=by rw[<- A2g d];exact z
  have p:(putK kvs k v).length<=sizeLine:=by have:=jC kvs k v;omega
  refine wpAny_setItem_heap (A0j F) (uW I.hok C) n fun h' f hs=>h _ ?_;obtain⟨q,es,ep,i,K,L,M,_,N⟩:=f;refine sP I (by rw[e];exact True.intro) hs ⟨q,i⟩ ⟨p,hd,_,(d.put k C x).keeps fun c O D=>?_,q,es,ep,i,K,L,M,N⟩;rw[aL (aHZ D e fun z=>nomatch z)];exact D
end
def aKY(i:Ug):Prop:=∀a b,subscripted i false a b=operate [a,b] (getItem a b)
def aHu{s:Ue}{pos:Pos}{id:String}
 (l:typeLookup (.type T) "__getitem__"=pure (Z (.builtin id))) (hs:aKY a)
 (h:wpAny (model prog w) A (eval b env) (fun o e=>wpAny (model prog w) A (eval a env) (fun i c=>c.TypeIs o T/\wpAny (model prog w) A (getItem o i) Q E c) E e) E s):
 wpAny (model prog w) A (eval (.Subscript b a pos) env) Q E s:=by
 refine Subscript_ (E5 h (fun o e j=>E5 j (fun i c d=>?_) fun _ _ x=>x) fun _ _ x=>x);obtain⟨hT,d⟩:=d;refine A0 ?_;refine A0<|wpAny_specialOf hT l ?_
 have g:wpAny (model prog w) A (subscripted a false o i) (fun r f=>wpAny (model prog w) A (letTemporaryGo b o r >>= fun _=>pure r) Q E f) E c:=by
  rw[hs o i];exact wpAny_operating (E5 d (fun r f k=>A0<|wpAny_letTemporaryGo<|A3 k) fun _ _ x=>x)
 first
  |exact A3<|A0 g
  |exact A0<|A3<|A0 g
  |exact A0 g
def OQ(I:Inv X pins σ H s)(g:tH H a y o):s.TypeIs (.ref a) "dict":=by
 rcases g with⟨kvs,k,e,_,_⟩|⟨kvs,k,b,e,_,_,_⟩
 .obtain⟨_,_,vs,_,c⟩:=EW I.hok e;exact c.typeIs
 .obtain⟨_,_,xs,_,c⟩:=zJ I.hok e;exact c.typeIs
def aIh(c ty:TE):TE:=fun σ H Q=>c σ H fun x d=>ty σ d fun y b=>∃a v,x=.ref a/\tH b a y (Z v)/\Q v b
def aOL(ty c:TE):TE:=fun σ H Q=>ty σ H fun y d=>c σ d fun x b=>∃a o,x=.ref a/\tH b a y o/\Q (.bl o.isSome) b
def VN(ty c:TE):TE:=fun σ H Q=>ty σ H fun y d=>c σ d fun x b=>∃a o,x=.ref a/\tH b a y o/\Q (.bl (!o.isSome)) b
def aIg(c ty d:TE):TS:=fun D σ H=>d σ H fun v e=>c σ e fun x f=>ty σ f fun y g=>∃a b,x=.ref a/\FA g a y v b/\D.nx σ b
section
variable{X:Cx}{o i e value:Ug}{pos pos' tpos:Pos}{td ty tv:TE}
def aEI(d:X.A.units+1<cLine)(f:PE X o td)(hi:PE X i ty)(hs:aKY i):PE X (.Subscript o i pos) (aIh td ty):=by
 intro pins s σ H Q I h;refine aHu F.slot_dict_getitem.lookup hs (thn (f pins s σ H _ I h) fun u s1 ⟨x,j,k,l,m⟩=>thn (hi pins s1 σ j _ k m) fun w s2 n=>?_);obtain⟨y,p,c,q,a,v,ex,g,r⟩:=n;subst ex;obtain rfl:=l;exact⟨OQ c g,ZR d c g q fun z s3 t b=>⟨v,p,t,b,r⟩⟩
def aKS(b:X.A.units+1<cLine)(hi:PE X i ty)(c:PE X o td):PC X .In i o (aOL ty td):=by
 intro pins s σ H Q I h;refine thn (hi pins s σ H _ I h) fun t s1 ⟨y,d,f,j,k⟩=>thn (c pins s1 σ d _ f k) fun u s2 ⟨x,l,m,n,a,p,ex,g,q⟩=>?_;subst ex;obtain rfl:=n;exact aPt b m g j fun s3 r=>⟨.bl p.isSome,l,r,rfl,q⟩
def aAh(b:X.A.units+1<cLine)(hi:PE X i ty)(c:PE X o td):PC X .NotIn i o (VN ty td):=by
 intro pins s σ H Q I h;refine thn (hi pins s σ H _ I h) fun v s1 ⟨y,d,f,j,k⟩=>thn (c pins s1 σ d _ f k) fun u s2 l=>?_;obtain⟨x,m,n,p,a,q,ex,g,r⟩:=l;subst ex;obtain rfl:=p;exact aGX b n g j fun s3 t=>⟨.bl (!q.isSome),m,t,rfl,r⟩
def aFn(b:X.A.units+1<cLine)(c:PE X o td)(hi:PE X i ty)(d:PE X value tv)(hs:swapsWith value (Z (.Subscript o i pos')) pos.line X.env=pure false):
 PS X (.Assign [.Subscript o i pos'] value pos) (aIg td ty tv):=by
 intro pins s σ H D I h;refine wpAny_Assign_Subscript (thn (d pins s σ H _ I h) fun r s1 ⟨v,f,j,k,l⟩=>thn (c pins s1 σ f _ j l) fun u s2 ⟨x,m,n,p,q⟩=>thn (hi pins s2 σ m _ n q) fun F s3 t=>?_) hs;obtain⟨y,G,w,z,a,B,ex,g,C⟩:=t;subst ex;obtain rfl:=p;exact ZG b w g z k fun J E=>⟨σ,B,E,C⟩
end
def CI{P:Uh}(h:Heap)(a:sysModules<h.objs.size):eG P w H (h.push { cls:=.type "dict",data:=.dict #[] }) h.objs.size (.dK []):=
 ⟨F9 _,O0.mpr<|S7<|C3 a,[],.nil,Heap.DictOf.new h⟩
def OZ{P:Uh}(h:Heap)(a:sysModules<h.objs.size):eG P w H (h.push { cls:=.type "dict",data:=.dict #[] }) h.objs.size (.dT []):=
 ⟨F9 _,O0.mpr<|S7<|C3 a,[],.nil,_,#[],0,C2 _ rfl,⟨rfl,rfl,rfl⟩,rfl,rfl,A0p⟩
def TQ:TE:=fun _ H Q=>∀p,H p=Y->Q (.ref p) (upd H p (.dK []))
def aCp:TE:=fun _ H Q=>∀p,H p=Y->Q (.ref p) (upd H p (.dT []))
section
variable{X:Cx}{pos:Pos}
def OB:PE X (.Dict [] [] pos) TQ:=fun pins s σ H Q I h=>
 wpAny_Dict_empty ⟨.ref s.heap.objs.size,_,I.laid (fun _ _ q=>A2 _ q) (A8 _)<|CI s.heap I.big,rfl,h _<|I.hok.fresh<|A8 _⟩
def aDX:PE X (.Dict [] [] pos) aCp:=fun pins s σ H Q I h=>
 wpAny_Dict_empty ⟨.ref s.heap.objs.size,_,I.laid (fun _ _ q=>A2 _ q) (A8 _)<|OZ s.heap I.big,rfl,h _<|I.hok.fresh<|A8 _⟩
end
def KJ:Ua (TE×TE)->St->Hp->(Ua (V×V)->Hp->Prop)->Prop
 |[],_,H,Q=>Q [] H
 |(tk,a)::r,σ,H,Q=>tk σ H fun x b=>a σ b fun y c=>KJ r σ c fun ps d=>Q ((x,y)::ps) d
abbrev VV:Ua (V×V)->Ua (Uc×Uc)->Prop:=Paired fun p q=>RelV p.1 q.1/\RelV p.2 q.2
def PPs(X:Cx)(pos:Pos)(b:Ua (Ub Ug))(a:Tb)(c:Ua (TE×TE)):Prop:=
 ∀(pins:T3)(s:Ue)(σ:St)(H:Hp)(Q:Ua (V×V)->Hp->Prop),Inv X pins σ H s->KJ c σ H Q->
  wpAny (model X.prog X.w) X.A (evalPairs<|pairTrees b a X.env pos) (fun vs d=>∃ps H',Inv X pins σ H' d/\VV ps vs/\Q ps H') X.xe s
def aHo:PPs X pos [] [] []:=fun pins s σ H Q I h=>pairTrees_nil_walk ⟨[],H,I,.nil,h⟩
def aCJ{v:Ug}{tk:TE}(d:PE X k tk)(e:PE X v c)(f:PPs X pos ks vs a):
 PPs X pos (Z k::ks) (v::vs) ((tk,c)::a):=fun pins s σ H Q I h=>
 pairTrees_cons_walk (thn (d pins s σ H _ I h) fun u s1 ⟨x,g,i,j,l⟩=>thn (e pins s1 σ g _ i l) fun w s2 ⟨y,m,n,o,p⟩=>
  thn (f pins s2 σ m _ n p) fun ws s3 ⟨ps,q,r,b,t⟩=>⟨(x,y)::ps,q,r,.cons ⟨j,o⟩ b,t⟩)
def sL(kvs more:Ua (Key×V)):Ua (Key×V):=more.foldl (fun acc a=>putK acc a.1 a.2) kvs
def KV.merge:∀{more:Ua (Key×V)}{rs:Ua (Key×Uc)}{kvs:Ua (Key×V)}{vs:Ua (Key×Uc)},KV more rs->KV kvs vs->KV (sL kvs more) (merged vs rs):=by
 intro more rs kvs vs r;unfold KV at r
 induction r generalizing kvs vs with
 |nil=>intro q;exact q
 |@cons p q ps b h t ih=>
  intro a
  have e:KV (putK kvs p.1 p.2) (stored vs q.1 q.2):=by
   have:=a.put p.1 h.2;rw[<- h.1];exact this
  exact ih e
theorem tZ:∀(more kvs:Ua (Key×V)),(sL kvs more).length<=kvs.length+more.length
 |[]=>fun kvs=>by show kvs.length<=kvs.length+0;omega
 |p::r=>fun kvs=>by
  have a:=tZ r<|putK kvs p.1 p.2;have b:=jC kvs p.1 p.2;show(sL (putK kvs p.1 p.2) r).length<=_;rw[D3];omega
theorem BL{P:Uh}:∀{kvs:Ua (Key×V)}{ws:Ua (Uc×Uc)},VV (kvs.map fun d=>(kV d.1,d.2)) ws->∃rs,Carries (cH P w) ws rs/\KV kvs rs
 |[],_=>fun r=>by rw[List.map_nil]at r;cases r;exact⟨[],True.intro,.nil⟩
 |p::kvs,_=>fun r=>by
  cases r with
  |@cons a b as bs h t=>
   obtain⟨rs,c,q⟩:=BL t;obtain⟨f,e⟩:=b;exact⟨(p.1,e)::rs,⟨zM h.1,rfl,c⟩,.cons ⟨rfl,h.2⟩ q⟩
def aIM(a:Ua (TE×TE)):TE:=fun σ H Q=>∀p,H p=Y->KJ a σ (upd H p (.dK [])) fun ps b=>b p=Z (.dK [])/\∃kvs:Ua (Key×V),ps=kvs.map (fun c=>(kV c.1,c.2))/\kvs.length<=15/\Q (.ref p) (upd b p (.dK (sL [] kvs)))
def aFj(h:PPs X pos a b d)(f:a.all (·.isSome)=true)(m:a.length=b.length)(n:a≠[])
 (i:a.length<=15):PE X (.Dict a b pos) (aIM d):=by
 intro pins s σ H Q I q;have hn:=I.hok.fresh<|A8 s.heap.objs.size;have o:=I.laid (t':=s.toks) (fun _ _ q=>A2 _ q) (A8 _)<|CI s.heap I.big;refine wpAny_Dict_walk (knd:=cH X.prog X.w) f m n i (thn (h pins _ σ _ _ o<|q _ hn) fun ws s2 j=>?_);obtain⟨ps,A,l,k,e,kvs,ep,B,p⟩:=j;subst ep;obtain⟨rs,c,rk⟩:=BL k;obtain⟨z,hd,r,t,u⟩:=aDi l.hok e;cases t;refine⟨rs,c,u,fun h' g hs=>⟨.ref s.heap.objs.size,_,?_,rfl,p⟩⟩
 have j:(sL [] kvs).length<=sizeLine:=by
  have v:=tZ kvs [];rw[A1h]at v;rw[J9];omega
 have x:∃q,h'.get? s.heap.objs.size=Z q:=let⟨q,_,_,y,_⟩:=g;⟨q,y⟩;exact sP l (by rw[e];exact True.intro) hs x<|RE j hd (rk.merge .nil) g
structure M1(X:Cx)(o:Ug)(m:Str)(apos:Pos)(e:Ug)(cpos:Pos):Prop where
 base:attributeBase o m X.env (eval o X.env)=eval o X.env
 few:((backTo cpos<|starEach [e] X.env).all (fun x=>!x.1)&&(backToKw cpos<|keywordEach [] X.env).all (fun x=>x.1.isSome)
  && decide (([e]:Tb).length+([]:Ua Keyword).length+(if ([]:Ua Keyword).isEmpty then 0 else 1)<30))=true
 line:(apos.endLine==cpos.line)=true
 trees:backTo cpos (starEach [e] X.env)=[(false,eval e X.env)]
structure M2(X:Cx)(o:Ug)(m:Str)(apos:Pos)(e f:Ug)(cpos:Pos):Prop where
 base:attributeBase o m X.env (eval o X.env)=eval o X.env
 few:((backTo cpos<|starEach [e,f] X.env).all (fun x=>!x.1)&&(backToKw cpos<|keywordEach [] X.env).all (fun x=>x.1.isSome)
  && decide (([e,f]:Tb).length+([]:Ua Keyword).length+(if ([]:Ua Keyword).isEmpty then 0 else 1)<30))=true
 line:(apos.endLine==cpos.line)=true
 trees:backTo cpos (starEach [e,f] X.env)=[(false,eval e X.env),(false,eval f X.env)]
def IsD(H:Hp)(a:Uf):Prop:=(∃kvs,Rd H a (.dK kvs))\/∃kvs,Rd H a (.dT kvs)
def aLe(I:Inv X pins σ H s)(d:IsD H a):
 s.TypeIs (.ref a) "dict"/\(∀b,Value.ref a=.ref b->∃ob,s.heap.get? b=Z ob/\ob.dict=Y)/\(a==sysModules)=false:=by
 rcases d with⟨kvs,e⟩|⟨kvs,e⟩
 .obtain⟨_,hd,vs,_,c⟩:=EW I.hok e;refine⟨c.typeIs,fun b q=>?_,hd⟩;cases q;obtain⟨ob,_,_,f,g,_⟩:=c;exact⟨ob,f,g.2.1⟩
 .obtain⟨_,hd,xs,_,c⟩:=zJ I.hok e;refine⟨c.typeIs,fun b q=>?_,hd⟩;cases q;obtain⟨ob,_,_,f,g,_⟩:=c;exact⟨ob,f,g.2.1⟩
section
variable{X:Cx}{pins:T3}{σ:St}{H:Hp}{s:Ue}{a:Uf}{y d:V}{u r:Uc}{o:Ub V}{A:Ui}{E:T2}
def aJJ{Q:T2}(p:A.units+1<cLine)(I:Inv X pins σ H s)(g:tH H a y o)(j:RelV y u)(rd:RelV d r)(h:∀m n,Inv X pins σ H n->RelV (o.getD d) m->Q m n):
 wpAny (model X.prog X.w) A (call (.builtin "dict.get") [.ref a,u,r]) Q E s:=by
 rcases g with⟨kvs,k,e,i,l⟩|⟨kvs,k,b,e,i,q,l⟩
 .subst i;obtain⟨z,hd,vs,c,f⟩:=EW I.hok e;refine call_meetsIn F.slot_dict_get f.typeIs F.entry_dict_get (F.args_dict_get_3 _ _ _) (meets_dict_get_default (cH X.prog X.w) a (zM j) hd r) ⟨_,f.mapOf,h _ _ (I.tok _) ?_⟩;rw[l];exact(c.val k).getD rd
 .subst i;cases j;obtain⟨z,hd,xs,c,f⟩:=zJ I.hok e;refine call_meetsIn F.slot_dict_get f.typeIs F.entry_dict_get (F.args_dict_get_3 _ _ _) (meetsH_dict_get_default (tupleKind<|cH X.prog X.w) a b hd r) ⟨A0j p,k,xs,uW I.hok q,f,h _ _ (I.tok _) ?_⟩;rw[l];exact(c.val k).getD rd
end
def aDy(d ty e:TE):TE:=fun σ H Q=>d σ H fun x b=>∃a,x=.ref a/\IsD b a/\ty σ b fun y f=>e σ f fun z c=>∃o,tH c a y o/\Q (o.getD z) c
section
variable{X:Cx}{o e f:Ug}{apos cpos:Pos}{td ty tx:TE}
def aBV(i:X.A.units+1<cLine)(j:PE X o td)(k:PE X e ty)(l:PE X f tx)(m:M2 X o "get" apos e f cpos):PE X (.Call (.Attribute o "get" apos) [e,f] [] cpos) (aDy td ty tx):=by
 intro pins s σ H Q I h;refine wpAny_Call_method m.base m.few m.line F.plainAttrs_dict F.slot_dict_get F.type_dict_get (thn (j pins s σ H _ I h) fun u s1 n=>?_);obtain⟨x,p,c,q,a,ex,d,r⟩:=n;subst ex;obtain rfl:=q;obtain⟨t1,t2,_⟩:=aLe c d;refine⟨t1,t2,?_⟩;rw[m.trees]
 refine Calls.callWith_builtin rfl (Calls.evalArgs_plain (A0y (thn (k pins s1 σ p _ c r) fun K s2 ⟨y,t,v,w,B⟩=>
  A0y (thn (l pins s2 σ t _ v B) fun L s3 ⟨z,C,D,E,M,g,G⟩=>A1s ?_))))
 exact aJJ i D g w E fun N O J b=>⟨_,C,J,b,G⟩
end
end L2
namespace Att
open PySem PySem.W PySem.Calls PyProof.Rows
def zV{P:Params}:∀(ns:Ta)(vs:T6),WellAll P h vs (ns.map WData.int)->IntsAre vs ns:=by
 intro ns
 induction ns with
 |nil=>
  intro vs w;cases w;exact .nil
 |cons n ns ih=>
  intro vs w;cases w with
  |cons a b=>
   cases a;exact .cons _ _ (ih _ b)
def aAA{l:OpenLaw}{n:Nat}(hn:l.most=Z n){P:Params}
 (c:l.row.toRowW.claim.pre args=true) (i:WellAll P h b args):
 ∃a vs ns,b=[Value.ref a]/\args=[WData.list (ns.map WData.int)]/\h.get? a=Z { cls:=.type "list",data:=.seq vs.toArray }/\IntsAre vs ns/\ns.length<=n:=by
 have j:=(pre_splitW c).1;have m:l.pre.holds [] { args:=args }=true:=(pre_splitW c).2;obtain⟨d,r,rfl,o,p⟩:=hasAllW_cons j;obtain rfl:=hasAllW_nil p;obtain⟨xs,rfl,s⟩:=hasW_list o;obtain⟨ns,rfl⟩:=items_int s
 have e:ns.length<=n:=by
  have g:(WTm.not (.lt (.lit (.int (n:Int))) (.len (.arg 0)))).holds [] { args:=[.list (ns.map .int)] }=true:=by
   have g:=(holds_andW m).1;rw[hn]at g;exact g
  have k:=condW_of g<|w_not<|w_lt w_lit<|w_len_list<|w_arg rfl;refine Nat.le_of_not_lt fun q=>?_
  first
   |(rw[C4 q']at k;exact absurd k 52)
   |(simp at k;omega)
 cases i with
 |cons t u=>
  cases u;cases t with
  |list v f=>exact⟨_,_,ns,rfl,rfl,v,zV ns _ f,e⟩
def aAc(l:OpenLaw)(args:Ua WData):l.row.toRowW.claim.post args (.bool true) args=true:=
 postW_of
  rfl
  (w_eq_bool (w_res rfl) w_lit) rfl
def attach_call{l:OpenLaw}{n:Nat}{XP:(Str->Ti)->Heap->Prop}{YP:World->Heap->Prop}{d:DefRec}
 (hn:l.most=Z n) (m:d.params.defaults=[])
 (call:∀(w:World)(s₀ c:Ue)(mg mb:Str->Ti)(fa:Uf)(o:Obj)(pm j doc:Uc)(a:Uf)(vs:T6)(ns:Ta),
  Ground q loose [] XP w s₀ mg mb c.heap->YP w c.heap->
  c.heap.get? fa=Z o->o.data=.func (docDef d.name d.params d.body d.scope pm j doc)->c.heap.CodeRec j d.name->mg d.name=Z (.ref fa)->
  c.heap.get? a=Z { cls:=.type "list",data:=.seq vs.toArray }->IntsAre vs ns->ns.length<=n->c.gens=#[]->
  codeAny (model l.prog w) callerA (.call (.ref fa) ⟨[.ref a],[]⟩) (fun r k=>r=.ok (.ret (.bool true))/\OldK c.heap k.heap/\k.os=c.os/\AllBare k.gens) c):
 WalkO q loose XP YP l.row.toRowW d [] (fun f vs=>PySem.call f vs):=by
 intro w s₀ c mg mb G b fa o pm j doc H kV y hd p u s z args v as g x A t B;obtain rfl:=Dflts.none u m;obtain rfl:=Dflts.noKw u;obtain⟨a,vs,ns,rfl,rfl,h,e,i⟩:=aAA hn g t;refine enter_call (A0z (call w s₀ c mg mb fa o pm j doc a vs ns G b y (fd_plain hd) p s h e i z) fun r k C=>?_);obtain⟨rfl,D,E,F⟩:=C;exact⟨.inl ⟨.bool true,.bool true,[],rfl,51,.bool true,aAc l _,fun _=>⟨List.Pairwise.nil,fun _ hm=>(nomatch hm)⟩⟩,D,E,F⟩
section
variable{prog:Uh}{w:World}{A:Ui}{E:T2}{s:Ue}{K:Frag}
end
end Att
namespace L2
open PySem PySem.Spec PyProof.Rows
theorem GG:∀{vs:T6}{ns:Ta},IntsAre vs ns->bE (ns.map V.int) vs
 |_,_,.nil=>.nil
 |_,_,.cons n t h=>.cons ⟨t,rfl⟩ (GG h)
def aLO(H:Hp):Prop:=∀b,H b=Y\/∃o xs,H b=Z (.frz o (.lst xs))
def aCL{P:Uh}{K:Fg}{a:Uf}{x:Str}{sp:Sp}{c:Ue}{vs:T6}
 (KX:K.In c.heap) (t:c.heap.Ns mainGlobals mg) (g:c.heap.Ns builtinsNs mb) (G:∀x:Str,x≠"__name__"->mb x=bootBuiltins x) (y:c.heap.NoLimit) (I:∃W,c.heap.Ns sysModules W) (J:∃bm ob,mg "__builtins__"=Z (.ref bm)/\bm≠builtinsNs/\c.heap.get? bm=Z ob/\ob.cls=.type "module"/\ob.dict=Z builtinsNs/\ob.data=.plain) (hg:c.gens=#[])
 (ha:c.heap.get? a=Z { cls:=.type "list",data:=.seq vs.toArray }) (hi:IntsAre vs ns) (X:ns.length<=sizeLine) (hr:cE k callerA)
 (F:∀base:Heap,K.In base->base.Ns mainGlobals mg->jH P w K mg base CX k fa fd [x] sp) (p:∀(s:Ue)(u:Uc),BindsTo s fd ⟨[u],[]⟩ [(x,u)])
 (L:∀H:Hp,aLO H->SqL K H a (ns.map V.int)->sp [.ref a] H (fun v _=>v=.bl true) fun _ _ _=>False)
 (M:∀H e i,CX [] H c (fun _ _ _=>False) e i->False):
 codeAny (model P w) callerA (.call (.ref fa) ⟨[.ref a],[]⟩) (fun r i=>r=.ok (.ret (.bool true))/\OldK c.heap i.heap/\i.os=c.os/\AllBare i.gens) c:=by
 have rv:=GG hi;have A:=hi.length
 have l:∀H:Hp,aLO H->SqL K H a (ns.map V.int)->HOk P w H c.heap->(∀b,H b≠Y->b=a)->(H a≠Y->K.lookup a=Y)->
  codeAny (model P w) callerA (.call (.ref fa) ⟨[.ref a],[]⟩) (fun r i=>r=.ok (.ret (.bool true))/\OldK c.heap i.heap/\i.os=c.os/\AllBare i.gens) c:=by
  intro H hO hS hok N hK;have f:∀{b:Uf}{o:Obj},c.heap.get? b=Z o->H b=Y->(OS c.heap H).get? b=Z o:=fun e n=>aCw e n
  have O:∀{b:Uf}{o:Obj}{es:Array DictEntry}{ep:Nat},c.heap.get? b=Z o->o.data=.dict es ep->H b=Y:=fun{b o es ep} e d=>by
   cases q:H b with
   |none=>rfl
   |some u=>
    have B:=N b 54;subst B;rw[ha]at e;cases e;have d':=d;cases d'
  have j:∀{b:Uf}{m:Str->Ti},c.heap.Ns b m->(OS c.heap H).Ns b m:=fun{b m} ⟨o,es,ep,e,d,r⟩=>⟨o,es,ep,f e<|O e d,d,r⟩
  have C:=fun b o e=>f (KX b o e) (by
   cases q:H b with
   |none=>rfl
   |some u=>
    have B:=N b 54;subst B;rw[hK 54]at e;cases e)
  have hM:Mod K mg (OS c.heap H):=⟨C,j t,⟨mb,j g,G⟩,(let⟨mc,Q,R⟩:=y;⟨mc,j Q,R⟩),(let⟨W,S⟩:=I;let⟨o,es,ep,Q,R,_⟩:=j S;⟨o,es,ep,Q,R⟩),(let⟨bm,ob,b1,b2,T,b4,b5,b6⟩:=J;⟨bm,ob,b1,b2,f T (by
   cases q:H bm with
   |none=>rfl
   |some u=>
    have B:=N bm 54;rw[B,ha]at T;cases T;cases b6),b4,b5,b6⟩)⟩
  have e0:SC P w K mg (OS c.heap H) callerA [] c H:=⟨rfl,hM,fun b o e=>aHP e,Nat.le_of_eq<|YC _ _,trivial,fun b g=>absurd (show b∈([]:Td)from g) 53,hok,.of_eq hg⟩;refine A0z ((F _ C<|j t).run callerA [] c H ⟨[.ref a],[]⟩ [.ref a] [.ref a] _ _ hr e0 (p c (.ref a)) (.cons rfl .nil) (L H hO hS)) fun r i h=>?_;cases r with
  |error e=>exact(M H e i h).elim
  |ok fl=>
   cases fl with
   |next=>exact False.elim h
   |brk=>exact False.elim h
   |cont=>exact False.elim h
   |ret u=>
    obtain⟨v,H',os,bare,un,D,r',q⟩:=h;have q':=q;subst q';obtain rfl:=r';refine⟨rfl,OldK.of_keep fun b o e=>?_,os,bare⟩;cases q:H b with
    |none=>exact un.keep b o e q (by intro z;exact absurd (show b∈([]:Td)from z) 53) 53
    |some u=>
     rcases hO b with z|⟨ob,xs,z⟩
     .rw[q]at z;cases z
     .have z2:=un.frzs b ob _ z;obtain⟨e1,_⟩:=hok b _ z;obtain⟨e2,_⟩:=D b _ z2;rw[e]at e1;cases e1;exact e2
 cases U:K.lookup a with
 |some o=>
  have e:=KX a o U;rw[ha]at e;cases e;refine l (fun _=>Y) (fun _=>.inl rfl) (.inr ⟨_,vs.toArray,_,U,rfl,rfl,rfl,by rw[F4,A];exact X,by simpa using rv⟩) (fun b u z=>by have E:=z;cases E) (fun b z=>absurd rfl z) fun z=>absurd rfl z
 |none=>
  refine l (fun b=>if b=a then Z (.frz { cls:=.type "list",data:=.seq vs.toArray } (.lst (ns.map V.int)))else Y) (fun b=>?_) (.inl (.inr ⟨{ cls:=.type "list",data:=.seq vs.toArray },A7 rfl⟩)) (fun b u z=>?_) (fun b z=>?_) fun _=>U
  .by_cases g:b=a
   .exact .inr ⟨_,_,A7 g⟩
   .exact .inl (B7 g)
  .by_cases g:b=a
   .have E:=(A7 g).symm.trans z;cases E;subst g;exact⟨ha,by rw[A4];exact X,vs,_,rv,ha⟩
   .have E:=(B7 g).symm.trans z;cases E
  .by_cases g:b=a
   .exact g
   .exact absurd (B7 g) z
noncomputable abbrev KOf{K:Fg}{h:Heap}(_:K.In h):Fg:=K
def walk_of{l:W.OpenLaw}{n:Nat}(D:PyProof.Rows.importsNone q=true){YP:World->Heap->Prop}{d:DefRec}{K:Params->Fg}{CX:World->CXT}{sp:World->Sp}{x:Str}
 (hn:l.most=Z n) (r:n<=sizeLine) (t:d.params.defaults=[]) (E:cE k callerA)
 (I:∀(w:World)(h:Heap),YP w h->(K w.params).In h)
 (F:∀(w:World)(mg:Str->Ti)(fa:Uf)(h:Heap),(K w.params).In h->h.Ns mainGlobals mg->mg d.name=Z (.ref fa)->
  ∃fd:FuncData,(∀(s:Ue)(u:Uc),BindsTo s fd ⟨[u],[]⟩ [(x,u)]) /\
   ∀base:Heap,(K w.params).In base->base.Ns mainGlobals mg->jH l.prog w (K w.params) mg base (CX w) k fa fd [x] (sp w))
 (y:∀(w:World)(H:Hp)(a:Uf)(ns:Ta),ns.length<=n->aLO H->SqL (K w.params) H a (ns.map V.int)->sp w [.ref a] H (fun v _=>v=.bl true) fun _ _ _=>False)
 (z:∀(w:World)(H:Hp)(s:Ue)(e:Uc)(A:Ue),CX w [] H s (fun _ _ _=>False) e A->False):
 W.WalkO q loose XP YP l.row.toRowW d [] (fun f vs=>PySem.call f vs):=by
 refine Att.attach_call hn t fun w s₀ m mg mb fa o pm Q doc a vs ns G c R hd J B p j i L=>?_;have KX:=I w _ c;obtain⟨fd,M,N⟩:=F w mg fa _ KX G.T.g B;exact aCL KX G.T.g G.T.b G.T.builtins G.T.nolimit (let⟨O,C,_⟩:=(G.T.seer D).mods;⟨O,C⟩) G.T.bmain L p j (E6 i r) E N M (fun H P hS=>y w H a ns i P hS) fun H e A=>z w H m e A
end L2
namespace L2
variable{F H H':Hp}{W:Wd}{K:Fg}{M M':Sto}{γ:Ga}
open PySem PySem.Spec PyProof.Rows
def inClass(s:Stmt)(j:Nat):Stmt:=match s with
 |.ClassDef _ _ _ a _ _ _ _ _ _ _=>a.getD j (.Pass ⟨0,0,0,0⟩)
 |_=>.Pass ⟨0,0,0,0⟩
def dH(s:Stmt):Arguments:=match s with
 |.FunctionDef _ a _ _ _ _ _ _ _ _=>a
 |_=>{ posonlyargs:=[],args:=[],vararg:=Y,kwonlyargs:=[],kw_defaults:=[],kwarg:=Y,defaults:=[] }
noncomputable def bP(s:Stmt):Tc:=match s with
 |.FunctionDef _ _ b _ _ _ _ _ _ _=>b
 |_=>[]
noncomputable def aH(s:Stmt):Scope:=match s with
 |.FunctionDef _ _ _ _ _ _ sc _ _ _=>sc
 |_=>{ kind:=.function,names:=[],isGenerator:=false,isCoroutine:=false }
abbrev CX0:CXT:=fun _ _ _ _ _ _=>False
abbrev E0:XK:=fun _ _ _=>False
def aCN:DN CX0 X E0:=fun _ _ _ _ _ _ _ h=>h.elim
structure Fun(K:Fg)(x qual:Str)(st:Stmt)(f:Uf)(fd:FuncData):Prop where
 ex:∃(oc:Uc)(od:Tk)(kV doc pm:Uc)(an:Tk)(cdv ct:Uc)(osl:Array (Ti)),
  fd=PySem.W.fnOf x qual (dH st) (bP st) (aH st) .none kV doc pm an cdv ct/\K.lookup f=Z ⟨oc,od,.func fd,osl⟩/\PySem.W.codeIn K cdv qual=true
 kp:PySem.W.keepIn K (.ref f)=true
section
variable{P:Uh}{w:World}{K:Fg}{mg:Str->Ti}{base:Heap}
def Fun.ok{st:Stmt}{sp:Sp}{q:Bool}(F:Fun K x qual st f fd)(S:aU N ps (aH st))(len:∀vs H Q E,sp vs H Q E->vs.length=ps.length)
 (a:∀(cdv:Uc)(A:Ui)(outer:Ua Env)(s:Ue)(H:Hp)(vs:Tf)(Q:VK)(E:XK),cE k (A.deeper<|envOfC qual (aH st) s.heap.objs.size f cdv) q->sp vs H Q E->
  ∃t,PSs (lM CX0 P w K mg base N qual (aH st) f cdv A outer s H E q).nox (bP st) t/\t { nx:=fun _ H'=>Q .non H',rt:=Q } (start N vs) H):jH P w K mg base CX0 (k+1) f fd ps sp q:=by
 obtain⟨oc,od,kV,doc,pm,an,cdv,ct,osl,rfl,d,b⟩:=F.ex;refine aHV d b S len fun A outer s H vs Q E e c=>?_;obtain⟨t,h,z⟩:=a cdv A outer s H vs Q E e c;exact⟨t,h.nox,z⟩
def Fun.binds{x qual:Str}{st:Stmt}{f:Uf}{fd:FuncData}{ps:Te}(F:Fun K x qual st f fd)
 (h:∀(kV doc pm:Uc)(an:Tk)(cdv ct:Uc)(us:T6),us.length=ps.length->bindArgs (PySem.W.fnOf x qual (dH st) (bP st) (aH st) .none kV doc pm an cdv ct) ⟨us,[]⟩=pure (ps.zip us)):Binds K fd ps []:=by
 obtain⟨oc,od,kV,doc,pm,an,cdv,ct,osl,rfl,b,a⟩:=F.ex;exact .all (h kV doc pm an cdv ct)
def aDA{x qual:Str}{st:Stmt}{f:Uf}{oc:Uc}{od an:Tk}{osl:Array (Ti)}{kV doc pm cdv ct:Uc}(l:K.lookup f=Z ⟨oc,od,.func (PySem.W.fnOf x qual (dH st) (bP st) (aH st) .none kV doc pm an cdv ct),osl⟩)
 (c:PySem.W.codeIn K cdv qual=true) (k:PySem.W.keepIn K (.ref f)=true):Fun K x qual st f (PySem.W.fnOf x qual (dH st) (bP st) (aH st) .none kV doc pm an cdv ct):=⟨⟨oc,od,kV,doc,pm,an,cdv,ct,osl,rfl,l,c⟩,k⟩
end
def iC(H H':Hp):Prop:=∀b o,H b=Z o->H' b=Z o
def iC.refl(H:Hp):iC H H:=fun _ _ h=>h
def iC.trans(a:iC H d)(b:iC d e):iC H e:=fun c o h=>b c o<|a c o h
def iC.free(e:iC H H')(h:H' l=Option.none):H l=Option.none:=by
 cases q:H l with
 |none=>rfl
 |some o=>
  rw[e l o q]at h;cases h
def iC.seq(e:iC H H')(h:SqL K H a xs):SqL K H' a xs:=by
 rcases h with(h|⟨o,h⟩)|h
 .exact .inl (.inl (e _ _ h))
 .exact .inl (.inr ⟨o,e _ _ h⟩)
 .exact .inr h
noncomputable def eK(env:Env):Ua (Tq)->Ua (Str×Uf)->Ua (Str×Uf)
 |[],cs=>cs
 |y::r,cs=>eK env r (if (y.2==NameKind.free)=true then(y.1,(env.cells.lookup y.1).getD 0)::cs else cs)
theorem uL{env:Env}:∀(l:Ua (Tq))(cs:Ua (Str×Uf)),(∀y∈l,y.2=.free->∃c,env.cells.lookup y.1=Z c)->
 (forIn l cs fun(x:Tq)(r:Ua (Str×Uf))=>if (x.2==NameKind.free)=true then(do
  let a <- cellOf env x.1
  pure (ForInStep.yield ((x.1,a)::r)))else pure (ForInStep.yield r))=(pure (eK env l cs):Sem (Ua (Str×Uf)))
 |[]=>fun cs _=>rfl
 |y::l=>fun cs h=>by
  rw[List.forIn_cons];by_cases b:(y.2==NameKind.free)=true
  .obtain⟨c,e⟩:=h y B9 54;have f:cellOf env y.1=pure c:=by unfold cellOf;rw[e]
   rw[A7 b,f];show(forIn l ((y.1,c)::cs) _:Sem _)=_;rw[uL l _ fun z d=>h z<|A9 _ d]
   conv=>rhs;unfold eK
   rw[A7 b,e];rfl
  .rw[B7 b];show(forIn l cs _:Sem _)=_;rw[uL l _ fun z d=>h z<|A9 _ d]
   conv=>rhs;unfold eK
   rw[B7 b]
def vA{scope:Scope}{env:Env}(h:∀y∈scope.names,y.2=.free->∃c,env.cells.lookup y.1=Z c):closureFor scope env=pure (eK env scope.names []):=by
 have e:=uL scope.names [] h
 show((forIn scope.names ([]:Ua (Str×Uf)) fun x (r:Ua (Str×Uf))=>if (x.2==NameKind.free)=true then(do
  let a <- cellOf env x.1
  pure (ForInStep.yield ((x.1,a)::r)))else pure (ForInStep.yield r)) >>= fun z=>pure z:Sem (Ua (Str×Uf)))=_
 rw[e];rfl
theorem HC{env:Env}:∀(l:Ua (Tq))(cs:Ua (Str×Uf)),(∀y∈l,y.2=.free->∃c,env.cells.lookup y.1=Z c)->(∀x c,cs.lookup x=Z c->env.cells.lookup x=Z c)->
 ∀x c,(eK env l cs).lookup x=Z c->env.cells.lookup x=Z c
 |[]=>fun cs _ h x c e=>h x c e
 |y::l=>fun cs i h x c e=>by
  refine HC l _ (fun z g=>i z<|A9 _ g) ?_ x c e;intro z d a;by_cases j:(y.2==NameKind.free)=true
  .rw[A7 j]at a;obtain⟨c',f⟩:=i y B9 54;rw[f]at a;rw[J7]at a;by_cases g:(z==y.1)=true
   .rw[g]at a;have b:z=y.1:=54
    rw[b,f];exact a
   .have b:(z==y.1)=false:=54
    rw[b]at a;exact h z d a
  .rw[B7 j]at a;exact h z d a
theorem xO:∀(l:Ua (Tq))(cs:Ua (Str×Uf))(x:Str),((x,NameKind.free)∈l\/∃c,cs.lookup x=Z c)->∃c,(eK env l cs).lookup x=Z c
 |[]=>fun cs x h=>by
  rcases h with h|h
  .exact absurd h 53
  .exact h
 |y::l=>fun cs x h=>by
  refine xO l _ x ?_;rcases h with h|⟨c,b⟩
  .rcases B8.mp h with e|e
   .subst e;refine .inr ?_;rw[A7 (by rfl)];exact⟨(env.cells.lookup x).getD 0,by rw[J7];simp⟩
   .exact .inl e
  .refine .inr ?_;by_cases d:(y.2==NameKind.free)=true
   .rw[A7 d,J7];by_cases f:(x==y.1)=true
    .rw[f];exact⟨_,rfl⟩
    .have a:(x==y.1)=false:=54
     rw[a];exact⟨c,b⟩
   .rw[B7 d];exact⟨c,b⟩
theorem uF{env:Env}:∀{names:Ua (Tq)}{x:Str}{k:NameKind},
 (names.map fun(y:Tq)=>if (y.2==NameKind.free&&env.scope.kind==.function&&env.kindOf y.1==Z .cell)=true then(y.1,NameKind.cell)else(y.1,y.2)).lookup x=Z k->
 (names.lookup x=Z k)\/(names.lookup x=Z .free/\k=.cell)
 |[],x,k=>fun h=>by simp at h
 |y::r,x,k=>fun h=>by
  rw[D4]at h;by_cases c:(x==y.1)=true
  .by_cases b:(y.2==NameKind.free&&env.scope.kind==.function&&env.kindOf y.1==Z .cell)=true
   .rw[A7 b,J7,c]at h;rw[J7,c];have:y.2=.free:=54
    refine .inr ⟨by rw[this],?_⟩;cases h;rfl
   .rw[B7 b,J7,c]at h;rw[J7,c];exact .inl h
  .have a:(x==y.1)=false:=54
   have h':(r.map fun y=>if (y.2==NameKind.free&&env.scope.kind==.function&&env.kindOf y.1==Z .cell)=true then(y.1,NameKind.cell)else(y.1,y.2)).lookup x=Z k:=by
    by_cases b:(y.2==NameKind.free&&env.scope.kind==.function&&env.kindOf y.1==Z .cell)=true
    .rw[A7 b,J7,a]at h;exact h
    .rw[B7 b,J7,a]at h;exact h
   rw[J7,a];exact uF h'
theorem CJ{env:Env}:∀{names:Ua (Tq)}{x:Str},names.lookup x=Z .free->
 (names.map fun(y:Tq)=>if (y.2==NameKind.free&&env.scope.kind==.function&&env.kindOf y.1==Z .cell)=true then(y.1,NameKind.cell)else(y.1,y.2)).lookup x=Z .cell \/
 (names.map fun(y:Tq)=>if (y.2==NameKind.free&&env.scope.kind==.function&&env.kindOf y.1==Z .cell)=true then(y.1,NameKind.cell)else(y.1,y.2)).lookup x=Z .free
 |[],x=>fun h=>by simp at h
 |y::r,x=>fun h=>by
  rw[D4];by_cases c:(x==y.1)=true
  .rw[J7,c]at h;have d:=F0 h;by_cases b:(y.2==NameKind.free&&env.scope.kind==.function&&env.kindOf y.1==Z .cell)=true
   .rw[A7 b,J7,c];exact .inl rfl
   .rw[B7 b,J7,c];exact .inr (by rw[d])
  .have a:(x==y.1)=false:=54
   rw[J7,a]at h;have ih:=CJ (env:=env) h;by_cases b:(y.2==NameKind.free&&env.scope.kind==.function&&env.kindOf y.1==Z .cell)=true
   .rw[A7 b,J7,a];exact ih
   .rw[B7 b,J7,a];exact ih
def uH(X:Cx)(a:Tb)(t:TT):Prop:=
 ∀(pins:T3)(s:Ue)(b:St)(H:Hp)(Q:Bool->Hp->Prop),Inv X pins b H s->t b H Q->
  wpAny (model X.prog X.w) X.A (forIn a true fun c r=>if r=true then(do
   let ok <- isTrue c X.env (eval c X.env)
   pure (ForInStep.yield ok))else pure (ForInStep.yield r)) (TP X pins b Q) X.xe s
def aNj:TT:=fun _ H Q=>Q true H
def aDG:uH X [] aNj:=fun _ _ _ H _ I h=>wpAny_tests_nil ⟨H,I,h⟩
def aEn(h:PT X c t):uH X [c] t:=fun pins s a H Q I b=>wpAny_tests_one<|h pins s a H Q I b
section
variable{prog:Uh}{w:World}{A:Ui}{R:Result->Ue->Prop}{s:Ue}
def aEW{b:Ug}{scope:Scope}{acc:Uc}(I:Nat->Ue->Prop)
 (g:∀n s,I n s->wpAny (model prog w) A (pyNext it) (fun r s1=>(r=Y/\R (.ok .next) s1)\/∃v,r=Z v /\
  wpAny (model prog w) A (letOwnedTupleGo a it v) (fun _ s2=>wpAny (model prog w) A (assign a env v) (fun _ s3=>
   wpAny (model prog w) A (forIn e true fun c r=>if r=true then(do
    let ok <- isTrue c env (eval c env)
    pure (ForInStep.yield ok))else pure (ForInStep.yield r)) (fun ok k=>
     (ok=true/\wpAny (model prog w) A (eval d env) (fun x l=>wpAny (model prog w) A (call (.builtin "list.append") [acc,x]) (fun _ o=>∃m,m<n/\I m o) 58 l) 58 k) \/
     (ok=false/\∃m,m<n/\I m k)) 58 s3) 58 s2) 58 s1) 58 s)
 (n:Nat) (h:I n s):codeAny (model prog w) A (.compLoop (.ListComp d [⟨a,b,e,0⟩] scope pos) 0 it acc env) R s:=by
 refine codeAny_loop rfl I (fun n s p=>?_) n h
 show wpAny _ A ((compTurn (.ListComp d [⟨a,b,e,0⟩] scope pos) 0 it acc env).onRaise fun x=>do
  noteFrame x env
  theTreesLotGoes x) _ _ s
 refine wpAny_noted ?_;refine A0<|Y6<|A0 (E5 (g n s p) (fun r s1 i=>?_) fun _ _ f=>f.elim);rcases i with⟨rfl,i⟩|⟨v,rfl,i⟩
 .exact A3 i
 .refine A0 (E5 i (fun _ s2 q=>?_) fun _ _ f=>f.elim);refine A0 (E5 q (fun _ s3 t=>?_) fun _ _ f=>f.elim);refine A0 (E5 t (fun ok k j=>?_) fun _ _ f=>f.elim);rcases j with⟨rfl,j⟩|⟨rfl,j⟩
  .refine A0<|A0 (E5 j (fun x l u=>?_) fun _ _ f=>f.elim);exact A0 (E5 u (fun _ o y=>A3<|A3 ⟨rfl,y⟩) fun _ _ f=>f.elim)
  .exact A3 ⟨rfl,j⟩
end
def bO(X:Cx)(N':Te)(scope:Scope)(C:Uf)(s2:Ue)(a:Hp)(fp:Td)(pn:T3):Cx:=
 { X with N:=N',s₀:=s2,H₀:=a,env:=compEnvC scope (eK X.env scope.names []) C X.env,outer:=X.stack,stack:=X.stack,ex:=fp,fn:=fun _=>false,pn:=X.pn++pn,xe:=fun _ _=>False }
noncomputable def uU(cap:T4)(a:St):St:=cap.map fun o=>o.bind fun j=>(a[j]?).join
structure nI(X:Cx)(N':Te)(cap:T4)(scope:Scope):Prop where
 nocell:∀y∈scope.names,y.2≠.cell
 kind:scope.kind=.function
 names:∀y∈scope.names,y.2=.local->scope.names.lookup y.1=Z .local
 frees:∀y∈scope.names,y.2=.free->X.env.kindOf y.1=Z .cell\/X.env.kindOf y.1=Z .free
 len:cap.length=N'.length
 cap:∀(i j:Nat),cap[i]?=Z (Z j)->∃x,N'[i]?=Z x/\X.N[j]?=Z x/\scope.names.lookup x=Z .free
section
variable{X:Cx}{N':Te}{cap:T4}{scope:Scope}{pins:T3}{σ:St}{H:Hp}{s:Ue}
def nI.cells(S:nI X N' cap scope)(ok:X.Ok):∀y∈scope.names,y.2=.free->∃c,X.env.cells.lookup y.1=Z c:=fun y a b=>ok.has y.1<|S.frees y a b
def nI.sub(S:nI X N' cap scope)(ok:X.Ok):∀x c,(eK X.env scope.names []).lookup x=Z c->X.env.cells.lookup x=Z c:=
 HC scope.names [] (S.cells ok) fun x c e=>by simp at e
def nI.kinds(S:nI X N' cap scope)(h:(compEnvC scope cl C X.env).kindOf x=Z .cell\/(compEnvC scope cl C X.env).kindOf x=Z .free):scope.names.lookup x=Z .free:=by
 rcases h with h|h
 .rcases uF h with q|⟨q,_⟩
  .exact absurd rfl<|S.nocell _<|O8 q
  .exact q
 .rcases uF h with q|⟨q,_⟩
  .exact q
  .exact q
def Inv.stkAll(I:Inv X pins σ H s){b:Uf}(a:b≠X.env.locals)(c:b∉X.fs):b∉frs X.stack:=fun d=>(B8.mp<|I.stkSub b d).elim a c
def DK(S:nI X N' cap scope)(I:Inv X pins σ H s){fp:Td}{E:Heap}{C:Uf}{tk:Nat}(w:∀b∈fp,lD X pins H b)(G:∀b∈fp,b<s.heap.objs.size)
 (A:s.heap.objs.size<=C) (hn:E.Ns C fun _=>Y) (h:∀b o,s.heap.get? b=Z o->E.get? b=Z o):
 Inv (bO X N' scope C s H fp pins) [] (uU cap σ) H { s with heap:=E,toks:=tk }:=by
 have B:∀x c,X.env.cells.lookup x=Z c->c<s.heap.objs.size:=fun x c e=>by
  obtain⟨v,q⟩:=I.cell x c e;exact q.lt
 have fresh:=I.hok.fresh A
 have ok:(bO X N' scope C s H fp pins).Ok:=by
  refine⟨I.ok.mod,S.kind,I.ok.glob,I.ok.blt,A,fun x y c J L=>?_,fun x N=>?_,fun x c N _=>?_,I.ok.hd,I.ok.frames,.inl rfl,fun b g=>⟨?_,fun x c e=>?_⟩,I.bs,E6 I.ok.bsz I.sz,fun b o e g=>?_,fun b g=>?_,I.stack,I.stkFree⟩
  .exact I.ok.inj x y c (S.sub I.ok x c J)<|S.sub I.ok y c L
  .exact xO scope.names [] x (.inl (O8<|S.kinds N))
  .exact absurd N (by show ¬(false=true);decide)
  .exact C3<|C5 (G b g) A
  .exact(w b g).2.2.2.2.1 x c (S.sub I.ok x c e)
  .rcases (w b g).2.2.2.1 with z|z
   .exact I.ok.noex b o e z
   .exact absurd (C5 (B6 (I.ok.bs b o e).1) z)<|Y2 _
  .exact I.stkAll (w b g).2.1 (w b g).2.2.1
 refine⟨ok,rfl,I.bare,Un.kept h,⟨_,hn,fun i x v J L h3=>?_⟩,fun x c e=>?_,fresh,fun x c e=>I.freeC x c<|S.sub I.ok x c e,fun p T=>?_,I.hok.kept h,?_⟩
 .
  have a:(cap[i]?).map (fun o=>o.bind fun j=>(σ[j]?).join)=Z (Z v):=by
   have:(uU cap σ)[i]?=Z (Z v):=L;unfold uU at this;rw[D6]at this;exact this
  cases e:cap[i]? with
  |none=>rw[e]at a;simp at a
  |some o=>
   cases o with
   |none=>rw[e]at a;simp at a
   |some j=>
    rw[e]at a;obtain⟨D,U,V,O⟩:=S.cap i j e
    have ex:D=x:=by
     have:N'[i]?=Z x:=J;rw[U]at this;exact F0 this
    subst ex
    have sv:σ[j]?=Z (Z v):=by
     have q:(σ[j]?).join=Z v:=F0 a;cases f:σ[j]? with
     |none=>rw[f]at q;simp at q
     |some o=>rw[f]at q;cases o with
      |none=>simp at q
      |some v'=>simp at q;rw[q]
    have R:=S.frees _ (O8 O) rfl;obtain⟨m,hm,hl⟩:=I.loc;obtain⟨u,r,l⟩:=hl j D v V sv (R.elim (fun z=>.inr (.inl z)) fun z=>.inr (.inr z));refine⟨u,r,.inr ⟨?_,?_⟩⟩
    .exact CJ O
    .rcases l with⟨k,_⟩|⟨_,c,hc,o,P,hd⟩
     .rcases R with z|z<;>rw[z]at k<;>cases k
     .obtain⟨c',t⟩:=xO scope.names [] D (.inl (O8 O));have:=S.sub I.ok D c' t;rw[hc]at this;cases this;exact⟨c,t,o,h c o P,hd⟩
 .obtain⟨v,o,P,hd⟩:=I.cell x c<|S.sub I.ok x c e;exact⟨v,o,h c o P,hd⟩
 .have Q:p∈X.pn++pins:=by
   rcases C9.mp T with z|z
   .exact z
   .exact absurd z 53
  obtain⟨e,n,ne,nf,d⟩:=I.pin p Q;exact⟨h _ _ e,n,C3<|C5 (B6 e) A,I.stkAll ne nf,d⟩
 .show(uU cap σ).length=N'.length;unfold uU;rw[A4];exact S.len
end
def tLc(cap:T4)(k:TI)(g:TG)(l:TT)(n:TE):TE:=fun f H Q=>k f H fun J o=>∃W:Nat->Nat->Tf->St->Hp->Prop,(∃m,W 0 m [] (uU cap f) o)/\∀i m acc d H',W i m acc d H'->
 (J.stop i H'/\∀p,H' p=Y->Q (.ref p) (upd H' p (.lst acc))) \/
 (J.go i H'/\acc.length<sizeLine/\∃N:Tf->St->Hp->Prop,(∀c a e,N c a e->∃h,h<m/\W (i+1) h c a e)/\∀x e,J.yld i H' x e->g x d e fun a q=>l a q fun b j=>(b=true/\n a j fun v r=>N (acc++[v]) a r)\/(b=false/\N acc a j))
section
variable{X:Cx}{N':Te}{cap:T4}{scope:Scope}
def aCf{a2 tg f:Ug}{t:Tb}{pos:Pos}{wi:TI}{g:TG}{tc:TT}{te:TE}(hc:X.calm=true)(S:nI X N' cap scope)(hi:PI X tg f wi)
 (hg:∀C s H fp pn,PG (bO X N' scope C s H fp pn) tg g) (ai:∀C s H fp pn,uH (bO X N' scope C s H fp pn) t tc) (he:∀C s H fp pn,PE (bO X N' scope C s H fp pn) a2 te)
 (hs:∀x,foldedSetIterable f X.env x=pure x) {pins:T3} {s:Ue} {σ:St} {H:Hp} {Q:VK} (I:Inv X pins σ H s) (h:tLc cap wi g tc te σ H Q)
 {use:Ub (Uc->Sem Unit)} {QQ:T2}
 (a6:∀(D C:Uf)(H':Hp)(acc:Tf)(s':Ue),D≠C->(∃m,s'.heap.Ns C m)->(∀h',Heap.SameBut C s'.heap h'->Inv X pins σ (upd H' D (.lst acc)) { s' with heap:=h' })->lD X pins (upd H' D (.lst acc)) C->Q (.ref D) (upd H' D (.lst acc))->compPost (model X.prog X.w) X.A X.xe use QQ (.ref D) C (.ok .next) s'):
 wpAny (model X.prog X.w) X.A (comprehension (.ListComp a2 [⟨tg,f,t,0⟩] scope pos) scope X.env (firstIterPos [⟨tg,f,t,0⟩] pos) (newList []) false (firstIter [⟨tg,f,t,0⟩] X.env) use) QQ X.xe s:=by
 refine wpAny_comprehension_free rfl hs (vA<|S.cells I.ok) S.kind S.names ?_;refine thn (hi pins s σ H _ I h) fun v s1 h1=>thn h1 fun ay s2 h2=>?_;obtain⟨it,fp,tn,J,B,e,P,T,a3,f2,W,⟨m0,w0⟩,a7⟩:=h2;subst e
 have k:∀b∈fp,b<s2.heap.objs.size:=fun b a=>by
  obtain⟨o,e,_⟩:=T.obj _ _ a3 b a;exact B6 e
 refine E4<|wpAny_newFunctionEnv S.nocell (fun y hy=>by simp at hy) (fun a8 a9 aa=>?_) S.kind;generalize hP:s2.heap.push { cls:=.type "list",dict:=Y,data:=.seq ([]:T6).toArray }=P2 at a9 aa ⊢;have ab:P2.objs.size=s2.heap.objs.size+1:=by rw[<- hP,Y7]
 have l:s2.heap.objs.size≠P2.objs.size:=by rw[ab];exact C3<|S6 _
 have hC:s2.heap.objs.size<=P2.objs.size:=by rw[ab];exact A1t _
 have E:=fun b o e a=>aa.extBut b o a<|A2 _ e;have a4:=fun b o e=>E b o (by rw[<- hP];exact A2 _ e)<|C3<|C5 (B6 e) hC;have aj:=E _ _ (by rw[<- hP];exact C2 _ rfl) l
 have I4:Inv (bO X N' scope P2.objs.size s2 B fp pins) [] (uU cap σ) B { s2 with heap:=a8,toks:=s2.toks+([]:Tx).length }:=
  DK S P f2 k hC (by simpa using a9) a4
 have a0:∀s4:Ue,s4={ s2 with heap:=a8,toks:=s2.toks+([]:Tx).length }->
  codeAny (model X.prog X.w) X.A (.compLoop (.ListComp a2 [⟨tg,f,t,0⟩] scope pos) 0 (.ref it) (.ref s2.heap.objs.size) (compEnvC scope (eK X.env scope.names []) P2.objs.size X.env)) (compPost (model X.prog X.w) X.A X.xe use QQ (.ref s2.heap.objs.size) P2.objs.size) s4:=by
  rintro s4 rfl
  have ac:s2.heap.objs.size∉frs X.stack:=fun a=>by
   obtain⟨_,o,ho,_⟩:=P.stack.mem a;exact absurd (B6 ho)<|Y2 _
  have cne:∀x c,(eK X.env scope.names []).lookup x=Z c->c<s2.heap.objs.size:=fun x c e=>by
   obtain⟨v,q⟩:=P.cell x c<|S.sub P.ok x c e;exact q.lt
  have G:∀{Hx:Hp}{ob:Obj},(∀b∈fp,Hx b=Y)->∀b∈fp,lD (bO X N' scope P2.objs.size s2 B fp pins) [(s2.heap.objs.size,ob)] Hx b:=fun{Hx ob} hn b a=>by
   refine⟨hn b a,C3<|C5 (k b a) hC,P.stkAll (f2 b a).2.1 (f2 b a).2.2.1,.inl a,fun x c e=>(f2 b a).2.2.2.2.1 x c (S.sub P.ok x c e),fun p L=>?_⟩;rcases C9.mp L with z|z
   .exact(f2 b a).2.2.2.2.2 p z
   .rw[A6.mp z];exact O7<|k b a
  refine aEW (fun n s'=>∃(i:Nat)(j:St)(H':Hp)(acc:Tf)(d:T6)(R:Nat),Inv (bO X N' scope P2.objs.size s2 B fp pins) [] j H' s'/\tn i s'.heap/\(∀b∈fp,H' b=Y)/\H' s2.heap.objs.size=Y /\
   s'.heap.get? s2.heap.objs.size=Z { cls:=.type "list",data:=.seq d.toArray R }/\bE acc d/\acc.length<=sizeLine/\W i n acc j H') ?_ m0
   ⟨0,uU cap σ,B,[],[],0,I4,T.keep _ _ _ a3 fun b _ o e=>a4 b o e,fun b a=>(f2 b a).1,P.hok.fresh<|A8 _,aj,.nil,F9 _,w0⟩
  rintro n s5 ⟨i,j,H',acc,d,R,I5,t5,ae,d5,g5,va,la,w5⟩
  have I5p:Inv (bO X N' scope P2.objs.size s2 B fp pins) [(s2.heap.objs.size,{ cls:=.type "list",data:=.seq d.toArray R })] j H' s5:=I5.pins_of fun p L=>by
   rw[A6.mp L];exact⟨g5,d5,l,ac,fun v z=>by cases z⟩
  rcases a7 i n acc j H' w5 with⟨stop,q⟩|⟨go,lt,N,hN,step⟩
  .refine thn (T.done (bO X N' scope P2.objs.size s2 B fp pins) rfl rfl rfl hc i _ s5 j H' _ I5p (G ae) t5 stop) fun r s6 ⟨hr,I6⟩=>.inl ⟨hr,?_⟩;have d6:=(I6.pin (s2.heap.objs.size,{ cls:=.type "list",data:=.seq d.toArray R }) 53).1;have nC:=I6.free;refine a6 _ _ H' acc s6 l (let⟨m,hn,_⟩:=I6.loc;⟨m,hn⟩) (fun h' a5=>?_) (P.fpOk hC (by rw[aL l.symm];exact nC))<|q _ d5;have up:=fun b o a e=>a5.extBut b o a e;have U:∀b o,s2.heap.get? b=Z o->b≠P2.objs.size/\b≠s2.heap.objs.size:=fun b o e=>⟨C3<|C5 (B6 e) hC,C3<|B6 e⟩;have u6:=I6.base
   have u7:Un (frs X.stack) fp B (upd H' s2.heap.objs.size (.lst acc)) s2.heap h':=by
    refine⟨fun b o e n a hx=>up b o (U b o e).1 (u6.keep b o e n a hx),fun b o e n a hx=>?_,fun b o e n hx=>?_,fun b o e hx=>?_,fun b xs e=>?_,fun b o u e=>?_,fun b ps e=>?_⟩
    .obtain⟨sl,q⟩:=u6.slot b o e n a hx;exact⟨sl,up b _ (U b o e).1 q⟩
    .rw[aL (U b o e).2];exact u6.free b o e n hx
    .obtain⟨o',q⟩:=u6.there b o e hx;exact⟨o',up b o' (U b o e).1 q⟩
    .have z:=u6.tups b xs e;rw[aL (aQ z d5)];exact z
    .have z:=u6.frzs b o u e;rw[aL (aQ z d5)];exact z
    .obtain⟨more,z⟩:=u6.tbls b ps e;exact⟨more,by rw[aL (aQ z d5)];exact z⟩
   have ak:HOk X.prog X.w (upd H' s2.heap.objs.size (.lst acc)) h':=fun b u e=>by
    by_cases a:b=s2.heap.objs.size
    .subst a;rw[aT]at e;cases e;exact⟨la,d,R,va,up _ _ l d6⟩
    .rw[aL a]at e;refine(I6.hok b u e).stay (fun c v am z=>up c v ?_ z) (fun c z=>by rw[aL (aQ z d5)];exact z) fun c xs z=>by rw[aL (aQ z d5)];exact z
     rcases am with rfl|z
     .exact aQ e nC
     .exact aQ z nC
   have ao:=I6.os;have ap:=I6.bare;obtain⟨hh,gg,dd,tt,oo⟩:=s6;subst ao;have z7:=P.call (d':=dd) (t':=tt) u7 ak ap fun b a=>⟨(f2 b a).2.2.2.1,(f2 b a).2.1,(f2 b a).2.2.2.2.1,(f2 b a).2.2.2.2.2⟩;exact z7
  .refine thn (T.item (bO X N' scope P2.objs.size s2 B fp pins) rfl rfl rfl hc i _ s5 j H' _ I5p (G ae) t5 go) fun r s6 ⟨u,hr,h6⟩=>.inr ⟨u,hr,?_⟩;refine thn h6 fun _ s7 ⟨x,H7,I7,r7,y7,t7,aq⟩=>?_;have ar:=I7.pinned (G aq) (T.obj _ _ t7)
   have a1:∀{af:St}{Hx:Hp}{sx:Ue},Inv (bO X N' scope P2.objs.size s2 B fp pins) ([(s2.heap.objs.size,{ cls:=.type "list",data:=.seq d.toArray R })]++pE fp s7.heap) af Hx sx->
    (∀b∈fp,∀o,s7.heap.get? b=Z o->sx.heap.get? b=Z o)/\(∀b∈fp,Hx b=Y)/\sx.heap.get? s2.heap.objs.size=Z { cls:=.type "list",data:=.seq d.toArray R }/\Hx s2.heap.objs.size=Y:=fun{af Hx sx} Ix=>by
    refine⟨fun b a o e=>(Ix.pin (b,o)<|B5 _<|B5 _<|cN a e).1,fun b a=>?_,?_,?_⟩
    .obtain⟨o,e,_⟩:=T.obj _ _ t7 b a;exact(Ix.pin (b,o)<|B5 _<|B5 _<|cN a e).2.1
    .exact(Ix.pin (s2.heap.objs.size,_)<|B5 _<|D9 _<|A6.mpr rfl).1
    .exact(Ix.pin (s2.heap.objs.size,{ cls:=.type "list",data:=.seq d.toArray R })<|B5 _<|D9 _<|A6.mpr rfl).2.1
   refine thn (hg _ _ _ _ _ _ s7 j H7 x u _ ar r7<|step x H7 y7) fun _ s8 ⟨O,H8,I8,q8⟩=>?_;refine thn (ai _ _ _ _ _ _ s8 O H8 _ I8 q8) fun b s9 ⟨H9,I9,q9⟩=>?_;rcases q9 with⟨rfl,q9⟩|⟨rfl,n9⟩
   .refine .inl ⟨rfl,thn (he _ _ _ _ _ _ s9 O H9 _ I9 q9) fun uv au ⟨v,ag,ah,rv,av⟩=>?_⟩;obtain⟨m',hm,aw⟩:=hN _ _ _ av;obtain⟨b1,b2,b3,b4⟩:=a1 ah;refine wpAny_list_append_plain ⟨R,b3⟩ (fun h' L a5=>?_) (by rw[F4,<- va.length];exact la);obtain⟨n2,e2⟩:=L;have up:=fun b o a e=>a5.extBut b o a e;have I10':Inv (bO X N' scope P2.objs.size s2 B fp pins) [] O ag au:=ah.pins_of fun p L=>absurd L 53;refine⟨m',hm,i+1,O,ag,acc++[v],d++[uv],n2,I10'.turned up b4 l (.inr (A8 _)) (fun x c e=>C3<|cne x c e) fun p L=>?_,T.keep _ _ _ t7 fun b a o e=>up b o (C3<|k b a)<|b1 b a o e,b2,b4,?_,va.append (.cons rv .nil),?_,aw⟩
    .have ax:p∈X.pn++pins:=by
      rcases C9.mp L with z|z
      .exact z
      .exact absurd z 53
     exact C3<|B6 (P.pin p ax).1
    .rw[e2];simp
    .rw[C1,D8];exact lt
   .obtain⟨m',hm,w9⟩:=hN _ _ _ n9;obtain⟨b1,b2,b3,b4⟩:=a1 I9;exact .inr ⟨rfl,m',hm,i+1,O,H9,acc,d,R,I9.pins_of fun p L=>absurd L 53,T.keep _ _ _ t7 b1,b2,b4,b3,va,la,w9⟩
 exact codeAny_compStart_list (a0 _ rfl)<|T.self _ 0 _ _ _ (T.keep _ _ _ a3 fun b _ o e=>a4 b o e)<|a0 _ rfl
def aNA(k:X.calm=true)(S:nI X N' cap scope)(hi:PI X tg a f)
 (l:∀C s H fp pn,PG (bO X N' scope C s H fp pn) tg g) (d:∀C s H fp pn,uH (bO X N' scope C s H fp pn) c i) (n:∀C s H fp pn,PE (bO X N' scope C s H fp pn) b j)
 (hs:∀x,foldedSetIterable a X.env x=pure x:=by intro _;rfl):PE X (.ListComp b [⟨tg,a,c,0⟩] scope pos) (tLc cap f g i j):=by
 intro pins s r H Q I h;refine aCf k S hi l d n hs I h fun D C H' acc t o ⟨m,hn⟩ p _ q=>⟨m,hn,fun h' e=>?_⟩;exact⟨.ref D,_,p h' e,rfl,q⟩
def aAO{i:Nat}{x:Str}{f tg c:Ug}{j:Tb}{pos pos' d:Pos}{u:TI}{g:TG}{y:TT}{A:TE}(J:X.N.Nodup)(k:X.N[i]?=Z x)(L:X.calm=true)(S:nI X N' cap scope)(hi:PI X tg c u)
 (O:∀C s H fp pn,PG (bO X N' scope C s H fp pn) tg g) (l:∀C s H fp pn,uH (bO X N' scope C s H fp pn) j y) (P:∀C s H fp pn,PE (bO X N' scope C s H fp pn) f A)
 (n:swapsWith (.ListComp f [⟨tg,c,j,0⟩] scope pos) (Z (.Name x pos')) d.line X.env=pure true:=by rfl) (B:X.env.scope.names.lookup x=Z .local:=by rfl)
 (hs:∀x,foldedSetIterable c X.env x=pure x:=by intro _;rfl):PS X (.Assign [.Name x pos'] (.ListComp f [⟨tg,c,j,0⟩] scope pos) d) (aBw (tLc cap u g y A)<|NB i):=by
 intro pins s σ H D I h;rw[exec_Assign_Name_used _ _ _ _ n];refine A0<|Y6<|A0 ?_;refine A0 (thn (aCf L S hi O l P hs I h fun E C H' acc G Q ⟨m,hn⟩ R fC T=>?_) fun _ G U=>A3<|A3 U);have V:=R G.heap<|A1u ..;refine wpAny_assign_Name<|yI V J k (.inl B) (v:=.ref E) rfl (fun s2 I2 p=>?_) (.inr B);obtain⟨a,q,ha⟩:=p
 have r:C≠a:=by
  rcases ha with z|z
  .rw[z];exact fC.2.1
  .exact fun w=>fC.2.2.2.2.1 x a z w.symm
 refine⟨m,hn.extBut q.extBut r,fun h' t=>?_⟩;exact⟨_,_,I2.turned (fun b o hb e=>t.extBut b o hb e) fC.1 fC.2.1 fC.2.2.2.1 fC.2.2.2.2.1 fC.2.2.2.2.2,T⟩
end
def wW:Key->Ud
 |.inl i=>.int i
 |.inr x=>.str x
mutual
def Rep(K:Fg)(H:Hp):Ud->V->Prop
 |.none,v=>v=.non
 |.bool b,v=>v=.bl b
 |.int i,v=>v=.int i
 |.str x,v=>v=.str x
 |.list xs,v=>∃a vs,v=.ref a/\SqL K H a vs/\aM K H xs vs
 |.tuple xs,v=>∃a vs,v=.ref a/\SqT K H a vs/\aM K H xs vs
 |.dict kvs,v=>∃a ks,v=.ref a/\H a=Z (.dK ks)/\nN K H kvs ks
def aM(K:Fg)(H:Hp):T5->Tf->Prop
 |[],vs=>vs=[]
 |d::ds,vs=>∃v r,vs=v::r/\Rep K H d v/\aM K H ds r
def nN(K:Fg)(H:Hp):Ua (Ud×Ud)->Ua (Key×V)->Prop
 |[],ks=>ks=[]
 |(k,d)::kvs,ks=>∃c v r,ks=(c,v)::r/\k=wW c/\Rep K H d v/\nN K H kvs r
end
def iC.seqT(e:iC H H')(h:SqT K H a xs):SqT K H' a xs:=by
 rcases h with h|h
 .refine .inl ?_;rcases h with h|⟨o,h⟩
  .exact .inl (e _ _ h)
  .exact .inr ⟨o,e _ _ h⟩
 .exact .inr h
mutual
theorem Rep.same{K:Fg}{H H':Hp}(e:iC H H'):∀(d:Ud)(v:V),Rep K H d v->Rep K H' d v
 |.none=>fun v h=>h
 |.bool b=>fun v h=>h
 |.int i=>fun v h=>h
 |.str x=>fun v h=>h
 |.list xs=>fun v h=>by
  obtain⟨a,vs,c,f,g⟩:=h;exact⟨a,vs,c,e.seq f,aM.same e xs vs g⟩
 |.tuple xs=>fun v h=>by
  obtain⟨a,vs,c,f,g⟩:=h;exact⟨a,vs,c,e.seqT f,aM.same e xs vs g⟩
 |.dict kvs=>fun v h=>by
  obtain⟨a,ks,c,f,g⟩:=h;exact⟨a,ks,c,e _ _ f,nN.same e kvs ks g⟩
theorem aM.same{K:Fg}{H H':Hp}(e:iC H H'):∀(ds:T5)(vs:Tf),aM K H ds vs->aM K H' ds vs
 |[]=>fun vs h=>h
 |d::ds=>fun vs h=>by
  obtain⟨v,r,c,f,g⟩:=h;exact⟨v,r,c,Rep.same e d v f,aM.same e ds r g⟩
theorem nN.same{K:Fg}{H H':Hp}(e:iC H H'):∀(kvs:Ua (Ud×Ud))(ks:Ua (Key×V)),nN K H kvs ks->nN K H' kvs ks
 |[]=>fun ks h=>h
 |(k,d)::kvs=>fun ks h=>by
  obtain⟨j,v,r,c,f,g,l⟩:=h;exact⟨j,v,r,c,f,Rep.same e d v g,nN.same e kvs r l⟩
end
theorem aM.length{K:Fg}{H:Hp}:∀{ds:T5}{vs:Tf},aM K H ds vs->ds.length=vs.length
 |[],vs=>fun h=>by rw[show vs=[]from h];rfl
 |d::ds,vs=>fun h=>by
  obtain⟨v,r,a,_,b⟩:=h;rw[a,D3,D3,aM.length b]
theorem aM.get{K:Fg}{H:Hp}:∀{ds:T5}{vs:Tf}{i:Nat}{v:V},aM K H ds vs->vs[i]?=Z v->∃d,ds[i]?=Z d/\Rep K H d v
 |[],vs,i,v=>fun h e=>by rw[show vs=[]from h]at e;simp at e
 |d::ds,vs,0,v=>fun h e=>by
  obtain⟨w,r,a,b,c⟩:=h;rw[a]at e;simp at e;subst e;exact⟨d,rfl,b⟩
 |d::ds,vs,i+1,v=>fun h e=>by
  obtain⟨w,r,a,b,c⟩:=h;rw[a]at e;exact aM.get (i:=i) c (by simpa using e)
theorem aM.app{K:Fg}{H:Hp}:∀{ds es:T5}{vs ws:Tf},aM K H ds vs->aM K H es ws->aM K H (ds++es) (vs++ws)
 |[],es,vs,ws=>fun h k=>by rw[show vs=[]from h];exact k
 |d::ds,es,vs,ws=>fun h k=>by
  obtain⟨v,r,a,b,c⟩:=h;exact⟨v,r++ws,by rw[a];rfl,b,aM.app c k⟩
section
variable{X:Cx}{pins:T3}{σ:St}{H:Hp}{s:Ue}
def Inv.sysN(I:Inv X pins σ H s):H sysModules=Y:=by
 obtain⟨o,es,ep,h,_⟩:=I.mod.sysm;exact(I.bs _ _ h).2
def Inv.sysL(I:Inv X pins σ H s)(h:SqL X.K H a xs):sysModules≠a:=by
 intro e;subst e;have hn:=I.sysN;rcases h with(h|⟨o,h⟩)|⟨o,c,n,d,_,_,hd,_⟩
 .rw[hn]at h;cases h
 .rw[hn]at h;cases h
 .obtain⟨o',es,ep,h',b⟩:=I.mod.sysm;have:=I.mod.kin _ _ d;rw[h']at this;cases this;rw[hd]at b;cases b
mutual
theorem Rep.reads'(I:Inv X pins σ H s):∀(d:Ud)(v:V)(u:Uc),Rep X.K H d v->RelV v u->∃as,Reads s.heap u d as/\sysModules∉as
 |.none=>fun v u r q=>by
  rw[show v=.non from r]at q;rw[show u=Value.none from q];exact⟨_,.none,53⟩
 |.bool b=>fun v u r q=>by
  rw[show v=.bl b from r]at q;rw[show u=Value.bool b from q];exact⟨_,.bool b,53⟩
 |.int i=>fun v u r q=>by
  rw[show v=.int i from r]at q;obtain⟨t,rfl⟩:=(show ∃t,u=Value.int i t from q);exact⟨_,.int i t,53⟩
 |.str x=>fun v u r q=>by
  rw[show v=.str x from r]at q;obtain⟨t,rfl⟩:=(show ∃t,u=Value.str x t from q);exact⟨_,.str x t,53⟩
 |.list xs=>fun v u r q=>by
  obtain⟨a,vs,rfl,c,f⟩:=r;rw[show u=Value.ref a from q];obtain⟨g,C,⟨o,n,h,j,_,hd⟩,_⟩:=I.list c;obtain⟨as,ha,hs⟩:=aM.reads' I xs vs g f C;exact⟨_,.list h j hd (by simpa using ha),fun z=>(B8.mp z).elim (I.sysL c) hs⟩
 |.tuple xs=>fun v u r q=>by
  obtain⟨a,vs,rfl,c,f⟩:=r;rw[show u=Value.ref a from q];obtain⟨g,C,⟨o,h,j,n,hd⟩,_⟩:=I.tuple c;obtain⟨as,ha,hs⟩:=aM.reads' I xs vs g f C;exact⟨_,.tuple h j hd (by simpa using ha),hs⟩
 |.dict kvs=>fun v u r q=>by
  obtain⟨a,ks,rfl,c,f⟩:=r;rw[show u=Value.ref a from q];obtain⟨_,hS,vs,D,o,es,ep,h,E,hd,_,P,_⟩:=(show eG X.prog X.w H s.heap a (.dK ks)from I.hok a _ c);obtain⟨as,bs,Q,R,l,m⟩:=nN.reads' I kvs ks vs es.toList f D P;refine⟨_,.dict h E.1 hd Q R,fun z=>?_⟩;rcases C9.mp z with z|z
  .rcases B8.mp z with z|z
   .rw[z]at hS;simp at hS
   .exact l z
  .exact m z
theorem aM.reads'(I:Inv X pins σ H s):∀(ds:T5)(vs:Tf)(us:T6),aM X.K H ds vs->bE vs us->∃as,ReadsAll s.heap us ds as/\sysModules∉as
 |[]=>fun vs us r q=>by
  rw[show vs=[]from r]at q;cases q;exact⟨_,.nil,53⟩
 |d::ds=>fun vs us r q=>by
  obtain⟨v,t,rfl,c,f⟩:=r;cases q with
  |cons B G=>
   obtain⟨as,ha,l⟩:=Rep.reads' I d v _ c B;obtain⟨bs,J,m⟩:=aM.reads' I ds t _ f G;exact⟨_,.cons ha J,fun z=>(C9.mp z).elim l m⟩
theorem nN.reads'(I:Inv X pins σ H s):∀(kvs:Ua (Ud×Ud))(ks:Ua (Key×V))(vs:Ua (Key×Uc))(es:Ua DictEntry),nN X.K H kvs ks->KV ks vs->Pairs (cH X.prog X.w) es vs->
 ∃as bs,ReadsAll s.heap (es.map (·.key)) (kvs.map (·.1)) as/\ReadsAll s.heap (es.map (·.val)) (kvs.map (·.2)) bs/\sysModules∉as/\sysModules∉bs
 |[]=>fun ks vs es r q p=>by
  rw[show ks=[]from r]at q;cases q;cases p;exact⟨_,_,.nil,.nil,53,53⟩
 |(k,d)::kvs=>fun ks vs es r q p=>by
  obtain⟨S,v,t,rfl,T,c,f⟩:=r;cases q with
  |@cons _ O _ U B G=>
   cases p with
   |@cons e _ a0 _ p1 p2 p3=>
    obtain⟨as,bs,ha,J,l,m⟩:=nN.reads' I kvs t _ _ f G p3;obtain⟨cs,j,n3⟩:=Rep.reads' I d v _ c B.2
    have y:Reads s.heap e.key k []:=by
     rw[T];have A:DQ O.1 e.key=true:=p1;rw[<- show S=O.1 from B.1]at A;rcases dB A with⟨i,L,rfl,N⟩|⟨x,L,rfl,N⟩
     .rw[N];exact .int i L
     .rw[N];exact .str x L
    refine⟨_,_,.cons y ha,.cons (show Reads s.heap e.val d cs by rw[p2];exact j) J,by simpa using l,fun z=>(C9.mp z).elim n3 m⟩
end
def Rep.reads(I:Inv X pins σ H s)(d:Ud)(v:V)(u:Uc)(r:Rep X.K H d v)(q:RelV v u):∃as,Reads s.heap u d as:=let⟨as,h,_⟩:=Rep.reads' I d v u r q;⟨as,h⟩
def aM.reads(I:Inv X pins σ H s)(ds:T5)(vs:Tf)(us:T6)(r:aM X.K H ds vs)(q:bE vs us):∃as,ReadsAll s.heap us ds as:=let⟨as,h,_⟩:=aM.reads' I ds vs us r q;⟨as,h⟩
end
section
variable{X:Cx}
def ZW(K:Fg)(neg:Bool):R2:=fun x y H Q=>∃dx a,Rep K H dx x/\Rep K H a y/\SeqAt.shaped dx=true/\SeqAt.shaped a=true/\Q (.bl (if neg then !PyData.eqv dx a else PyData.eqv dx a)) H
def aDr(a:X.A.units+64<cLine):OpR X (compareOp .Eq) (ZW X.K false):=by
 intro pins s k H x y v u Q I b c h;obtain⟨dx,d,e,f,g,i,q⟩:=h;obtain⟨as,ha⟩:=Rep.reads I dx x v e b;obtain⟨bs,j⟩:=Rep.reads I d y u f c;exact eq_dataH ha j g i a ⟨.bl _,H,I,rfl,q⟩
def aMv(a:X.A.units+64<cLine):OpR X (compareOp .NotEq) (ZW X.K true):=by
 intro pins s k H x y v u Q I b c h;obtain⟨dx,d,e,f,g,i,q⟩:=h;obtain⟨as,ha⟩:=Rep.reads I dx x v e b;obtain⟨bs,j⟩:=Rep.reads I d y u f c;exact ne_dataH ha j g i a ⟨.bl _,H,I,rfl,q⟩
open Classical in
def FB(h:Heap)(dv:Ud)(u:Uc):Bool:=if ∃d as,Reads h u d as/\PyData.eqv d dv=true then true else false
def aFr(r:Reads h u d as)(b:d.canLay0=true):FB h dv u=PyData.eqv d dv:=by
 unfold FB;by_cases e:PyData.eqv d dv=true
 .rw[A7 ⟨d,as,r,e⟩,e]
 .rw[B7,Bool.eq_false_iff.mpr e];rintro⟨c,a,f,g⟩;have:=SeqAt.Reads.unique d c u as a b r f;subst this;exact e g
theorem BX{A:Ui}{s:Ue}(b:Reads s.heap v dv h)(c:SeqAt.shaped dv=true)(f:A.units+64<cLine):
 ∀(us:T6)(ds:T5)(as:Td),ReadsAll s.heap us ds as->ds.all SeqAt.shaped=true->(∀y∈us,SeqAt.EqAt A s y v<|FB s.heap dv y)/\us.any (FB s.heap dv)=ds.any fun d=>PyData.eqv d dv
 |[]=>fun ds as r _=>by
  cases r;exact⟨fun y a=>absurd a 53,rfl⟩
 |y::us=>fun ds as r hs=>by
  cases r with
  |@cons _ _ d i j k g l=>
   rw[Z8,B4]at hs;obtain⟨m,n⟩:=BX b c f us _ _ l hs.2;have e:=aFr (dv:=dv) g<|A1b hs.1;have a:SeqAt.EqAt A s y v (PyData.eqv d dv):=SeqAt.eqAt_reads d dv A s y v _ _ g b (A1b hs.1) (A1b c)<|SeqAt.room_of_shaped hs.1 f;refine⟨fun z o=>?_,by rw[A0m,A0m,e,n]⟩;rcases B8.mp o with q|q
   .rw[q,e];exact a
   .exact m z q
def aLL(K:Fg)(neg:Bool):R2:=fun x y H Q=>∃dx ds p vs,Rep K H dx x/\y=.ref p/\(SqL K H p vs\/SqT K H p vs)/\aM K H ds vs/\SeqAt.shaped dx=true/\ds.all SeqAt.shaped=true /\
 Q (.bl (if neg then !ds.any fun d=>PyData.eqv d dx else ds.any fun d=>PyData.eqv d dx)) H
def aKz(j:X.A.in1.units+64<cLine):OpR X (compareOp .In) (aLL X.K false):=by
 intro pins s t H x y v u Q I l m h;obtain⟨dx,ds,p,vs,n,rfl,hp,b,k,c,q⟩:=h;cases m;obtain⟨as,ha⟩:=Rep.reads I dx x v n l;rcases hp with hp|hp
 .obtain⟨a,r,d,o⟩:=I.list hp;obtain⟨bs,e⟩:=aM.reads I ds vs a b r;obtain⟨f,g⟩:=BX (A:=X.A.in1) ha k j a ds bs e c;refine SeqAt.in_listAt (FB s.heap dx) d.isList (fun w i=>f w (by simpa using i)) ⟨.bl _,H,I,rfl,?_⟩;rw[show a.toArray.any (FB s.heap dx)=a.any (FB s.heap dx)by simp,g];exact q
 .obtain⟨a,r,d,o⟩:=I.tuple hp;obtain⟨bs,e⟩:=aM.reads I ds vs a b r;obtain⟨f,g⟩:=BX (A:=X.A.in1) ha k j a ds bs e c;refine SeqAt.in_tupleAt (FB s.heap dx) d (fun w i=>f w (by simpa using i)) ⟨.bl _,H,I,rfl,?_⟩;rw[show a.toArray.any (FB s.heap dx)=a.any (FB s.heap dx)by simp,g];exact q
theorem bE.types:∀{Ts:Ua String}{a:T6},bE (Ts.map V.ty) a->a=Ts.map Value.type
 |[],_=>fun h=>by cases h;rfl
 |t::Ts,a=>fun h=>by
  cases h with
  |cons b c=>rw[show _=Value.type t from b,bE.types c];rfl
theorem bE.bools:∀{bs:Ua Bool}{a:T6},bE (bs.map V.bl) a->a=bs.map Value.bool
 |[],_=>fun h=>by cases h;rfl
 |b::bs,a=>fun h=>by
  cases h with
  |cons c d=>rw[show _=Value.bool b from c,bE.bools d];rfl
def all_range(bs:Ua Bool):(List.range bs.length).all (fun i=>bs.getD i false)=bs.all id:=by
 rw[A0u];simp only[D5,F5];constructor
 .intro h b a;obtain⟨i,hi,rfl⟩:=List.mem_iff_getElem.mp a;have:=h i hi;rw[E3,C0 hi]at this;exact this
 .intro h i hi;rw[E3,C0 hi];exact h _<|A0q hi
def NN{bs:Ua Bool}:TruthOf prog w A (fun i v=>(bs.map Value.bool).toArray[i]?=Z v) (fun i=>bs.getD i false):=by
 intro i v s Q E a d;rw[A0x,D6]at a;cases e:bs[i]? with
 |none=>rw[e]at a;cases a
 |some b=>
  rw[e]at a;cases a;have f:bs.getD i false=b:=by rw[E3,e];rfl
  have c:Q (bs.getD i false) s:=d;rw[f]at c;exact Z7 c
noncomputable def zF:Nat:=2 ^ 8000
def aDd(i:Int):Prop:=i.natAbs<zF
def MY(h:aDd j):j.natAbs.log2<9000:=by
 by_cases a:j.natAbs=0
 .rw[a];decide +kernel
 .exact A0i ((Nat.log2_lt a).mpr h) 52
def aNJ(i j:Int):Prop:=aDd i/\aDd j
def HJ(h:aDd j):Builtin.Int.intBits j<=2 ^ 20:=by
 unfold Builtin.Int.intBits;by_cases a:(j==0)=true
 .rw[A7 a];exact F9 _
 .rw[B7 a];have:=MY h;omega
end
structure Callee(P:Uh)(w:World)(K:Fg)(mg:Str->Ti)(base:Heap)(k:Nat)(x:Str)(ps:Te)(sp:Sp)(q:Bool:=true):Prop where
 ex:∃f fd,jH P w K mg base CX0 k f fd ps sp q/\mg x=Z (.ref f)/\PySem.W.keepIn K (.ref f)=true/\Binds K fd ps []
structure Def(K:Fg)(mg:Str->Ti)(x:Str)(st:Stmt):Prop where
 ex:∃f fd,Fun K x x st f fd/\mg x=Z (.ref f)
section
variable{P:Uh}{w:World}{K:Fg}{mg:Str->Ti}{base:Heap}{X:Cx}
def Def.ok{st:Stmt}{ps:Te}{sp:Sp}{q:Bool}(D:Def K mg x st)(S:aU N ps (aH st))
 (b:∀(kV doc pm:Uc)(an:Tk)(cdv ct:Uc)(us:T6),us.length=ps.length->bindArgs (PySem.W.fnOf x x (dH st) (bP st) (aH st) .none kV doc pm an cdv ct) ⟨us,[]⟩=pure (ps.zip us))
 (len:∀vs H Q E,sp vs H Q E->vs.length=ps.length)
 (a:∀(f:Uf)(cdv:Uc)(A:Ui)(outer:Ua Env)(s:Ue)(H:Hp)(vs:Tf)(Q:VK)(E:XK),cE k (A.deeper<|envOfC x (aH st) s.heap.objs.size f cdv) q->sp vs H Q E->
  ∃t,PSs (lM CX0 P w K mg base N x (aH st) f cdv A outer s H E q).nox (bP st) t/\t { nx:=fun _ H'=>Q .non H',rt:=Q } (start N vs) H):Callee P w K mg base (k+1) x ps sp q:=by
 obtain⟨f,fd,F,m⟩:=D.ex;exact⟨f,fd,F.ok S len fun cdv A outer s H vs Q E c h=>a f cdv A outer s H vs Q E c h,m,F.kp,F.binds b⟩
def Callee.mono{k:Nat}(C:Callee P w K mg base j x ps sp)(h:j<=k):Callee P w K mg base k x ps sp:=by
 obtain⟨f,fd,F,r⟩:=C.ex;exact⟨f,fd,F.mono h,r⟩
def def_mk{st:Stmt}{oc:Uc}{od:Tk}{osl:Array (Ti)}{kV doc:Uc}(X:K.In h)(G:h.Ns mainGlobals mg)(a:PySem.W.nsIn K mainGlobals x=Z (Z (.ref f)))
 (l:K.lookup f=Z ⟨oc,od,.func (PySem.W.fnOf x x (dH st) (bP st) (aH st) .none kV doc pm an cdv ct),osl⟩) (c:PySem.W.codeIn K cdv x=true) (k:PySem.W.keepIn K (.ref f)=true):Def K mg x st:=
 ⟨f,_,aDA l c k,A1f X G a⟩
def aMy{e:Ug}{es:Tb}(C:Callee X.prog X.w X.K X.mg X.base k x ps sp q)(d:cE k X.A q)(ha:PA X (e::es) t)(g:Gl X x:=by rfl)
 (a:(x==("__debug__":Str))=false:=by decide) (h:starEach (e::es) X.env=(false,eval e X.env)::starEach es X.env:=by rfl) (c:(backTo pos<|starEach es X.env).any (·.1)=false:=by rfl):
 PE X (.Call (.Name x p) (e::es) [] pos) (aBD sp [] E0 t):=by
 obtain⟨f,fd,F,m,kp,b⟩:=C.ex;exact VQ F d g m kp b .nil aCN ha a h c
def cE.units1(r:cE k A):A.in1.units+64<cLine:=by have:=r.un;show A.units+1+64<_;omega
def YU(mg:Str->Ti)(xs:Te):Prop:=∀x∈xs,mg x=Y
def YU.of(h:YU mg xs)(x:Str)(a:x∈xs:=by decide +kernel):mg x=Y:=h x a
def aEa:YU mg []:=fun _ h=>absurd h 53
def cC{x:Str}(h:mg x=Y)(a:YU mg xs):YU mg (x::xs):=fun y b=>(B8.mp b).elim (fun e=>e▸h) (a y)
def PU(i j:Int):Prop:=aLn i j\/aNJ i j
def PU.ok(h:PU i j):IntMulOk i j:=by
 rcases h with h|h
 .exact h.ok
 .exact IntMulOk.of_bits (HJ h.1)<|HJ h.2
def aGx:OpR X (binaryOp .Mult) (rI PU fun i j=>.int (i*j)):=opI fun _ _ _ _ _ _ _ a q=>mul_int q a.ok
def aIC(_ j:Int):Prop:=0<j/\aDd j
def aDD:OpR X (binaryOp .FloorDiv) (rI aIC fun i j=>.int (i / j)):=opI fun i j _ _ _ _ _ a q=>by
 refine floordiv_int (Int.ne_of_gt a.1) ?_ (.inl (PyProof.noPylong_of_log2<|MY a.2));rw[Int.fdiv_eq_ediv_of_nonneg _ (Int.le_of_lt a.1)];exact q
end
def aHU(sc0:Scope)(N N':Te)(cap:T4)(scope:Scope):Bool:=
 scope.names.all (fun y=>y.2 != .cell)&&(scope.kind==.function)&&scope.names.all (fun y=>y.2 != .local || scope.names.lookup y.1==Z .local) &&
 scope.names.all (fun y=>y.2 != .free || (sc0.names.lookup y.1==Z .cell || sc0.names.lookup y.1==Z .free))&&(cap.length==N'.length) &&
 (List.range cap.length).all fun i=>match cap[i]? with
  |some (some j)=>(match N'[i]?,N[j]? with
   |some x,some y=>x==y&&scope.names.lookup x==Z .free
   |_,_=>false)
  |_=>true
def eX{X:Cx}{sc0:Scope}{N:Te}(n:X.env.scope=sc0)(o:X.N=N)(h:aHU sc0 N N' cap scope=true):nI X N' cap scope:=by
 unfold aHU at h;simp only[B4,D5,Z4,bne_iff_ne,A1y,F5]at h;obtain⟨⟨⟨⟨⟨a,b⟩,c⟩,d⟩,e⟩,f⟩:=h;refine⟨a,b,fun y l m=>?_,fun y l m=>?_,e,fun i j k=>?_⟩
 .rcases c y l with z|z
  .exact absurd m z
  .exact z
 .show X.env.scope.names.lookup y.1=_\/X.env.scope.names.lookup y.1=_;rw[n];rcases d y l with z|z
  .exact absurd m z
  .exact z
 .have hi:=(B3.mp k).1;have g:=f i hi;rw[k]at g;dsimp only at g;rw[o];split at g
  .rename_i x y ex p;rw[B4,Z4,Z4]at g;exact⟨x,ex,by rw[p,g.1],g.2⟩
  .cases g
noncomputable def tyName:Ud->String
 |.none=>"NoneType"
 |.bool _=>"bool"
 |.int _=>"int"
 |.str _=>"str"
 |.list _=>"list"
 |.tuple _=>"tuple"
 |.dict _=>"dict"
def asked:Ua String:=["int","bool","str","list","tuple","dict"]
def isT(T S:String):Bool:=T==S || (T=="int"&&S=="bool")
def yH(T:String)(d:Ud):Bool:=isT T<|tyName d
def aMZ(S T:String):Ub Bool:=if (Value.type S==Value.type T)=true then Z true else if PySem.W.kitMeta T=true then(PySem.fastBuiltinMro S).map (·.contains (Value.type T))else Y
def aCB:(["NoneType","bool","int","str","list","tuple","dict"].all fun S=>asked.all fun T=>aMZ S T==Z (isT T S))=true:=by decide +kernel
def aEA{T:String}(h:T∈asked):PySem.W.kitOne K (.type (tyName d)) (.type T)=Z (yH T d):=by
 have e:PySem.W.kitOne K (.type (tyName d)) (.type T)=aMZ (tyName d) T:=rfl;have a:=aCB;rw[D5]at a;have b:=a (tyName d) (by cases d<;>simp[tyName]);rw[D5]at b;exact eq_of_beq<|b T h
theorem WD{K:Fg}:∀{Ts:Ua String},(∀T∈Ts,T∈asked)->PySem.W.kitAny K (.type (tyName d)) (Ts.map Value.type)=Z (Ts.any fun T=>yH T d)
 |[]=>51
 |T::Ts=>fun h=>by
  rw[D4];unfold PySem.W.kitAny;rw[aEA (h T B9),A0m];cases yH T d with
  |true=>rfl
  |false=>rw[Bool.false_or];exact WD fun U a=>h U<|A9 _ a
section
variable{X:Cx}
def VS{H:Hp}(I:Inv X pins j H s):∀{d:Ud}{v:V}{u:Uc},Rep X.K H d v->RelV v u->∃Hc:Heap->Prop,PySem.W.KitX X.K u (.type (tyName d)) Hc/\Hc s.heap/\u≠.builtin "__main__.__loader__#opaque"
 |.none,v,u=>fun h r=>by
  rw[show v=.non from h]at r;cases r;exact⟨_,PySem.W.kitx_none,True.intro,fun z=>nomatch z⟩
 |.bool b,v,u=>fun h r=>by
  rw[show v=.bl b from h]at r;cases r;exact⟨_,PySem.W.kitx_bool,True.intro,fun z=>nomatch z⟩
 |.int i,v,u=>fun h r=>by
  rw[show v=.int i from h]at r;obtain⟨t,q⟩:=r;cases q;exact⟨_,PySem.W.kitx_int,True.intro,fun z=>nomatch z⟩
 |.str x,v,u=>fun h r=>by
  rw[show v=.str x from h]at r;obtain⟨t,q⟩:=r;cases q;exact⟨_,PySem.W.kitx_str,True.intro,fun z=>nomatch z⟩
 |.list xs,v,u=>fun h r=>by
  obtain⟨a,vs,rfl,c,_⟩:=h;cases r;obtain⟨e,k,⟨o,n,f,g,_,hd⟩,_⟩:=I.list c;exact⟨_,PySem.W.kitx_list,⟨o,f,g⟩,fun z=>nomatch z⟩
 |.tuple xs,v,u=>fun h r=>by
  obtain⟨a,vs,rfl,c,_⟩:=h;cases r;obtain⟨e,k,⟨o,f,g,n,hd⟩,_⟩:=I.tuple c;exact⟨_,PySem.W.kitx_tuple,⟨o,f,g⟩,fun z=>nomatch z⟩
 |.dict kvs,v,u=>fun h r=>by
  obtain⟨a,ks,rfl,c,_⟩:=h;cases r;obtain⟨_,_,vs,_,o,es,ep,l,m,_⟩:=(I.hok a _ c);exact⟨_,PySem.W.kitx_dict,⟨o,l,m.1⟩,fun z=>nomatch z⟩
def aKt(K:Fg):Tf->Hp->VK->Prop:=fun xs H Q=>∃x T d,xs=[x,.ty T]/\T∈asked/\Rep K H d x/\Q (.bl (yH T d)) H
def YJ:fP X (.builtin "isinstance") (aKt X.K):=by
 intro pins s g H xs us Q I r h;obtain⟨x,T,d,rfl,hT,hd,q⟩:=h;obtain⟨u,i,rfl,e,b⟩:=vals2 r;cases b;obtain⟨Hc,a,f,c⟩:=VS I hd e;exact PySem.W.kia_one a I.kIn f (aEA hT) c fun tk=>⟨.bl _,H,I.tok tk,rfl,q⟩
def aCE(K:Fg):Tf->Hp->VK->Prop:=fun xs H Q=>∃(x:V)(p:Uf)(Ts:Ua String)(d:Ud),xs=[x,.ref p]/\H p=Z (.tup (Ts.map V.ty))/\(∀T∈Ts,T∈asked)/\Rep K H d x/\Q (.bl (Ts.any fun T=>yH T d)) H
def UM:fP X (.builtin "isinstance") (aCE X.K):=by
 intro pins s w H xs us Q I r h;obtain⟨x,p,Ts,d,rfl,i,hT,hd,q⟩:=h;obtain⟨u,y,rfl,j,c⟩:=vals2 r;cases c;obtain⟨_,k,l,o,m,e,n,f⟩:=(I.hok p _ i);have b:=bE.types l;subst b;obtain⟨oc,od,t,osl⟩:=o;subst e f;obtain⟨Hc,a,v,g⟩:=VS I hd j;exact PySem.W.kia_tup a I.kIn v m (WD hT) g fun tk=>⟨.bl _,H,I.tok tk,rfl,q⟩
end
def iC.upd(h:H p=Y):iC H (upd H p o):=fun b u e=>by rw[aL (aQ e h)];exact e
def bC:Ud->Ub (T5)
 |.list xs=>Z xs
 |.tuple xs=>Z xs
 |_=>Y
def pG{K:Fg}{H:Hp}:∀{d:Ud}{v:V}{ds:T5},Rep K H d v->bC d=Z ds->∃a vs,v=.ref a/\(SqL K H a vs\/SqT K H a vs)/\aM K H ds vs
 |.list xs,v,ds=>fun h e=>by
  obtain⟨a,vs,b,c,f⟩:=h;cases e;exact⟨a,vs,b,.inl c,f⟩
 |.tuple xs,v,ds=>fun h e=>by
  obtain⟨a,vs,b,c,f⟩:=h;cases e;exact⟨a,vs,b,.inr c,f⟩
 |.none,_,_=>fun _ e=>by cases e
 |.bool _,_,_=>fun _ e=>by cases e
 |.int _,_,_=>fun _ e=>by cases e
 |.str _,_,_=>fun _ e=>by cases e
 |.dict _,_,_=>fun _ e=>by cases e
section
variable{X:Cx}{tg:Ug}
def aJb(K:Fg)(c:TE):TI:=fun d H R=>c d H fun x b=>∃a,x=.ref a/\((∃xs,SqL K b a xs/\R (Itl K a) b)\/(∃xs,SqT K b a xs/\R (Itt K a) b))
def aLB{l:Ug}{j:TE}(k:PE X l j):PI X tg l (aJb X.K j):=by
 intro pins s m H R I h;refine thn (k pins s m H _ I h) fun v s1 d=>?_;obtain⟨x,f,c,n,a,e,r⟩:=d;subst e;cases n
 have fp:∀b∈[s1.heap.objs.size],lD X pins f b:=fun b t=>by
  have e:=A6.mp t;subst e;exact c.fpOk (A8 _)<|c.hok.fresh<|A8 _
 rcases r with⟨xs,g,q⟩|⟨xs,g,q⟩
 .obtain⟨i,u,p,d⟩:=c.list g;refine wpAny_pyIter_list p.isList ?_;exact⟨s1.heap.objs.size,[s1.heap.objs.size],_,_,f,rfl,c.kept fun b o e=>A2 _ e,ZY a _,⟨_,C2 _ rfl,rfl,rfl⟩,fp,q⟩
 .obtain⟨i,u,p,d⟩:=c.tuple g;refine A0k p ?_;exact⟨s1.heap.objs.size,[s1.heap.objs.size],_,_,f,rfl,c.kept fun b o e=>A2 _ e,UI a _,⟨_,C2 _ rfl,rfl,rfl⟩,fp,q⟩
end
inductive CD where
 |d (x:Ud)
 |c (n:Nat)
 |t (xs:Ua (Ud ⊕ Nat))
 |f (kvs:Ua (Ua Key×Ud))
 |g (nm:Str)
abbrev Tz:=Ua (Str×CD)
abbrev Th:=Ub CD
abbrev T8:=Ua CD
inductive Cell where
 |lst (xs:T8)
 |dk (kvs:Ua (Key×CD))
 |dt (kvs:Ua (Ua Key×CD))
 |obj (nm:Str) (fs:Tz)
 |exc (fr:Bool) (nm:Str) (fs:Tz)
 |dead
structure Wd where
 F:Hp
 α:Nat->Uf
 n:Nat
structure Wd.Ext(W W':Wd):Prop where
 ff:iC W.F W'.F
 ln:W.n<=W'.n
 al:∀i,i<W.n->W'.α i=W.α i
def Wd.Ext.refl(W:Wd):W.Ext W:=⟨iC.refl _,A8 _,fun _ _=>rfl⟩
def Wd.Ext.trans(a:W.Ext c)(b:c.Ext d):W.Ext d:=⟨a.ff.trans b.ff,E6 a.ln b.ln,fun i h=>(b.al i<|C5 h a.ln).trans (a.al i h)⟩
def RF(K:Fg)(W:Wd):Ud ⊕ Nat->V->Prop
 |.inl x,v=>Rep K W.F x v
 |.inr i,v=>i<W.n/\v=.ref (W.α i)
def cdA:Ud ⊕ Nat->CD
 |.inl x=>.d x
 |.inr i=>.c i
def bQ(K:Fg)(nm:Str):Uf:=match PySem.W.nsIn K mainGlobals nm with
 |some (some (.ref C))=>C
 |_=>0
def bW(K:Fg)(W:Wd):CD->V->Prop
 |.d x,v=>Rep K W.F x v
 |.c i,v=>i<W.n/\v=.ref (W.α i)
 |.t xs,v=>∃a vs,v=.ref a/\W.F a=Z (.tup vs)/\Paired (RF K W) xs vs
 |.f kvs,v=>∃a o us,v=.ref a/\W.F a=Z (.frz o (.dT us))/\Paired (fun p q=>p.1=q.1/\Rep K W.F p.2 q.2) kvs us
 |.g nm,v=>v=.ref (bQ K nm)
abbrev bR(K:Fg)(W:Wd):T8->Tf->Prop:=Paired<|bW K W
def SM(K:Fg)(W:Wd):Th->Ub V->Prop
 |none,none=>True
 |some x,some v=>bW K W x v
 |_,_=>False
abbrev cF(K:Fg)(W:Wd):Ua (Th)->St->Prop:=Paired<|SM K W
def NL(a:Uf)(c:Uc)(dx:Tk)(fr:Bool)(h:Heap):Prop:=∃o vs,h.get? a=Z o/\o.cls=c/\o.dict=dx/\o.data=.fields vs/\(fr=true->1<vs.size/\vs[1]?=Z .none)
def MJ(K:Fg)(W:Wd)(dx:Tk)(fs:Tz):Prop:=match dx with
 |none=>fs=[]
 |some d=>fs≠[]/\∃us,W.F d=Z (.xd us)/\Paired (fun p q=>p.1=q.1/\bW K W p.2 q.2) fs us
def LC(K:Fg)(W:Wd)(a:Uf):Cell->HO->Prop
 |.lst xs,.lst vs=>bR K W xs vs
 |.dk kvs,.dK us=>Paired (fun p q=>p.1=q.1/\bW K W p.2 q.2) kvs us
 |.dt kvs,.dT us=>Paired (fun p q=>p.1=q.1/\bW K W p.2 q.2) kvs us
 |.obj nm fs,.ins C _ us=>C=bQ K nm/\Paired (fun p q=>p.1=q.1/\bW K W p.2 q.2) fs us
 |.exc fr nm fs,.ext b=>∃dx,b=NL a (.ref (bQ K nm)) dx fr/\MJ K W dx fs
 |_,_=>False
def aBR:Te:=["straight_within"]
def tabOf(K:Fg):Uc->Tk
 |.ref c=>match K.lookup c with
  |some o=>(match o.data with
   |.fields vs=>(match (vs[11]?:Ti)with
    |some (Value.ref P)=>Z P
    |_=>Y)
   |_=>Y)
  |none=>Y
 |_=>Y
def aDE(K:Fg):Ua (Uf×Str):=K.filterMap fun p=>match p.2.data with
 |.func fd=>if aBR.contains fd.name=true then(tabOf K fd.code).map fun P=>(P,fd.qualname++".<locals>.<lambda>")else Y
 |_=>Y
def TabAt(H:Hp)(x:Uf×Str):Prop:=∃ps,H x.1=Z (.tbl ps)/\TriplesOk ps.toList/\∀pos a,codeAmong pos ps.toList=Z a->∃c' oc u vs t,a=.ref c'/\H c'=Z (.frz oc u)/\oc.data=.fields vs/\vs[1]?=Z (.str x.2 t)
def TabAt.upd(h:TabAt H x)(b:∀ps,H p≠Z (.tbl ps))(d:∀ob u,H p≠Z (.frz ob u)):TabAt (upd H p o) x:=by
 obtain⟨ps,e,t,k⟩:=h;refine⟨ps,by rw[aL (show x.1≠p from fun z=>b ps (z▸e))];exact e,t,fun pos f c=>?_⟩;obtain⟨c',oc,u,vs,g,i,a,j⟩:=k pos f c;exact⟨c',oc,u,vs,g,i,by rw[aL (show c'≠p from fun z=>d oc u (z▸a))];exact a,j⟩
def TabsOk(K:Fg)(F H:Hp):Prop:=∀x∈aDE K,F x.1=Y/\TabAt H x
def TabsOk.upd(h:TabsOk K F H)(b:∀ps,H p≠Z (.tbl ps))(c:∀ob u,H p≠Z (.frz ob u)):TabsOk K F (upd H p o):=fun x a=>⟨(h x a).1,(h x a).2.upd b c⟩
def TabsOk.fresh(h:TabsOk K F H)(a:H p=Y):TabsOk K F (L2.upd H p o):=h.upd (fun ps e=>by rw[a]at e;cases e) fun ob u e=>by rw[a]at e;cases e
def TabsOk.updF{p:Uf}{o:HO}(h:TabsOk K F H)(b:∀ps,H p≠Z (.tbl ps)):TabsOk K (L2.upd F p o) H:=fun x a=>⟨by
 obtain⟨ps,e,_⟩:=(h x a).2;rw[aL (show x.1≠p from fun z=>b ps (z▸e))];exact(h x a).1,(h x a).2⟩
def LC.nt(r:LC K W a c o):(∀ps,o≠.tbl ps)/\∀ob u,o≠.frz ob u:=by
 cases c<;>cases o<;>first|exact False.elim r|exact⟨fun _ e=>(by cases e),fun _ _ e=>(by cases e)⟩
def TabsOk.cell{o:HO}(h:TabsOk K F H)(e:H a=Z o)(r:LC K W a c o):TabsOk K F (L2.upd H a o'):=
 h.upd (fun ps z=>r.nt.1 ps<|F0<|e.symm.trans z) fun ob u z=>r.nt.2 ob u<|F0<|e.symm.trans z
structure Good(K:Fg)(W:Wd)(M:Ua Cell)(H:Hp):Prop where
 fh:iC W.F H
 n:W.n=M.length
 cs:∀i c,M[i]?=Z c->c≠.dead->W.F (W.α i)=Y/\∃o,H (W.α i)=Z o/\LC K W (W.α i) c o
 inj:∀i j c c',M[i]?=Z c->M[j]?=Z c'->c≠.dead->c'≠.dead->W.α i=W.α j->i=j
 tb:TabsOk K W.F H
section
variable{K:Fg}{W W':Wd}{M M':Ua Cell}{H H':Hp}
def RF.up(h:RF K W x v)(e:W.Ext W'):RF K W' x v:=by
 cases x with
 |inl x=>exact Rep.same e.ff _ _ h
 |inr i=>exact⟨C5 h.1 e.ln,by rw[e.al i h.1];exact h.2⟩
def bW.up(h:bW K W x v)(e:W.Ext W'):bW K W' x v:=by
 cases x with
 |d x=>exact Rep.same e.ff _ _ h
 |c i=>exact⟨C5 h.1 e.ln,by rw[e.al i h.1];exact h.2⟩
 |t xs=>
  obtain⟨a,vs,b,j,k⟩:=h;exact⟨a,vs,b,e.ff _ _ j,Paired.mapP k fun _ _ r=>RF.up r e⟩
 |f kvs=>
  obtain⟨a,o,us,b,j,k⟩:=h;exact⟨a,o,us,b,e.ff _ _ j,Paired.mapP k fun _ _ r=>⟨r.1,Rep.same e.ff _ _ r.2⟩⟩
 |g nm=>exact h
def bR.up(h:bR K W xs vs)(e:W.Ext W'):bR K W' xs vs:=Paired.mapP h fun _ _ r=>bW.up r e
def cF.up{γ:Ua (Th)}(h:cF K W γ c)(e:W.Ext W'):cF K W' γ c:=Paired.mapP h fun a b r=>by
 cases a<;>cases b
 .exact True.intro
 .exact False.elim r
 .exact False.elim r
 .exact bW.up r e
def MJ.up{fs:Tz}(h:MJ K W dx fs)(e:W.Ext W'):MJ K W' dx fs:=by
 cases dx with
 |none=>exact h
 |some d=>
  obtain⟨a,us,b,c⟩:=h;exact⟨a,us,e.ff _ _ b,Paired.mapP c fun _ _ r=>⟨r.1,bW.up r.2 e⟩⟩
def LC.up(h:LC K W a c o)(e:W.Ext W'):LC K W' a c o:=by
 cases c<;>cases o<;>first|exact(let⟨dx,b,d⟩:=h;⟨dx,b,d.up e⟩)|exact False.elim h|exact bR.up h e|exact Paired.mapP h fun _ _ r=>⟨r.1,bW.up r.2 e⟩|exact⟨h.1,Paired.mapP h.2 fun _ _ r=>⟨r.1,bW.up r.2 e⟩⟩
def Good.lay(g:Good K W M H){o:HO}(d:H p=Y):W.Ext { W with F:=upd W.F p o }/\Good K { W with F:=upd W.F p o } M (upd H p o):=by
 have fp:=g.fh.free d;have e:W.Ext { W with F:=upd W.F p o }:=⟨iC.upd fp,A8 _,fun _ _=>rfl⟩;refine⟨e,?_,g.n,fun i c hi h=>?_,g.inj,(g.tb.updF fun ps e=>by rw[d]at e;cases e).fresh d⟩
 .intro b u a;have a:upd W.F p o b=Z u:=a;by_cases q:b=p
  .subst q;rw[aT]at a;rw[aT];exact a
  .rw[aL q]at a;rw[aL q];exact g.fh b u a
 .obtain⟨j,o',f,k⟩:=g.cs i c hi h;have ne:=aQ f d;exact⟨by show upd W.F p o (W.α i)=Y;rw[aL ne];exact j,o',by rw[aL ne];exact f,k.up e⟩
noncomputable def Wd.more(W:Wd)(p:Uf):Wd:={ W with α:=fun i=>if i=W.n then p else W.α i,n:=W.n+1 }
def Wd.ext_more(W:Wd)(p:Uf):W.Ext (W.more p):=⟨iC.refl _,A1t _,fun i h=>B7<|C3 h⟩
def Good.new(g:Good K W M H)(f:H p=Y)(r:LC K W p c o):Good K (W.more p) (M++[c]) (upd H p o):=by
 have e:=W.ext_more p
 have at_:∀i c',(M++[c])[i]?=Z c'->(i<M.length/\M[i]?=Z c')\/(i=M.length/\c'=c):=fun i c' h=>by
  by_cases q:i<M.length
  .rw[C8 q]at h;exact .inl ⟨q,h⟩
  .rw[Y0 (Nat.le_of_not_lt q)]at h
   have h':i-M.length=0:=by
    cases k:i-M.length with
    |zero=>rfl
    |succ m=>rw[k]at h;simp at h
   rw[h']at h;refine .inr ⟨50,?_⟩;simpa using h.symm
 have al:=fun i h=>e.al i (by rw[g.n];exact h);have an:(W.more p).α M.length=p:=by show(if M.length=W.n then p else _)=p;rw[A7 g.n.symm]
 have a:∀i c',M[i]?=Z c'->c'≠.dead->W.α i≠p:=fun i c' h l=>by
  obtain⟨_,o',t,_⟩:=g.cs i c' h l;exact aQ t f
 refine⟨?_,?_,fun i c' hi l=>?_,fun i j v s hi w x y d=>?_,g.tb.fresh f⟩
 .intro b u z;have:=g.fh b u z;rw[aL (aQ this f)];exact this
 .show W.n+1=_;rw[g.n,C1];rfl
 .rcases at_ i c' hi with⟨q,h⟩|⟨rfl,rfl⟩
  .obtain⟨A,o',t,B⟩:=g.cs i c' h l;rw[al i q];exact⟨A,o',by rw[aL (a i c' h l)];exact t,B.up e⟩
  .rw[an];exact⟨g.fh.free f,o,aT,r.up e⟩
 .rcases at_ i v hi with⟨q,h⟩|⟨rfl,rfl⟩
  .rcases at_ j s w with⟨q',h'⟩|⟨rfl,rfl⟩
   .rw[al i q,al j q']at d;exact g.inj i j v s h h' x y d
   .rw[al i q,an]at d;exact absurd d<|a i v h x
  .rcases at_ j s w with⟨q',h'⟩|⟨rfl,rfl⟩
   .rw[an,al j q']at d;exact absurd d.symm<|a j s h' y
   .rfl
def Good.set(g:Good K W M H){i:Nat}{c:Cell}(hi:M[i]?=Z c)(a:c≠.dead)(r:LC K W (W.α i) c' o'):Good K W (M.set i c') (upd H (W.α i) o'):=by
 obtain⟨p,o,w,x⟩:=g.cs i c hi a;have lt:=(B3.mp hi).1
 have at_:∀j d,(M.set i c')[j]?=Z d->(j=i/\d=c')\/(j≠i/\M[j]?=Z d):=fun j d h=>by
  by_cases q:i=j
  .subst q;rw[E2 lt]at h;exact .inl ⟨rfl,(F0 h).symm⟩
  .rw[E1 q]at h;exact .inr ⟨fun z=>q z.symm,h⟩
 refine⟨?_,by rw[g.n,U2],fun j d e hd=>?_,fun j k f l e y s t m=>?_,g.tb.cell w x⟩
 .intro b u v;rw[aL (aQ v p)];exact g.fh b u v
 .rcases at_ j d e with⟨rfl,rfl⟩|⟨q,h⟩
  .exact⟨p,o',aT,r⟩
  .obtain⟨A,u,B,C⟩:=g.cs j d h hd;have ne:=fun z=>q<|g.inj j i d c h hi hd a z;exact⟨A,u,by rw[aL ne];exact B,C⟩
 .rcases at_ j f e with⟨rfl,rfl⟩|⟨q,h⟩<;>rcases at_ k l y with⟨rfl,rfl⟩|⟨q',h'⟩
  .rfl
  .exact g.inj _ k c l hi h' a t m
  .exact g.inj j _ f c h hi s a m
  .exact g.inj j k f l h h' s t m
end
abbrev Ga:=Ua<|Th
abbrev Sto:=Ua Cell
abbrev EF:=Ga->Sto->Option (CD×Sto)
abbrev TF:=Ga->Sto->Ub (Bool×Sto)
abbrev AF:=Ga->Sto->Option (List CD×Sto)
inductive Out where
 |nx (γ:Ga)|bk (γ:Ga)|ct (γ:Ga)|rt (x:CD)
abbrev SF:=Ga->Sto->Ub (Out×Sto)
abbrev GF:=CD->Ga->Sto->Ub (Ga×Sto)
abbrev GsF:=T8->Ga->Sto->Ub (Ga×Sto)
abbrev F1:=CD->Sto->Ub (CD×Sto)
abbrev F2:=CD->CD->Sto->Ub (CD×Sto)
abbrev FN:=T8->Sto->Ub (CD×Sto)
section
variable(K:Fg)
def SE(t:TE)(f:EF):Prop:=∀γ M x M',f γ M=Z (x,M')->∀(W:Wd)(H:Hp)(a:St)(Q:VK),Good K W M H->cF K W γ a->(∀v W' H',W.Ext W'->Good K W' M' H'->bW K W' x v->Q v H')->t a H Q
def STt(t:TT)(f:TF):Prop:=∀γ M b M',f γ M=Z (b,M')->∀(W:Wd)(H:Hp)(a:St)(Q:Bool->Hp->Prop),Good K W M H->cF K W γ a->(∀W' H',W.Ext W'->Good K W' M' H'->Q b H')->t a H Q
def SA(t:TA)(f:AF):Prop:=∀γ M xs M',f γ M=Z (xs,M')->∀(W:Wd)(H:Hp)(a:St)(Q:Tf->Hp->Prop),Good K W M H->cF K W γ a->(∀vs W' H',W.Ext W'->Good K W' M' H'->bR K W' xs vs->Q vs H')->t a H Q
def aDI(D:Ends)(W:Wd)(H:Hp):Out->Prop
 |.nx γ=>∀a,cF K W γ a->D.nx a H
 |.bk γ=>∀a,cF K W γ a->D.bk a H
 |.ct γ=>∀a,cF K W γ a->D.ct a H
 |.rt x=>∀v,bW K W x v->D.rt v H
def SS(t:TS)(f:SF):Prop:=∀γ M o M',f γ M=Z (o,M')->∀(W:Wd)(H:Hp)(a:St)(D:Ends),Good K W M H->cF K W γ a->(∀W' H',W.Ext W'->Good K W' M' H'->aDI K D W' H' o)->t D a H
def SG(t:TG)(f:GF):Prop:=∀x γ M a M',f x γ M=Z (a,M')->∀(W:Wd)(H:Hp)(c:St)(v:V)(Q:St->Hp->Prop),Good K W M H->cF K W γ c->bW K W x v->(∀b W' H',W.Ext W'->Good K W' M' H'->cF K W' a b->Q b H')->t v c H Q
def SGs(t:TGs)(f:GsF):Prop:=∀xs γ M a M',f xs γ M=Z (a,M')->∀(W:Wd)(H:Hp)(c:St)(vs:Tf)(Q:St->Hp->Prop),Good K W M H->cF K W γ c->bR K W xs vs->(∀b W' H',W.Ext W'->Good K W' M' H'->cF K W' a b->Q b H')->t vs c H Q
def P2(r:R2)(f:F2):Prop:=∀x y M z M',f x y M=Z (z,M')->∀(W:Wd)(H:Hp)(v u:V)(Q:VK),Good K W M H->bW K W x v->bW K W y u->(∀w W' H',W.Ext W'->Good K W' M' H'->bW K W' z w->Q w H')->r v u H Q
def P1(r:V->Hp->VK->Prop)(f:F1):Prop:=∀x M z M',f x M=Z (z,M')->∀(W:Wd)(H:Hp)(v:V)(Q:VK),Good K W M H->bW K W x v->(∀w W' H',W.Ext W'->Good K W' M' H'->bW K W' z w->Q w H')->r v H Q
def PN(r:Tf->Hp->VK->Prop)(f:FN):Prop:=∀xs M z M',f xs M=Z (z,M')->∀(W:Wd)(H:Hp)(vs:Tf)(Q:VK),Good K W M H->bR K W xs vs->(∀w W' H',W.Ext W'->Good K W' M' H'->bW K W' z w->Q w H')->r vs H Q
def spM(f:FN):Sp:=fun vs H Q _=>∃xs M W y M',Good K W M H/\bR K W xs vs/\f xs M=Z (y,M')/\∀v W' H',W.Ext W'->Good K W' M' H'->bW K W' y v->Q v H'
end
def aD(i:Nat):EF:=fun γ M=>match γ[i]? with
 |some (some x)=>Z (x,M)
 |_=>Y
def fC(x:Ud):EF:=fun _ M=>Z (.d x,M)
noncomputable def fOp(h:F2)(f g:EF):EF:=fun γ M=>(f γ M).bind fun r=>(g γ r.2).bind fun q=>h r.1 q.1 q.2
noncomputable def fUn(h:F1)(f:EF):EF:=fun γ M=>(f γ M).bind fun r=>h r.1 r.2
def asB:CD->Ub Bool
 |.d (.bool b)=>Z b
 |_=>Y
def lL(f g:EF):EF:=fun γ M=>(f γ M).bind fun r=>(asB r.1).bind fun b=>if b=true then g γ r.2 else Z (.d (.bool false),r.2)
def fOr(f g:EF):EF:=fun γ M=>(f γ M).bind fun r=>(asB r.1).bind fun b=>if b=true then Z (.d (.bool true),r.2)else g γ r.2
def aDm(f:EF):EF:=fun γ M=>(f γ M).bind fun r=>(asB r.1).bind fun b=>Z (.d (.bool (!b)),r.2)
noncomputable def fIf(t:TF)(f g:EF):EF:=fun γ M=>(t γ M).bind fun r=>if r.1=true then f γ r.2 else g γ r.2
def FG(f g:TF):TF:=fun γ M=>(f γ M).bind fun r=>if r.1=true then g γ r.2 else Z (false,r.2)
def gOr(f g:TF):TF:=fun γ M=>(f γ M).bind fun r=>if r.1=true then Z (true,r.2)else g γ r.2
def fX(f:TF):TF:=fun γ M=>(f γ M).bind fun r=>Z (!r.1,r.2)
def gB(f:EF):TF:=fun γ M=>(f γ M).bind fun r=>(asB r.1).bind fun b=>Z (b,r.2)
def ED(h h':F2)(f g e:EF):EF:=fun γ M=>(f γ M).bind fun r=>(g γ r.2).bind fun q=>(h r.1 q.1 q.2).bind fun z=>(asB z.1).bind fun b=>if b=true then(e γ z.2).bind fun w=>h' q.1 w.1 w.2 else Z (.d (.bool false),z.2)
def aO:AF:=fun _ M=>Z ([],M)
def aC(f:EF)(g:AF):AF:=fun γ M=>(f γ M).bind fun r=>(g γ r.2).bind fun q=>Z (r.1::q.1,q.2)
def jL:T8->Ub (T5)
 |[]=>Z []
 |.d x::r=>(jL r).map (x::·)
 |.c _::_=>Y
 |.t _::_=>Y
 |.f _::_=>Y
 |.g _::_=>Y
def bI(f:AF):EF:=fun γ M=>(f γ M).bind fun r=>(jL r.1).bind fun ds=>if ds.length<=sizeLine then Z (.d (.tuple ds),r.2)else Y
def dW(f:AF):EF:=fun γ M=>(f γ M).bind fun r=>(jL r.1).bind fun ds=>if ds.length<=sizeLine then Z (.d (.list ds),r.2)else Y
def mH(f:AF):EF:=fun γ M=>(f γ M).bind fun r=>if r.1.length<=sizeLine then Z (.c r.2.length,r.2++[.lst r.1])else Y
noncomputable def aP(h:FN)(f:AF):EF:=fun γ M=>(f γ M).bind fun r=>h r.1 r.2
def cS:SF:=fun γ M=>Z (.nx γ,M)
def aY(f g:SF):SF:=fun γ M=>(f γ M).bind fun r=>match r.1 with
 |.nx a=>g a r.2
 |o=>Z (o,r.2)
def eA(f:EF):SF:=fun γ M=>(f γ M).bind fun r=>Z (.nx γ,r.2)
def cQ(f:EF):SF:=fun γ M=>(f γ M).bind fun r=>Z (.rt r.1,r.2)
def aOj:SF:=fun _ M=>Z (.rt (.d .none),M)
noncomputable def sIf(c:TF)(f g:SF):SF:=fun γ M=>(c γ M).bind fun r=>if r.1=true then f γ r.2 else g γ r.2
def aW(f:EF)(g:GF):SF:=fun γ M=>(f γ M).bind fun r=>(g r.1 γ r.2).bind fun q=>Z (.nx q.1,q.2)
def hName(i:Nat):GF:=fun x γ M=>Z (γ.set i<|Z x,M)
def pH:GsF:=fun xs γ M=>match xs with
 |[]=>Z (γ,M)
 |_=>Y
def cG(f:GF)(g:GsF):GsF:=fun xs γ M=>match xs with
 |x::r=>(f x γ M).bind fun q=>g r q.1 q.2
 |[]=>Y
def gU(n:Nat)(g:GsF):GF:=fun x γ M=>match x with
 |.d (.tuple ds)=>if ds.length=n then g (ds.map .d) γ M else Y
 |.t xs=>if xs.length=n then g (xs.map cdA) γ M else Y
 |_=>Y
abbrev F3:=CD->CD->CD->Sto->Ub Sto
def hSub(fo a:EF)(s:F3):GF:=fun x γ M=>(fo γ M).bind fun r=>(a γ r.2).bind fun q=>(s r.1 q.1 x q.2).bind fun M'=>Z (γ,M')
def QG(i j:Nat)(f:AF):SF:=fun γ M=>(f γ M).bind fun r=>match r.1 with
 |[x,y]=>Z (.nx ((γ.set i<|Z x).set j (Z y)),r.2)
 |_=>Y
def jW(g:GF)(b:SF):T8->Ga->Sto->Ub (Out×Sto)
 |[],γ,M=>Z (.nx γ,M)
 |x::xs,γ,M=>(g x γ M).bind fun r=>(b r.1 r.2).bind fun q=>match q.1 with
  |.nx a=>jW g b xs a q.2
  |.ct a=>jW g b xs a q.2
  |.bk a=>Z (.nx a,q.2)
  |.rt x=>Z (.rt x,q.2)
def nM(f:AF)(g:GF)(b:SF):SF:=fun γ M=>(f γ M).bind fun r=>jW g b r.1 γ r.2
def dO(c:TF)(b:SF):Nat->Ga->Sto->Ub (Out×Sto)
 |0,_,_=>Y
 |n+1,γ,M=>(c γ M).bind fun r=>if r.1=true then(b γ r.2).bind fun q=>match q.1 with
  |.nx a=>dO c b n a q.2
  |.ct a=>dO c b n a q.2
  |.bk a=>Z (.nx a,q.2)
  |.rt x=>Z (.rt x,q.2)else Z (.nx γ,r.2)
open Classical in
noncomputable def pJ(c:TF)(b:SF):SF:=fun γ M=>if h:∃n,(dO c b n γ M).isSome=true then dO c b h.choose γ M else Y
def lcF(g:GF)(c:TF)(e:EF):T8->Ga->Sto->Ub (T8×Sto)
 |[],γ,M=>Z ([],M)
 |x::xs,γ,M=>(g x γ M).bind fun a=>(c a.1 a.2).bind fun b=>if b.1=true then(e a.1 b.2).bind fun r=>(lcF g c e xs a.1 r.2).bind fun q=>Z (r.1::q.1,q.2)else lcF g c e xs a.1 b.2
noncomputable def tI(cap:T4)(γ:Ga):Ga:=cap.map fun o=>o.bind fun j=>(γ[j]?).join
def dP:TF:=fun _ M=>Z (true,M)
def yU(cap:T4)(f:AF)(g:GF)(c:TF)(e:EF):AF:=fun γ M=>(f γ M).bind fun r=>if r.1.length<=sizeLine then lcF g c e r.1 (tI cap γ) r.2 else Y
def fLc(cap:T4)(f:AF)(g:GF)(c:TF)(e:EF):EF:=dW<|yU cap f g c e
def JC(cap:T4)(f:AF)(g:GF)(c:TF)(e:EF):EF:=mH<|yU cap f g c e
def fnF(ps N:Nat)(b:SF):FN:=fun xs M=>if xs.length=ps then(b (xs.map Z++List.replicate (N-xs.length) Y) M).bind fun r=>match r.1 with
 |.rt x=>Z (x,r.2)
 |.nx _=>Z (.d .none,r.2)
 |_=>Y else Y
def aI{b c:Type}{o:Ub b}{k:b->Ub c}{r:c}(h:o.bind k=Z r):∃a,o=Z a/\k a=Z r:=by
 cases o with
 |none=>cases h
 |some a=>exact⟨a,rfl,h⟩
theorem Paired.get{a b:Type}{R:a->b->Prop}:∀{xs:Ua a}{ys:Ua b}{i:Nat}{x:a},Paired R xs ys->xs[i]?=Z x->∃y,ys[i]?=Z y/\R x y
 |_,_,_,_,.nil=>fun e=>by simp at e
 |_,_,0,_,.cons r _=>fun e=>by simp at e;subst e;exact⟨_,rfl,r⟩
 |_,_,i+1,x,.cons _ t=>fun e=>by
  obtain⟨u,c,d⟩:=Paired.get t (by simpa using e);exact⟨u,by simpa using c,d⟩
theorem Paired.set{a b:Type}{R:a->b->Prop}{x:a}{y:b}(r:R x y):∀{xs:Ua a}{ys:Ua b}(i:Nat),Paired R xs ys->Paired R (xs.set i x) (ys.set i y)
 |_,_,_,.nil=>.nil
 |_,_,0,.cons _ t=>.cons r t
 |_,_,i+1,.cons q t=>.cons q (Paired.set r i t)
theorem Paired.app{c d:Type}{R:c->d->Prop}:∀{xs a:Ua c}{ys b:Ua d},Paired R xs ys->Paired R a b->Paired R (xs++a) (ys++b)
 |_,_,_,_,.nil=>fun s=>s
 |_,_,_,_,.cons r t=>fun s=>.cons r (Paired.app t s)
def Paired.len{a b:Type}{R:a->b->Prop}{xs:Ua a}{ys:Ua b}(p:Paired R xs ys):xs.length=ys.length:=A2g p
section
variable{K:Fg}
theorem fG{W:Wd}:∀{xs:T8}{ds:T5}{vs:Tf},jL xs=Z ds->bR K W xs vs->aM K W.F ds vs
 |[],ds,vs=>fun e h=>by
  cases e;cases h;rfl
 |.c _::_,ds,vs=>fun e h=>by cases e
 |.t _::_,ds,vs=>fun e h=>by cases e
 |.f _::_,ds,vs=>fun e h=>by cases e
 |.g _::_,ds,vs=>fun e h=>by cases e
 |.d x::r,ds,vs=>fun e h=>by
  cases h with
  |@cons _ v _ a b i=>
   unfold jL at e;cases q:jL r with
   |none=>rw[q]at e;cases e
   |some es=>
    rw[q]at e;cases e;exact⟨v,a,rfl,b,fG q i⟩
def WS(h:Paired (RF K W) xs vs):bR K W (xs.map cdA) vs:=by
 induction h with
 |nil=>exact .nil
 |@cons x v _ _ r _ ih=>exact .cons (by cases x<;>exact r) ih
theorem eV{W:Wd}:∀{ds:T5}{vs:Tf},aM K W.F ds vs->bR K W (ds.map .d) vs
 |[],vs=>fun h=>by rw[show vs=[]from h];exact .nil
 |d::ds,vs=>fun h=>by
  obtain⟨v,r,rfl,a,b⟩:=h;exact .cons a (eV b)
theorem DR:∀{xs:T8}{ds:T5},jL xs=Z ds->ds.length=xs.length
 |[],ds=>fun e=>by cases e;rfl
 |.c _::_,ds=>fun e=>by cases e
 |.t _::_,ds=>fun e=>by cases e
 |.f _::_,ds=>fun e=>by cases e
 |.g _::_,ds=>fun e=>by cases e
 |.d x::r,ds=>fun e=>by
  unfold jL at e;cases q:jL r with
  |none=>rw[q]at e;cases e
  |some es=>
   rw[q]at e;cases e;rw[D3,D3,DR q]
def aJZ:SE K (aOH i) (aD i):=by
 intro γ M x M' h W H c Q g r k;unfold aD at h;cases e:γ[i]? with
 |none=>rw[e]at h;cases h
 |some o=>
  cases o with
  |none=>rw[e]at h;cases h
  |some y=>
   rw[e]at h;cases h;obtain⟨v,b,a⟩:=Paired.get r e;cases v with
   |none=>exact False.elim a
   |some v=>exact⟨v,b,k v W H (.refl _) g a⟩
def aBp:SE K (tC (.int i)) (fC (.int i)):=by
 intro γ M x M' h W H a Q g r k;cases h;exact k _ W H (.refl _) g rfl
def aOV:SE K (tC (.bl b)) (fC (.bool b)):=by
 intro γ M x M' h W H a Q g r k;cases h;exact k _ W H (.refl _) g rfl
def aJp:SE K (tC .non) (fC .none):=by
 intro γ M x M' h W H a Q g r k;cases h;exact k _ W H (.refl _) g rfl
def aKa:SE K (tC (.str x)) (fC (.str x)):=by
 intro γ M x M' h W H a Q g r k;cases h;exact k _ W H (.refl _) g rfl
variable{ta tb tc:TE}{f g e:EF}{tt uu:TT}{ft gt:TF}{tA:TA}{fa:AF}
def VD{r:R2}{h:F2}(p:P2 K r h)(a:SE K ta f)(b:SE K tb g):SE K (tOp r ta tb) (fOp h f g):=by
 intro γ M x M' c W H d Q G R k;obtain⟨⟨y,M1⟩,l,c⟩:=aI c;obtain⟨⟨z,M2⟩,m,c⟩:=aI c;refine a _ _ _ _ l W H d _ G R fun v n o i q s=>?_;refine b _ _ _ _ m n o d _ q (R.up i) fun u t A j G2 B=>?_;exact p _ _ _ _ _ c t A v u Q G2 (s.up j) B fun w C D E I J=>k w C D ((i.trans j).trans E) I J
def aNR{r:V->Hp->VK->Prop}{h:F1}(p:P1 K r h)(a:SE K ta f):SE K (tUn r ta) (fUn h f):=by
 intro γ M x M' b W H c Q G R k;obtain⟨⟨y,M1⟩,d,b⟩:=aI b;refine a _ _ _ _ d W H c _ G R fun v i j l m n=>?_;exact p _ _ _ _ b i j v Q m n fun w o q s t u=>k w o q (l.trans s) t u
def KM{b:Bool}(h:asB x=Z b):x=.d (.bool b):=by
 cases x with
 |c n=>cases h
 |t n=>cases h
 |f n=>cases h
 |g _=>cases h
 |d x=>cases x<;>first|cases h;rfl|cases h
def aJk(a:SE K ta f)(b:SE K tb g):SE K (aIf ta tb) (lL f g):=by
 intro γ M x M' d W H i Q G R k;obtain⟨⟨y,M1⟩,n,d⟩:=aI d;obtain⟨c,o,d⟩:=aI d;refine a _ _ _ _ n W H i _ G R fun v j l h m p=>?_;have q:=KM o;subst q;refine⟨c,p,?_⟩;cases c with
 |true=>rw[A7 rfl];rw[A7 rfl]at d;exact b _ _ _ _ d j l i Q m (R.up h) fun w r s t u z=>k w r s (h.trans t) u z
 |false=>
  cases d;exact k _ j l h m rfl
def aKO(a:SE K ta f):SE K (aIs ta) (aDm f):=by
 intro γ M x M' b W H d Q G R k;obtain⟨⟨y,M1⟩,h,b⟩:=aI b;obtain⟨c,i,b⟩:=aI b;refine a _ _ _ _ h W H d _ G R fun v j l m n o=>?_;have p:=KM i;subst p;cases b;exact⟨c,o,k _ j l m n rfl⟩
def aDq{r l:R2}{h h':F2}(p:P2 K r h)(p':P2 K l h')(a:SE K ta f)(b:SE K tb g)(c:SE K tc e):SE K (aBx r l ta tb tc) (ED h h' f g e):=by
 intro γ M x M' d W H j Q G R k;obtain⟨⟨y,M1⟩,J,d⟩:=aI d;obtain⟨⟨z,M2⟩,L,d⟩:=aI d;obtain⟨⟨w,M3⟩,N,d⟩:=aI d;obtain⟨q,O,d⟩:=aI d;refine a _ _ _ _ J W H j _ G R fun v P S n T U=>?_;refine b _ _ _ _ L P S j _ T (R.up n) fun u V X s G2 A=>?_;refine p _ _ _ _ _ N V X v u _ G2 (U.up s) A fun t B C D E r3=>?_;have hy:=KM O;subst hy;refine⟨q,r3,?_⟩;have i:=(n.trans s).trans D;cases q with
 |true=>
  obtain⟨⟨m,M4⟩,h5,d⟩:=aI d;refine c _ _ _ _ h5 B C j _ E (R.up i) fun o W4 H4 I G4 r4=>?_;exact p' _ _ _ _ _ d W4 H4 u o Q G4 (A.up<|D.trans I) r4 fun w W5 H5 e5 G5 r5=>k w W5 H5 ((i.trans I).trans e5) G5 r5
 |false=>
  cases d;exact k _ B C i E rfl
def aMq(a:STt K tt ft)(b:STt K uu gt):STt K (aMG tt uu) (FG ft gt):=by
 intro γ M x M' d W H i Q G R k;obtain⟨⟨c,M1⟩,n,d⟩:=aI d;refine a _ _ _ _ n W H i _ G R fun j l h m=>?_;cases c with
 |true=>rw[A7 rfl];rw[A7 rfl]at d;exact b _ _ _ _ d j l i Q m (R.up h) fun o p q r=>k o p (h.trans q) r
 |false=>rw[B7 C6];rw[B7 C6]at d;cases d;exact k j l h m
def aNn(a:STt K tt ft)(b:STt K uu gt):STt K (tOr tt uu) (gOr ft gt):=by
 intro γ M x M' d W H i Q G R k;obtain⟨⟨c,M1⟩,n,d⟩:=aI d;refine a _ _ _ _ n W H i _ G R fun j l h m=>?_;cases c with
 |true=>rw[A7 rfl];rw[A7 rfl]at d;cases d;exact k j l h m
 |false=>rw[B7 C6];rw[B7 C6]at d;exact b _ _ _ _ d j l i Q m (R.up h) fun o p q r=>k o p (h.trans q) r
def aLo(a:STt K tt ft):STt K (aOK tt) (fX ft):=by
 intro γ M x M' b W H d Q G R k;obtain⟨⟨c,M1⟩,h,b⟩:=aI b;cases b;exact a _ _ _ _ h W H d _ G R fun i j l m=>k i j l m
def aBa(a:SE K ta f):STt K (tB ta) (gB f):=by
 intro γ M x M' b W H d Q G R k;obtain⟨⟨y,M1⟩,h,b⟩:=aI b;obtain⟨c,i,b⟩:=aI b;refine a _ _ _ _ h W H d _ G R fun v j l m n o=>?_;have p:=KM i;subst p;cases b;exact⟨_,o,k j l m n⟩
def aFy(a:SE K ta f):STt K (aIq ta) (gB f):=aBa a
def aIY:SA K ZJ aO:=by
 intro γ M x M' a W H b Q G R k;cases a;exact k [] W H (.refl _) G .nil
def aGj(a:SE K ta f)(b:SA K tA fa):SA K (tS ta tA) (aC f fa):=by
 intro γ M x M' c W H d Q G R k;obtain⟨⟨y,M1⟩,j,c⟩:=aI c;obtain⟨⟨t,M2⟩,l,c⟩:=aI c;cases c;refine a _ _ _ _ j W H d _ G R fun v m n h o p=>?_;exact b _ _ _ _ l m n d _ o (R.up h) fun vs q r i G2 s=>k _ q r (h.trans i) G2 (.cons (p.up i) s)
def aKI(b:SA K tA fa):SE K (aGm tA) (bI fa):=by
 intro γ M x M' a W H i Q G R k;obtain⟨⟨r,M1⟩,j,a⟩:=aI a;obtain⟨ds,l,a⟩:=aI a;by_cases c:ds.length<=sizeLine
 .rw[A7 c]at a;cases a;refine b _ _ _ _ j W H i _ G R fun vs s t m n o=>?_;have d:=fG l o;refine⟨by rw[<- d.length];exact c,fun p q=>?_⟩;obtain⟨h,G2⟩:=n.lay q;exact k _ _ _ (m.trans h) G2 ⟨p,vs,rfl,SqT.of aT,aM.same h.ff _ _ d⟩
 .rw[B7 c]at a;cases a
def aIU(b:SA K tA fa):SE K (aJj tA) (dW fa):=by
 intro γ M x M' a W H i Q G R k;obtain⟨⟨r,M1⟩,j,a⟩:=aI a;obtain⟨ds,l,a⟩:=aI a;by_cases c:ds.length<=sizeLine
 .rw[A7 c]at a;cases a;refine b _ _ _ _ j W H i _ G R fun vs s t m n o=>?_;have d:=fG l o;refine⟨by rw[<- d.length];exact c,fun p q=>?_⟩;obtain⟨h,G2⟩:=n.lay q;exact k _ _ _ (m.trans h) G2 ⟨p,vs,rfl,SqL.of aT,aM.same h.ff _ _ d⟩
 .rw[B7 c]at a;cases a
def Good.newV(g:Good K W M H):bW K (W.more p) (.c M.length) (.ref p):=by
 refine⟨?_,?_⟩
 .show M.length<W.n+1;rw[g.n];exact S6 _
 .show V.ref p=.ref (if M.length=W.n then p else W.α M.length);rw[A7 g.n.symm]
def aMi(b:SA K tA fa):SE K (aJj tA) (mH fa):=by
 intro γ M x M' a W H i Q G R k;obtain⟨⟨j,M1⟩,l,a⟩:=aI a;by_cases c:j.length<=sizeLine
 .have a:=a;rw[A7 c]at a;cases a;refine b _ _ _ _ l W H i _ G R fun vs m q n d h=>?_;refine⟨by rw[<- Paired.len h];exact c,fun p o=>?_⟩;exact k _ _ _ (n.trans<|m.ext_more p) (d.new o h) d.newV
 .have a:=a;rw[B7 c]at a;cases a
def aGL{h:FN}(b:SA K tA fa):SE K (aBD (spM K h) [] E0 tA) (aP h fa):=by
 intro γ M x M' a W H c Q G R k;obtain⟨⟨d,M1⟩,i,a⟩:=aI a;refine b _ _ _ _ i W H c _ G R fun vs j s l m n=>?_;rw[L6];exact⟨d,M1,j,x,M',m,n,a,fun v o p q G2 r=>k v o p (l.trans q) G2 r⟩
def aIw{r:Tf->Hp->VK->Prop}{h:FN}(p:PN K r h)(b:SA K tA fa):SE K (tCB r tA) (aP h fa):=by
 intro γ M x M' a W H c Q G R k;obtain⟨⟨u,M1⟩,d,a⟩:=aI a;refine b _ _ _ _ d W H c _ G R fun vs i j l m n=>?_;exact p _ _ _ _ a i j vs Q m n fun v o q s G2 t=>k v o q (l.trans s) G2 t
end
section
variable{K:Fg}{ta tb tc:TE}{f g e:EF}{tt uu:TT}{ft gt:TF}{tA:TA}{fa:AF}{t u:TS}{p q:SF}{tg:TG}{hg:GF}{tgs:TGs}{hgs:GsF}
def aEM:SS K aIm cS:=by
 intro γ M o M' a W H b D G R k;cases a;exact k W H (.refl _) G b R
def aLM(a:SS K t p)(b:SS K u q):SS K (aJH t u) (aY p q):=by
 intro γ M o M' c W H n D G R k;obtain⟨⟨r,M1⟩,s,c⟩:=aI c;refine a _ _ _ _ s W H n _ G R fun h i j l=>?_;cases r with
 |nx d=>
  intro m v;exact b _ _ _ _ c h i m D l v fun w y z G2=>k w y (j.trans z) G2
 |bk d=>cases c;exact k h i j l
 |ct d=>cases c;exact k h i j l
 |rt x=>cases c;exact k h i j l
def aFa(a:SE K ta f):SS K (aCP ta) (eA f):=by
 intro γ M o M' b W H c D G R k;obtain⟨⟨y,M1⟩,h,b⟩:=aI b;cases b;exact a _ _ _ _ h W H c _ G R fun v i j d l m=>k i j d l c<|R.up d
def aIW(a:SE K ta f):SS K (aNP ta) (cQ f):=by
 intro γ M o M' b W H c D G R k;obtain⟨⟨y,M1⟩,d,b⟩:=aI b;cases b;exact a _ _ _ _ d W H c _ G R fun v h i j l m=>k h i j l v m
def aNe(c:STt K tt ft)(a:SS K t p)(b:SS K u q):SS K (aMs tt t u) (sIf ft p q):=by
 intro γ M o M' d W H i D G R k;obtain⟨⟨w,M1⟩,x,d⟩:=aI d;refine c _ _ _ _ x W H i _ G R fun r s h v=>?_;cases w with
 |true=>rw[A7 rfl];rw[A7 rfl]at d;exact a _ _ _ _ d r s i D v (R.up h) fun j l m n=>k j l (h.trans m) n
 |false=>rw[B7 C6];rw[B7 C6]at d;exact b _ _ _ _ d r s i D v (R.up h) fun j l m n=>k j l (h.trans m) n
def KZ(a:SE K ta f)(b:SG K tg hg):SS K (aBw ta tg) (aW f hg):=by
 intro γ M o M' c W H h D G R k;obtain⟨⟨y,M1⟩,j,c⟩:=aI c;obtain⟨⟨l,M2⟩,m,c⟩:=aI c;cases c;refine a _ _ _ _ j W H h _ G R fun v n r i s w=>?_;exact b _ _ _ _ _ m n r h v _ s (R.up i) w fun d x z A G2 R2=>k x z (i.trans A) G2 d R2
def cF.set{a:St}{x:CD}{v:V}(R:cF K W γ a)(i:Nat)(r:bW K W x v):cF K W (γ.set i<|Z x) (a.set i<|Z v):=Paired.set (show SM K W (Z x) (Z v)from r) i R
def AK:SG K (NB i) (hName i):=by
 intro x γ M a M' b W H c v Q G R r k;cases b;exact k _ W H (.refl _) G<|cF.set R i r
def aGH:SGs K aNs pH:=by
 intro xs γ M b M' a W H c vs Q G R r k;cases r with
 |nil=>cases a;exact⟨rfl,k c W H (.refl _) G R⟩
 |cons _ _=>cases a
def aBK(a:SG K tg hg)(b:SGs K tgs hgs):SGs K (aIr tg tgs) (cG hg hgs):=by
 intro xs γ M j M' c W H l vs Q G R r k;cases r with
 |nil=>cases c
 |@cons x v xs vs m n=>
  obtain⟨⟨o,M1⟩,s,c⟩:=aI c;refine⟨v,vs,rfl,a _ _ _ _ _ s W H l v _ G R m fun d w y i z A=>?_⟩;exact b _ _ _ _ _ c w y d vs _ z A (bR.up n i) fun h B C D G2 R2=>k h B C (i.trans D) G2 R2
def aJT{n:Nat}(b:SGs K tgs hgs):SG K (aLz K n tgs) (gU n hgs):=by
 intro x γ M j M' h W H o v Q G R r k;cases x with
 |c _=>cases h
 |f _=>cases h
 |g _=>cases h
 |t xs=>
  have h:(if xs.length=n then hgs (xs.map cdA) γ M else Y)=Z (j,M'):=h;by_cases i:xs.length=n
  .rw[A7 i]at h;obtain⟨a,vs,rfl,m,l⟩:=r;have s:=WS l;exact⟨a,vs,rfl,SqT.of<|G.fh _ _ m,by rw[<- i];simpa using(Paired.len l).symm,b _ _ _ _ _ h W H o vs Q G R s k⟩
  .rw[B7 i]at h;cases h
 |d x=>
  cases x with
  |tuple ds=>
   have h:(if ds.length=n then hgs (ds.map .d) γ M else Y)=Z (j,M'):=h;by_cases i:ds.length=n
   .rw[A7 i]at h;obtain⟨a,vs,rfl,m,l⟩:=r;exact⟨a,vs,rfl,G.fh.seqT m,by rw[<- l.length];exact i,b _ _ _ _ _ h W H o vs Q G R (eV l) k⟩
   .rw[B7 i]at h;cases h
  |_=>cases h
def P3(K:Fg)(r:V->V->V->Hp->(Hp->Prop)->Prop)(f:F3):Prop:=∀x y z M M',f x y z M=Z M'->∀(W:Wd)(H:Hp)(v u w:V)(Q:Hp->Prop),Good K W M H->bW K W x v->bW K W y u->bW K W z w->(∀W' H',W.Ext W'->Good K W' M' H'->Q H')->r v u w H Q
def aKZ{r:aGJ}{s:F3}(p:P3 K r s)(a:SE K ta f)(b:SE K tb g):SG K (aOD ta tb r) (hSub f g s):=by
 intro x γ M m M' c W H j v Q G R n k;obtain⟨⟨o,M1⟩,w,c⟩:=aI c;obtain⟨⟨i,M2⟩,y,c⟩:=aI c;obtain⟨T,z,c⟩:=aI c;cases c;refine a _ _ _ _ w W H j _ G R fun A B C d D E=>?_;refine b _ _ _ _ y B C j _ D (R.up d) fun I J L h G2 N=>?_;exact p _ _ _ _ _ z J L A I v _ G2 (E.up h) N (n.up<|d.trans h) fun O P l S=>k j O P ((d.trans h).trans l) S<|R.up<|(d.trans h).trans l
def aJI(b:SA K tA fa):SS K (aNh i j tA) (QG i j fa):=by
 intro γ M o M' a W H d D G R k;obtain⟨⟨w,M1⟩,h,a⟩:=aI a;refine b _ _ _ _ h W H d _ G R fun vs l m c n r=>?_;rcases r with _|⟨s,_|⟨v,_|_⟩⟩
 .cases a
 .cases a
 .cases a;exact⟨_,_,rfl,k l m c n _<|cF.set (cF.set (R.up c) i s) j v⟩
 .cases a
def RK(K:Fg)(J:It)(xs:T8)(W:Wd):Prop:=∀W' M' H',W.Ext W'->Good K W' M' H'->
 (∀i x,xs[i]?=Z x->J.go i H'/\∀y b,J.yld i H' y b->∃a,W'.Ext a/\Good K a M' b/\bW K a x y)/\J.stop xs.length H'
def SI(K:Fg)(b:TI)(f:AF):Prop:=∀γ M xs M',f γ M=Z (xs,M')->∀(W:Wd)(H:Hp)(a:St)(R:It->Hp->Prop),Good K W M H->cF K W γ a->(∀J W' H',W.Ext W'->Good K W' M' H'->RK K J xs W'->R J H')->b a H R
def cA(f:EF):AF:=fun γ M=>(f γ M).bind fun r=>match r.1 with
 |.d x=>(bC x).bind fun ds=>Z (ds.map .d,r.2)
 |_=>Y
def aJV(a:SE K ta f):SI K (aJb K ta) (cA f):=by
 intro γ M xs M' h W H E R G Rs k;obtain⟨⟨y,M1⟩,I,h⟩:=aI h;cases y with
 |c _=>cases h
 |t _=>cases h
 |f _=>cases h
 |g _=>cases h
 |d y=>
  obtain⟨ds,J,h⟩:=aI h;cases h;refine a _ _ _ _ I W H E _ G Rs fun v z B C w L=>?_;obtain⟨p,vs,rfl,hs,D⟩:=pG L J;refine⟨p,rfl,?_⟩
  have item:∀(i:Nat)(x:CD)(j:Wd),z.Ext j->(ds.map CD.d)[i]?=Z x->∃u,vs[i]?=Z u/\bW K j x u:=fun i x j m o=>by
   obtain⟨u,n,r⟩:=Paired.get (eV D) o;exact⟨u,n,r.up m⟩
  have l:(ds.map CD.d).length=vs.length:=by rw[A4];exact D.length
  rcases hs with hs|hs
  .refine .inl ⟨vs,w.fh.seq hs,k _ z B C w fun j M2 N m G2=>?_⟩;have b:=G2.fh.seq<|m.ff.seq hs;refine⟨fun i x o=>?_,?_⟩
   .obtain⟨u,n,r⟩:=item i x j m o;refine⟨⟨vs,u,b,n⟩,fun O A s=>⟨j,.refl _,by rw[s.1];exact G2,?_⟩⟩;have:=s.2 vs b;rw[n]at this;cases this;exact r
   .rw[l];exact⟨vs,b,A8 _⟩
  .refine .inr ⟨vs,w.fh.seqT hs,k _ z B C w fun j M2 N m G2=>?_⟩;have b:=G2.fh.seqT<|m.ff.seqT hs;refine⟨fun i x o=>?_,?_⟩
   .obtain⟨u,n,r⟩:=item i x j m o;refine⟨⟨vs,u,b,n⟩,fun O A s=>⟨j,.refl _,by rw[s.1];exact G2,?_⟩⟩;have:=s.2 vs b;rw[n]at this;cases this;exact r
   .rw[l];exact⟨vs,b,A8 _⟩
def jV(lo:Int)(n:Nat):T8:=(List.range n).map fun i=>.d (.int (lo+(i:Nat)))
def OA{lo:Int}{i:Nat}{x:CD}(h:(jV lo n)[i]?=Z x):i<n/\x=.d (.int (lo+i)):=by
 unfold jV at h;rw[D6]at h;by_cases hi:i<n
 .rw[A2a hi]at h;exact⟨hi,(F0 h).symm⟩
 .rw[U0.mpr 54]at h;cases h
def eM(i:Int):Bool:=decide (-(2 ^ 62)<=i)&&decide (i<2 ^ 62)
def fH(f:AF):AF:=fun γ M=>(f γ M).bind fun r=>match r.1 with
 |[.d (.int j)]=>if eM j=true then Z (jV 0 j.toNat,r.2)else Y
 |_=>Y
def yX(f:AF):AF:=fun γ M=>(f γ M).bind fun r=>match r.1 with
 |[.d (.int i),.d (.int j)]=>if eM i=true/\eM j=true then Z (jV i (j-i).toNat,r.2)else Y
 |_=>Y
def GX{lo:Int}:RK K (Itr lo n) (jV lo n) W:=fun W' M' H' e G=>
 ⟨fun i x a=>⟨(OA a).1,fun y c b=>⟨W',.refl _,by rw[b.1];exact G,by rw[(OA a).2];exact b.2⟩⟩,by show n<=_;simp[jV]⟩
def gY(h:eM i=true):-(2 ^ 62)<=i/\i<2 ^ 62:=by
 unfold eM at h;rw[B4]at h;exact⟨D7 h.1,D7 h.2⟩
def aFd(b:SA K tA fa):SI K (aIa tA) (fH fa):=by
 intro γ M xs M' a W H c R G Rs k;obtain⟨⟨s,M1⟩,d,a⟩:=aI a;refine b _ _ _ _ d W H c _ G Rs fun vs h i l m n=>?_;revert a;dsimp only;split
 .rename_i j;intro a;by_cases hs:eM j=true
  .rw[A7 hs]at a;cases a;cases n with
   |cons r o=>
    cases o;exact⟨j,by rw[show _=V.int j from r],(gY hs).1,(gY hs).2,k _ h i l m GX⟩
  .rw[B7 hs]at a;cases a
 .intro a;cases a
def aHq(b:SA K tA fa):SI K (aIp tA) (yX fa):=by
 intro γ M xs M' a W H d R G Rs k;obtain⟨⟨x,M1⟩,h,a⟩:=aI a;refine b _ _ _ _ h W H d _ G Rs fun vs l m n o s=>?_;revert a;dsimp only;split
 .rename_i i j;intro a;by_cases hs:eM i=true/\eM j=true
  .rw[A7 hs]at a;cases a;cases s with
   |cons r v=>
    cases v with
    |cons w c=>
     cases c;exact⟨i,j,by rw[show _=V.int i from r,show _=V.int j from w],⟨(gY hs.1).1,(gY hs.1).2,(gY hs.2).1,(gY hs.2).2⟩,k _ l m n o GX⟩
  .rw[B7 hs]at a;cases a
 .intro a;cases a
def aMt{U:TI}(i:SI K U fa)(a:SG K tg hg)(b:SS K t p):SS K (aOu U tg t) (nM fa hg p):=by
 intro γ M o M' N W H σ D G R k;obtain⟨⟨xs,M1⟩,h1,N⟩:=aI N;refine i _ _ _ _ h1 W H σ _ G R fun J V H1 B G1 gv=>?_;refine⟨fun j m d H'=>∃r M2 s,j<=xs.length/\m=xs.length-j/\V.Ext s/\Good K s M2 H'/\cF K s r d/\jW hg p (xs.drop j) r M2=Z (o,M'),⟨_,γ,M1,V,F9 _,rfl,.refl _,G1,R.up B,N⟩,?_⟩;rintro j m d H' ⟨r,M2,s,hj,rfl,w,G2,R2,c⟩;obtain⟨O,P⟩:=gv s M2 H' w G2;by_cases v:j<xs.length
 .obtain⟨go,yl⟩:=O j xs[j]<|C0 v;rw[A0e v]at c;refine .inr ⟨go,fun z C=>∃h E A,s.Ext A/\Good K A E C/\cF K A h z/\jW hg p (xs.drop (j+1)) h E=Z (o,M'),?_,fun y C hy=>?_⟩
  .rintro z C ⟨h,E,A,e3,G3,R3,h3⟩;exact⟨_,50,h,E,A,v,rfl,w.trans e3,G3,R3,h3⟩
  .obtain⟨W8,X,G8,ry⟩:=yl y C hy;obtain⟨⟨a0,M4⟩,h4,c⟩:=aI c;obtain⟨⟨o5,M5⟩,h5,c⟩:=aI c;refine a _ _ _ _ _ h4 W8 _ d y _ G8 (R2.up X) ry fun Q W4 H4 e4 G4 R4=>?_;refine b _ _ _ _ h5 W4 H4 Q _ G4 R4 fun I H5 e5 L=>?_;have l:=(X.trans e4).trans e5;cases o5 with
   |nx n=>exact fun S T=>⟨n,M5,I,l,L,T,c⟩
   |ct n=>exact fun S T=>⟨n,M5,I,l,L,T,c⟩
   |bk n=>cases c;exact k I H5 ((B.trans w).trans l) L
   |rt x=>cases c;exact k I H5 ((B.trans w).trans l) L
 .have e:j=xs.length:=50
  subst e;rw[A1r]at c;cases c;exact .inl ⟨P,k s H' (B.trans w) G2 d R2⟩
def aCM(c:STt K tt ft)(b:SS K t p):SS K (aBH tt t) (pJ ft p):=by
 intro γ M o M' v W H σ D G R k;unfold pJ at v;by_cases l:∃n,(dO ft p n γ M).isSome=true
 .rw[dif_pos l]at v;generalize l.choose=n at v;refine⟨fun m a H'=>∃r M2 w,W.Ext w/\Good K w M2 H'/\cF K w r a/\dO ft p m r M2=Z (o,M'),⟨n,γ,M,W,.refl _,G,R,v⟩,?_⟩;rintro m a H' ⟨r,M2,w,A,G2,R2,d⟩;cases m with
  |zero=>cases d
  |succ m=>
   obtain⟨⟨T,M3⟩,U,d⟩:=aI d;refine c _ _ _ _ U w H' a _ G2 R2 fun N O B P=>?_;cases T with
   |true=>
    obtain⟨⟨V,s⟩,I,d⟩:=aI d;refine⟨fun y Q=>∃h s z,w.Ext z/\Good K z s Q/\cF K z h y/\dO ft p m h s=Z (o,M'),?_,?_⟩
    .rintro y Q ⟨h,s,z,X,G4,R4,I⟩;exact⟨m,S6 _,h,s,z,A.trans X,G4,R4,I⟩
    .refine b _ _ _ _ I N O a _ P (R2.up B) fun C S e5 E=>?_;have i:=B.trans e5;cases V with
     |nx j=>exact fun J L=>⟨j,s,C,i,E,L,d⟩
     |ct j=>exact fun J L=>⟨j,s,C,i,E,L,d⟩
     |bk j=>cases d;exact k C S (A.trans i) E
     |rt x=>cases d;exact k C S (A.trans i) E
   |false=>
    cases d;exact k N O (A.trans B) P a<|R2.up B
 .rw[dif_neg l]at v;cases v
theorem lZ:∀{n m:Nat}{γ:Ga}{M:Sto}{r:Out×Sto},dO c b n γ M=Z r->n<=m->dO c b m γ M=Z r
 |0,_,_,_,_=>fun h _=>by cases h
 |n+1,0,_,_,_=>fun _ h=>50
 |n+1,m+1,γ,M,r=>fun h k=>by
  obtain⟨⟨d,M1⟩,i,h⟩:=aI h;show(c γ M).bind _=_;rw[i];show(if d=true then _ else _)=_;cases d with
  |false=>exact h
  |true=>
   obtain⟨⟨o,M2⟩,j,h⟩:=aI h;rw[j];cases o with
   |nx a=>exact lZ h 50
   |ct a=>exact lZ h 50
   |bk a=>exact h
   |rt x=>exact h
def qR{r:Out×Sto}(h:dO c b n γ M=Z r):pJ c b γ M=Z r:=by
 unfold pJ;have a:∃n,(dO c b n γ M).isSome=true:=⟨n,by rw[h];rfl⟩;rw[dif_pos a];have hs:=a.choose_spec;cases q:dO c b a.choose γ M with
 |none=>rw[q]at hs;cases hs
 |some d=>
  rcases Nat.le_total n a.choose with z|z
  .rw[lZ h z]at q;exact q.symm▸rfl
  .rw[lZ q z]at h;exact h
theorem DS{W:Wd}{γ:Ga}{a:St}(R:cF K W γ a):∀cap:T4,cF K W (tI cap γ) (uU cap a)
 |[]=>.nil
 |none::r=>.cons True.intro (DS R r)
 |some j::r=>by
  refine .cons ?_ (DS R r);show SM K W ((γ[j]?).join) ((a[j]?).join);cases e:γ[j]? with
  |none=>
   have:a[j]?=Y:=by
    have d:=Paired.len R;exact U0.mpr 54
   rw[this];exact True.intro
  |some x=>
   obtain⟨y,b,c⟩:=Paired.get R e;rw[b];exact c
theorem LF{g:GF}{c:TF}{e:EF}:∀{xs:T8}{γ:Ga}{M:Sto}{ys:T8}{M':Sto},lcF g c e xs γ M=Z (ys,M')->ys.length<=xs.length
 |[],_,_,_,_=>fun h=>by cases h;exact F9 _
 |x::xs,γ,M,ys,M'=>fun h=>by
  obtain⟨⟨a,M1⟩,i,h⟩:=aI h;obtain⟨⟨b,M2⟩,j,h⟩:=aI h;cases b with
  |true=>
   obtain⟨⟨y,k⟩,l,h⟩:=aI h;obtain⟨⟨m,n⟩,d,h⟩:=aI h;cases h;have:=LF d;simp only[D3];omega
  |false=>
   have:=LF h;simp only[D3];omega
def aEo{wi:TI}{cap:T4}{te:TE}{O:EF}(i:SI K wi fa)(a:SG K tg hg)(c:STt K tt ft)(b:SE K te O){xs:T8}(D:yU cap fa hg ft O γ M=Z (xs,M'))
 {W:Wd} {H:Hp} {X:St} {Q:VK} (G:Good K W M H) (R:cF K W γ X) (k:∀vs W' H',W.Ext W'->Good K W' M' H'->bR K W' xs vs->∀p,H' p=Y->Q (.ref p) (upd H' p (.lst vs))):tLc cap wi tg tt te X H Q:=by
 obtain⟨⟨w,M1⟩,h1,D⟩:=aI D;by_cases hl:w.length<=sizeLine
 .rw[A7 hl]at D;refine i _ _ _ _ h1 W H X _ G R fun J W1 H1 e1 G1 gv=>?_
  refine⟨fun j m acc A H'=>∃B M2 x pre o,j<=w.length/\m=w.length-j/\acc.length<=j/\W1.Ext x/\Good K x M2 H'/\cF K x B A/\bR K x pre acc/\pre++o=xs/\lcF hg ft O (w.drop j) B M2=Z (o,M'),
   ⟨_,tI cap γ,M1,W1,[],xs,F9 _,rfl,F9 _,.refl _,G1,DS (R.up e1) cap,.nil,rfl,D⟩,?_⟩
  rintro j m acc A H' ⟨B,M2,x,pre,o,hj,rfl,a5,e2,G2,R2,rp,P,l⟩;obtain⟨a0,a1⟩:=gv x M2 H' e2 G2;by_cases C:j<w.length
  .obtain⟨go,yl⟩:=a0 j w[j]<|C0 C;rw[A0e C]at l;refine .inr ⟨go,50,fun n I S=>∃r T E d h,n.length<=j+1/\x.Ext E/\Good K E T S/\cF K E r I/\bR K E d n/\d++h=xs/\lcF hg ft O (w.drop (j+1)) r T=Z (h,M'),?_,fun y S hy=>?_⟩
   .rintro n I S ⟨r,T,E,d,h,a2,e3,G3,R3,a3,a4,h3⟩;exact⟨_,50,r,T,E,d,h,C,rfl,a2,e2.trans e3,G3,R3,a3,a4,h3⟩
   .obtain⟨W8,e8,G8,ry⟩:=yl y S hy;obtain⟨⟨L,M4⟩,h4,l⟩:=aI l;obtain⟨⟨b5,M5⟩,h5,l⟩:=aI l;refine a _ _ _ _ _ h4 W8 _ A y _ G8 (R2.up e8) ry fun N W4 H4 e4 G4 U=>?_;refine c _ _ _ _ h5 W4 H4 N _ G4 U fun W5 H5 V G5=>?_;have s:=(e8.trans e4).trans V;cases b5 with
    |true=>
     obtain⟨⟨z,M6⟩,h6,l⟩:=aI l;obtain⟨⟨zs,M7⟩,h7,l⟩:=aI l;cases l;refine .inl ⟨rfl,b _ _ _ _ h6 W5 H5 N _ G5 (U.up V) fun v W6 H6 e6 G6 r6=>?_⟩;refine⟨L,M6,W6,pre++[z],zs,by rw[C1];simp only[D8];omega,s.trans e6,G6,U.up<|V.trans e6,Paired.app (bR.up rp<|s.trans e6) (.cons r6 .nil),by rw[<- P,Y4];rfl,h7⟩
    |false=>
     exact .inr ⟨rfl,L,M5,W5,pre,o,50,s,G5,U.up V,bR.up rp s,P,l⟩
  .have e:j=w.length:=50
   subst e;rw[A1r]at l;cases l;rw[L6]at P;subst P;exact .inl ⟨a1,k acc x H' (e1.trans e2) G2 rp⟩
 .rw[B7 hl]at D;cases D
def ZP{cap:T4}{fa:AF}{hg:GF}{ft:TF}{c:EF}{xs:T8}(a:yU cap fa hg ft c γ M=Z (xs,M')):xs.length<=sizeLine:=by
 obtain⟨⟨d,M1⟩,h,a⟩:=aI a;by_cases b:d.length<=sizeLine
 .rw[A7 b]at a;exact E6 (LF a) b
 .rw[B7 b]at a;cases a
def aMH{h:TI}{cap:T4}{j:TE}{l:EF}(i:SI K h fa)(a:SG K tg hg)(c:STt K tt ft)(b:SE K j l):SE K (tLc cap h tg tt j) (fLc cap fa hg ft l):=by
 intro γ M x M' d W H z Q G R k;obtain⟨⟨A,M1⟩,o,d⟩:=aI d;obtain⟨ds,r,d⟩:=aI d;by_cases m:ds.length<=sizeLine
 .rw[A7 m]at d;cases d;refine aEo i a c b o G R fun vs B C s v w p y=>?_;obtain⟨n,G2⟩:=v.lay y;exact k _ _ _ (s.trans n) G2 ⟨p,vs,rfl,SqL.of aT,aM.same n.ff _ _<|fG r w⟩
 .rw[B7 m]at d;cases d
def aLy{h:TI}{cap:T4}{j:TE}{l:EF}(i:SI K h fa)(a:SG K tg hg)(c:STt K tt ft)(b:SE K j l):SE K (tLc cap h tg tt j) (JC cap fa hg ft l):=by
 intro γ M x M' d W H w Q G R k;obtain⟨⟨y,M1⟩,m,d⟩:=aI d;rw[A7 (ZP m)]at d;cases d;refine aEo i a c b m G R fun vs o z r n s p v=>?_;exact k _ _ _ (r.trans<|o.ext_more p) (n.new v s) n.newV
def aLi:STt K aNj dP:=by
 intro γ M x M' a W H b Q G R k;cases a;exact k W H (.refl _) G
theorem bR.some{W:Wd}:∀{xs:T8}{vs:Tf},bR K W xs vs->cF K W (xs.map Z) (vs.map Z)
 |_,_,.nil=>.nil
 |_,_,.cons r t=>.cons r (bR.some t)
theorem sG{W:Wd}:∀n:Nat,cF K W (List.replicate n Y) (List.replicate n Y)
 |0=>.nil
 |n+1=>.cons True.intro (sG n)
def Def.okM{P:Uh}{w:World}{mg:Str->Ti}{base:Heap}{x:Str}{st:Stmt}{N ps:Te}{k:Nat}{b:SF}{q:Bool}(D:Def K mg x st)(S:aU N ps (aH st))
 (n:∀(kV doc pm:Uc)(an:Tk)(cdv ct:Uc)(us:T6),us.length=ps.length->bindArgs (PySem.W.fnOf x x (dH st) (bP st) (aH st) .none kV doc pm an cdv ct) ⟨us,[]⟩=pure (ps.zip us))
 (c:∀(f:Uf)(cdv:Uc)(A:Ui)(outer:Ua Env)(s:Ue)(H:Hp)(E:XK),cE k (A.deeper<|envOfC x (aH st) s.heap.objs.size f cdv) q->
  ∃t,PSs (lM CX0 P w K mg base N x (aH st) f cdv A outer s H E q).nox (bP st) t/\SS K t b):Callee P w K mg base (k+1) x ps (spM K (fnF ps.length N.length b)) q:=by
 have len:∀vs H Q E,spM K (fnF ps.length N.length b) vs H Q E->vs.length=ps.length:=fun vs H Q E h=>by
  obtain⟨xs,M,W,y,M',G,R,a,_⟩:=h;by_cases d:xs.length=ps.length
  .rw[<- Paired.len R];exact d
  .unfold fnF at a;rw[B7 d]at a;cases a
 refine D.ok S n len fun f cdv A outer s H vs Q E z h=>?_;obtain⟨t,B,hS⟩:=c f cdv A outer s H E z;refine⟨t,B,?_⟩;obtain⟨xs,M,W,y,M',G,R,a,k⟩:=h;by_cases d:xs.length=ps.length
 .unfold fnF at a;rw[A7 d]at a;obtain⟨⟨o,M1⟩,C,a⟩:=aI a
  have I:cF K W (xs.map Z++List.replicate (N.length-xs.length) Y) (start N vs):=by
   unfold start;rw[<- Paired.len R];exact Paired.app (bR.some R)<|sG _
  refine hS _ _ _ _ C W H _ _ G I fun i j l m=>?_;cases o with
  |rt x=>cases a;exact fun v r=>k v i j l m r
  |nx γ=>cases a;exact fun J r=>k .non i j l m rfl
  |bk γ=>cases a
  |ct γ=>cases a
 .unfold fnF at a;rw[B7 d]at a;cases a
end
structure B2(X:Cx)(o:Tt)(h:F2):Prop where
 ex:∃r,OpR X o r/\P2 X.K r h
def CH(h h':F2):F2:=fun x y M=>match h x y M with
 |some r=>Z r
 |none=>h' x y M
def pI(g:Int->Int->Ub Ud):F2:=fun x y M=>match x,y with
 |.d (.int i),.d (.int j)=>(g i j).bind fun z=>Z (.d z,M)
 |_,_=>Y
def aCa{g:Int->Int->Ub Ud}{x y:CD}{z:CD}(h:pI g x y M=Z (z,M')):∃i j w,x=.d (.int i)/\y=.d (.int j)/\g i j=Z w/\z=.d w/\M'=M:=by
 unfold pI at h;split at h
 .rename_i i j;obtain⟨w,a,h⟩:=aI h;cases h;exact⟨i,j,w,rfl,rfl,a,rfl,rfl⟩
 .cases h
section
variable{X:Cx}{K:Fg}
def aIL{g:Int->Int->Int}:P2 K (rI0 fun i j=>.int (g i j)) (pI fun i j=>Z (.int (g i j))):=by
 intro x y M z M' h W H v u Q G a b k;obtain⟨i,j,w,rfl,rfl,c,rfl,rfl⟩:=aCa h;cases c;exact⟨i,j,a,b,k _ W H (.refl _) G rfl⟩
def XM{g:Int->Int->Bool}:P2 K (rI0 fun i j=>.bl (g i j)) (pI fun i j=>Z (.bool (g i j))):=by
 intro x y M z M' h W H v u Q G a b k;obtain⟨i,j,w,rfl,rfl,c,rfl,rfl⟩:=aCa h;cases c;exact⟨i,j,a,b,k _ W H (.refl _) G rfl⟩
def ifS(c:Bool)(x:Ud):Ub Ud:=if c=true then Z x else Y
def aMw{y:Ud}(h:ifS c x=Z y):c=true/\y=x:=by
 unfold ifS at h;cases c with
 |true=>rw[A7 rfl]at h;cases h;exact⟨rfl,rfl⟩
 |false=>rw[B7 C6]at h;cases h
def aGp{C:Int->Int->Prop}{c:Int->Int->Bool}{g:Int->Int->Int}(a:∀i j,c i j=true->C i j):P2 K (rI C fun i j=>.int (g i j)) (pI fun i j=>ifS (c i j) (.int (g i j))):=by
 intro x y M z M' h W H v u Q G b d k;obtain⟨i,j,w,rfl,rfl,e,rfl,rfl⟩:=aCa h;obtain⟨f,rfl⟩:=aMw e;exact⟨i,j,b,d,a i j f,k _ W H (.refl _) G rfl⟩
def aHn:F2:=pI fun i j=>Z (.int (i+j))
def KR:F2:=pI fun i j=>Z (.int (i-j))
def pR(i j:Int):Bool:=decide (i.natAbs<2 ^ 64) || decide (j.natAbs<2 ^ 64) || (decide (i.natAbs<zF)&&decide (j.natAbs<zF))
def IZ:F2:=pI fun i j=>ifS (pR i j) (.int (i*j))
def yV(_ j:Int):Bool:=decide (0<j)&&decide (j.natAbs<zF)
def iV:F2:=pI fun i j=>ifS (yV i j) (.int (i / j))
def lC(_ j:Int):Bool:=decide (0<j)
def dC:F2:=pI fun i j=>ifS (lC i j) (.int (i % j))
def aIK(i j:Int):Bool:=decide (0<=j)&&decide (j<=1000000)&&decide (i.natAbs<2 ^ 64)
def ZA:F2:=pI fun i j=>ifS (aIK i j) (.int (i ^ j.toNat))
def mulOk_of(h:pR i j=true):PU i j:=by
 unfold pR at h;simp only[A1y,B4,U7]at h;rcases h with(h|h)|h
 .exact .inl (.inl ⟨50,50⟩)
 .exact .inl (.inr ⟨50,50⟩)
 .exact .inr h
def ltI:F2:=pI fun i j=>Z (.bool (decide (i<j)))
def leI:F2:=pI fun i j=>Z (.bool (decide (i<=j)))
def gtI:F2:=pI fun i j=>Z (.bool (decide (j<i)))
def geI:F2:=pI fun i j=>Z (.bool (decide (j<=i)))
def eqD(neg:Bool):F2:=fun x y M=>match x,y with
 |.d a,.d b=>if (SeqAt.shaped a&&SeqAt.shaped b)=true then Z (.d (.bool (if neg then !PyData.eqv a b else PyData.eqv a b)),M)else Y
 |_,_=>Y
def aIj:P2 K (ZW K neg) (eqD neg):=by
 intro x y M z M' h W H v u Q G c d k;unfold eqD at h;split at h
 .rename_i a b;by_cases hs:(SeqAt.shaped a&&SeqAt.shaped b)=true
  .rw[A7 hs]at h;cases h;rw[B4]at hs;exact⟨a,b,Rep.same G.fh _ _ c,Rep.same G.fh _ _ d,hs.1,hs.2,k _ W H (.refl _) G rfl⟩
  .rw[B7 hs]at h;cases h
 .cases h
def inD(neg:Bool):F2:=fun x y M=>match x,y with
 |.d a,.d b=>(bC b).bind fun ds=>if (SeqAt.shaped a&&ds.all SeqAt.shaped)=true then Z (.d (.bool (if neg then !ds.any fun d=>PyData.eqv d a else ds.any fun d=>PyData.eqv d a)),M)else Y
 |_,_=>Y
def aMN{neg:Bool}:P2 K (aLL K neg) (inD neg):=by
 intro x y M z M' h W H v u Q G c d k;unfold inD at h;split at h
 .rename_i a b;obtain⟨ds,e,h⟩:=aI h;by_cases hs:(SeqAt.shaped a&&ds.all SeqAt.shaped)=true
  .rw[A7 hs]at h;cases h;rw[B4]at hs;obtain⟨p,vs,rfl,f,g⟩:=pG (Rep.same G.fh _ _ d) e;exact⟨a,ds,p,vs,Rep.same G.fh _ _ c,rfl,f,g,hs.1,hs.2,k _ W H (.refl _) G rfl⟩
  .rw[B7 hs]at h;cases h
 .cases h
def aM.nth{i:Nat}{d:Ud}(h:aM K H ds vs)(e:ds[i]?=Z d):∃v,vs[i]?=Z v/\Rep K H d v:=by
 have b:i<vs.length:=by rw[<- h.length];exact(B3.mp e).1
 have c:=C0 b;obtain⟨f,a,r⟩:=h.get c;rw[e]at a;cases a;exact⟨_,c,r⟩
def SU{a:Type}{xs:Ua a}{i:Int}{x:a}(h:atI xs i=Z x):∃j,ixN xs.length i=Z j/\xs[j]?=Z x:=by
 exact aI h
def UH{a:Type}{xs:Ua a}{j:Nat}{x:a}(h:ixN xs.length i=Z j)(e:xs[j]?=Z x):atI xs i=Z x:=by
 unfold atI;rw[h];exact e
def ixF:F2:=fun x y M=>match x,y with
 |.d a,.d (.int n)=>(bC a).bind fun ds=>(atI ds n).bind fun e=>Z (.d e,M)
 |.c i,.d (.int n)=>match M[i]? with
  |some (.lst xs)=>(atI xs n).bind fun e=>Z (e,M)
  |_=>Y
 |.t xs,.d (.int n)=>(atI xs n).bind fun e=>Z (cdA e,M)
 |_,_=>Y
def Good.lstAt{i:Nat}(G:Good K W M H)(h:M[i]?=Z (.lst xs)):∃vs,H (W.α i)=Z (.lst vs)/\bR K W xs vs:=by
 obtain⟨_,o,b,a⟩:=G.cs i _ h 53;cases o with
 |lst vs=>exact⟨vs,b,a⟩
 |_=>exact False.elim a
def aON:P2 K (rIx K) ixF:=by
 intro x y M z M' h W H v u Q G t A k;unfold ixF at h;split at h
 .rename_i a n;obtain⟨ds,D,h⟩:=aI h;obtain⟨e,r,h⟩:=aI h;cases h;obtain⟨p,vs,rfl,O,c⟩:=pG (Rep.same G.fh _ _ t) D;obtain⟨j,s,d⟩:=SU r;obtain⟨w,B,I⟩:=c.nth d;obtain⟨P,f,J,hq',g⟩:=pG t D;cases J
  have same:∀o,f[j]?=Z o->Rep K W.F e o:=fun o l=>by
   obtain⟨R,E,L⟩:=g.nth d;rw[l]at E;cases E;exact L
  obtain⟨o,l,q⟩:=g.nth d;have b:=UH (by rw[<- g.length];exact s) l;rcases hq' with hq'|hq'
  .exact .inl ⟨p,f,n,o,rfl,A,G.fh.seq hq',b,k _ W H (.refl _) G q⟩
  .exact .inr (.inl ⟨p,f,n,o,rfl,A,G.fh.seqT hq',b,k _ W H (.refl _) G q⟩)
 .rename_i i n;split at h
  .rename_i xs N;obtain⟨e,r,h⟩:=aI h;cases h;obtain⟨vs,C,c⟩:=G.lstAt N;obtain⟨j,s,d⟩:=SU r;obtain⟨w,B,q⟩:=Paired.get c d;have m:=UH (by rw[<- Paired.len c];exact s) B;rw[show v=.ref (W.α i)from t.2];exact .inl ⟨_,vs,n,w,rfl,A,SqL.of C,m,k _ W H (.refl _) G q⟩
  .cases h
 .rename_i xs n;obtain⟨e,r,h⟩:=aI h;cases h;obtain⟨a,vs,rfl,C,c⟩:=t;obtain⟨j,s,d⟩:=SU r;obtain⟨w,B,q⟩:=Paired.get c d;have m:=UH (by rw[<- Paired.len c];exact s) B;exact .inr (.inl ⟨_,vs,n,w,rfl,A,SqT.of<|G.fh _ _ C,m,k _ W H (.refl _) G (by cases e<;>exact q)⟩)
 .cases h
def iE:FN:=fun xs M=>match xs with
 |[.d a]=>(bC a).bind fun ds=>Z (.d (.int ds.length),M)
 |[.c i]=>match M[i]? with
  |some (.lst b)=>Z (.d (.int b.length),M)
  |_=>Y
 |[.t xs]=>Z (.d (.int xs.length),M)
 |_=>Y
def aKM:PN K (fun xs H Q=>∃p ys,xs=[.ref p]/\(SqL K H p ys\/SqT K H p ys)/\Q (.int ys.length) H) iE:=by
 intro xs M z M' h W H vs Q G r k;unfold iE at h;split at h
 .rename_i a;obtain⟨ds,e,h⟩:=aI h;cases h;rcases r with _|⟨b,_|_⟩;obtain⟨p,us,rfl,f,c⟩:=pG (Rep.same G.fh _ _ b) e;refine⟨p,us,rfl,f,?_⟩;rw[<- c.length];exact k _ W H (.refl _) G rfl
 .rename_i i;split at h
  .rename_i ys g;cases h;rcases r with _|⟨b,_|_⟩;obtain⟨us,d,c⟩:=G.lstAt g;rw[b.2];refine⟨_,us,rfl,.inl (SqL.of d),?_⟩;rw[<- Paired.len c];exact k _ W H (.refl _) G rfl
  .cases h
 .rename_i xs;cases h;rcases r with _|⟨b,_|_⟩;obtain⟨a,us,rfl,d,c⟩:=b;refine⟨_,us,rfl,.inr (SqT.of<|G.fh _ _ d),?_⟩;rw[<- Paired.len c];exact k _ W H (.refl _) G rfl
 .cases h
def listF:FN:=fun xs M=>match xs with
 |[.d a]=>(bC a).bind fun ds=>Z (.d (.list ds),M)
 |[.c i]=>match M[i]? with
  |some (.lst b)=>(jL b).bind fun ds=>Z (.d (.list ds),M)
  |_=>Y
 |_=>Y
def kX:FN:=fun xs M=>match xs with
 |[.d (.list ds)]=>Z (.d (.tuple ds),M)
 |[.d (.tuple ds)]=>Z (.d (.tuple ds),M)
 |[.c i]=>match M[i]? with
  |some (.lst a)=>(jL a).bind fun ds=>Z (.d (.tuple ds),M)
  |_=>Y
 |_=>Y
def aED:PN K (fun xs H Q=>∃p ys,xs=[.ref p]/\((SqL K H p ys/\∀l,H l=Y->Q (.ref l) (upd H l (.tup ys)))\/(SqT K H p ys/\Q (.ref p) H))) kX:=by
 intro xs M z M' h W H vs Q G r k;unfold kX at h;split at h
 .rename_i ds;cases h;rcases r with _|⟨a,_|_⟩;obtain⟨p,us,rfl,d,b⟩:=a;refine⟨p,us,rfl,.inl ⟨G.fh.seq d,fun l e=>?_⟩⟩;obtain⟨c,G2⟩:=G.lay e;exact k _ _ _ c G2 ⟨l,us,rfl,SqT.of aT,aM.same c.ff _ _ b⟩
 .rename_i ds;cases h;rcases r with _|⟨a,_|_⟩;obtain⟨p,us,rfl,d,b⟩:=a;exact⟨p,us,rfl,.inr ⟨G.fh.seqT d,k _ W H (.refl _) G ⟨p,us,rfl,d,b⟩⟩⟩
 .rename_i i;split at h
  .rename_i ys f;obtain⟨ds,g,h⟩:=aI h;cases h;rcases r with _|⟨a,_|_⟩;obtain⟨us,j,b⟩:=G.lstAt f;rw[a.2];refine⟨_,us,rfl,.inl ⟨SqL.of j,fun l e=>?_⟩⟩;obtain⟨c,G2⟩:=G.lay e;exact k _ _ _ c G2 ⟨l,us,rfl,SqT.of aT,aM.same c.ff _ _<|fG g b⟩
  .cases h
 .cases h
def zW(T:String)(f:EF):EF:=fun γ M=>(f γ M).bind fun r=>match r.1 with
 |.d a=>Z (.d (.bool (yH T a)),r.2)
 |_=>Y
def aKU{T:String}{e:TE}{f:EF}(hT:T∈asked)(a:SE K e f):SE K (tCB (aKt K)<|tS e<|tS (tC (.ty T)) ZJ) (zW T f):=by
 intro γ M x M' b W H i Q G R k;obtain⟨⟨y,M1⟩,j,b⟩:=aI b;cases y with
 |c _=>cases b
 |t _=>cases b
 |f _=>cases b
 |g _=>cases b
 |d y=>
  cases b;refine a _ _ _ _ j W H i _ G R fun v l m n h o=>?_;exact⟨v,T,y,rfl,hT,Rep.same h.fh _ _ o,k _ l m n h rfl⟩
def MM(T U:String)(f:EF):EF:=fun γ M=>(f γ M).bind fun r=>match r.1 with
 |.d a=>Z (.d (.bool (yH T a || yH U a)),r.2)
 |_=>Y
def aGa{T U:String}{h:TE}{f:EF}(hT:T∈asked)(j:U∈asked)(a:SE K h f):SE K (tCB (aCE K)<|tS h<|tS (aGm<|tS (tC (.ty T))<|tS (tC (.ty U)) ZJ) ZJ) (MM T U f):=by
 intro γ M x M' b W H l Q G R k;obtain⟨⟨y,M1⟩,m,b⟩:=aI b;cases y with
 |c _=>cases b
 |t _=>cases b
 |f _=>cases b
 |g _=>cases b
 |d y=>
  cases b;refine a _ _ _ _ m W H l _ G R fun v s u n o q=>?_;refine⟨by show 2<=sizeLine;decide,fun p r=>?_⟩;obtain⟨i,G2⟩:=o.lay r;refine⟨v,p,[T,U],y,rfl,aT,fun S hS=>?_,Rep.same (i.ff.trans G2.fh) _ _ q,?_⟩
  .rcases B8.mp hS with rfl|hS
   .exact hT
   .rw[A6.mp hS];exact j
  .have e:([T,U].any fun T=>yH T y)=(yH T y || yH U y):=53
   rw[e];exact k _ _ _ (n.trans i) G2 rfl
def aET(M:Sto):CD->Ub Bool
 |.d .none=>Z false
 |.d (.bool b)=>Z b
 |.d (.int i)=>Z (i != 0)
 |.d (.list ds)=>Z (!ds.isEmpty)
 |.d (.tuple ds)=>Z (!ds.isEmpty)
 |.c i=>match M[i]? with
  |some (.lst xs)=>Z (!xs.isEmpty)
  |some (.dk kvs)=>Z (!kvs.isEmpty)
  |_=>Y
 |_=>Y
def RC(f:EF):TF:=fun γ M=>(f γ M).bind fun r=>(aET r.2 r.1).bind fun b=>Z (b,r.2)
def lV{a b:Type}{xs:Ua a}{ys:Ua b}(h:xs.length=ys.length):xs.isEmpty=ys.isEmpty:=by
 cases xs<;>cases ys<;>simp at h ⊢
def aKN{s:TE}{f:EF}(a:SE K s f):STt K (fun n H Q=>s n H fun x H'=>∃k,aHe K x H' k/\Q k H') (RC f):=by
 intro γ M b M' j W H n Q G R k;obtain⟨⟨y,M1⟩,w,j⟩:=aI j;obtain⟨E,e,j⟩:=aI j;cases j;refine a _ _ _ _ w W H n _ G R fun v z A B l h=>⟨_,?_,k z A B l⟩;cases y with
 |d y=>
  cases y with
  |none=>cases e;rw[show v=.non from h];rfl
  |bool c=>cases e;rw[show v=.bl _ from h];rfl
  |int i=>cases e;rw[show v=.int _ from h];rfl
  |str x=>cases e
  |list ds=>
   cases e;obtain⟨p,us,rfl,q,m⟩:=h;exact .inl ⟨us,l.fh.seq q,by rw[lV m.length]⟩
  |tuple ds=>
   cases e;obtain⟨p,us,rfl,q,m⟩:=h;exact .inr (.inl ⟨us,l.fh.seqT q,by rw[lV m.length]⟩)
  |dict kvs=>cases e
 |t _=>cases e
 |f _=>cases e
 |g _=>cases e
 |c i=>
  rw[h.2];unfold aET at e;dsimp only at e;split at e
  .rename_i xs r;cases e;obtain⟨us,C,m⟩:=l.lstAt r;exact .inl ⟨us,SqL.of C,by rw[lV (Paired.len m)]⟩
  .rename_i kvs r;cases e;obtain⟨_,o,D,u⟩:=l.cs i _ r 53;cases o with
   |dK us=>exact .inr (.inr ⟨us,D,by rw[lV (Paired.len u)]⟩)
   |_=>exact False.elim u
  .cases e
def boolsOf:T5->Ub (Ua Bool)
 |[]=>Z []
 |.bool b::r=>(boolsOf r).bind fun bs=>Z (b::bs)
 |_::_=>Y
def FI:FN:=fun xs M=>match xs with
 |[.d (.list ds)]=>(boolsOf ds).bind fun bs=>Z (.d (.bool (bs.all id)),M)
 |_=>Y
theorem HI{H:Hp}:∀{ds:T5}{bs:Ua Bool}{vs:Tf},boolsOf ds=Z bs->aM K H ds vs->vs=bs.map V.bl
 |[],bs,vs=>fun e h=>by cases e;exact h
 |.bool b::r,bs,vs=>fun e h=>by
  obtain⟨cs,a,e⟩:=aI e;cases e;obtain⟨v,us,rfl,c,d⟩:=h;rw[show v=V.bl b from c,HI a d];rfl
 |.none::_,_,_=>fun e _=>by cases e
 |.int _::_,_,_=>fun e _=>by cases e
 |.str _::_,_,_=>fun e _=>by cases e
 |.list _::_,_,_=>fun e _=>by cases e
 |.tuple _::_,_,_=>fun e _=>by cases e
 |.dict _::_,_,_=>fun e _=>by cases e
def ZX(f:X.calm=true):fP X (.builtin "all") (fun xs H Q=>∃(p:Uf)(bs:Ua Bool),xs=[.ref p]/\SqL X.K H p (bs.map V.bl)/\Q (.bl (bs.all id)) H):=by
 intro pins s t H xs us Q I r h;obtain⟨p,bs,rfl,g,q⟩:=h;obtain⟨u,rfl,j⟩:=vals1 r;cases j;obtain⟨k,l,c,v⟩:=I.list g;have a:=bE.bools l;subst a;refine call_all_walk<|wpAny_pyIter_list c.isList ?_;have d:=c.lt;refine⟨_,_,_,_,_,_,(fun i=>bs.getD i false),rfl,Walks.list (A:=X.A.in1) (I.ok.hd f) s.heap.objs.size p (C3 d) (bs.map Value.bool).toArray,⟨⟨_,C2 _ rfl,rfl,rfl⟩,c.isList.at fun o e=>A2 _ e⟩,NN,fun h' tk m=>?_⟩;have n:((bs.map Value.bool).toArray).size=bs.length:=53
 rw[n,all_range];refine⟨.bl _,H,I.kept fun b o e=>?_,rfl,q⟩;exact m b o (fun z=>by rw[A6]at z;exact absurd (B6 e) 54)<|A2 _ e
def aJq:PN K (fun xs H Q=>∃(p:Uf)(bs:Ua Bool),xs=[.ref p]/\SqL K H p (bs.map V.bl)/\Q (.bl (bs.all id)) H) FI:=by
 intro xs M z M' h W H vs Q G r k;unfold FI at h;split at h
 .rename_i ds;obtain⟨bs,a,h⟩:=aI h;cases h;rcases r with _|⟨b,_|_⟩;obtain⟨p,us,rfl,c,d⟩:=b;have e:=HI a d;subst e;exact⟨p,bs,rfl,G.fh.seq c,k _ W H (.refl _) G rfl⟩
 .cases h
def OD:F3:=fun x y z M=>match x,y with
 |.c i,.d (.int k)=>match M[i]? with
  |some (.lst xs)=>(ixN xs.length k).bind fun j=>Z<|M.set i (.lst (xs.set j z))
  |_=>Y
 |_,_=>Y
def aLu:P3 K aIc OD:=by
 intro x y z M M' h W H v u w Q G c d e k;unfold OD at h;split at h
 .rename_i i n;split at h
  .rename_i xs a;obtain⟨j,f,h⟩:=aI h;cases h;obtain⟨us,g,b⟩:=G.lstAt a;refine⟨W.α i,us,n,j,c.2,d,g,by rw[<- Paired.len b];exact f,?_⟩;exact k W _ (.refl _)<|G.set a 53<|Paired.set e j b
  .cases h
 .cases h
end
section
variable{X:Cx}{K:Fg}
def XF(K:Fg):R2:=fun x y H Q=>∃l b xs a,x=.ref l/\y=.ref b/\SqL K H l xs/\SqL K H b a/\xs.length+a.length<=sizeLine/\∀p,H p=Y->Q (.ref p) (upd H p (.lst (xs++a)))
def op_catS:OpR X (binaryOp .Add) (XF X.K):=by
 intro pins s E H x y v u Q I p t h;obtain⟨l,b,xs,G,rfl,rfl,w,hB,J,q⟩:=h;cases p;cases t;obtain⟨c,r,⟨⟨cls,z,data,sl⟩,n,j,A,B,hd⟩,_⟩:=I.list w;obtain⟨a,k,⟨⟨m,e,data2,f⟩,C,d,g,o,i⟩,_⟩:=I.list hB;subst A hd g i;have L:=r.length;have N:=k.length;refine concat_meets ⟨_,j,rfl⟩ ⟨_,d,rfl⟩ noFill_list_add seq_list_add PySem.F.slot_list_add PySem.F.entry_list_add (PySem.F.args_list_add_2 _ _) (list_addW l b c.toArray a.toArray n C z e sl f 54) ⟨j,d,?_⟩;have D:c.toArray++a.toArray=(c++a).toArray:=53
 rw[D];exact⟨.ref _,_,I.lnew (r.append k) 54,rfl,q _ I.fresh⟩
def zK(M:Sto):CD->Ub (T8)
 |.d (.list ds)=>Z<|ds.map .d
 |.c i=>match M[i]? with
  |some (.lst xs)=>Z xs
  |_=>Y
 |_=>Y
def sX{xs:T8}(G:Good K W M H)(h:zK M x=Z xs)(r:bW K W x v):∃p vs,v=.ref p/\SqL K H p vs/\bR K W xs vs:=by
 unfold zK at h;split at h
 .rename_i ds;cases h;obtain⟨p,us,rfl,b,a⟩:=r;exact⟨p,us,rfl,G.fh.seq b,eV a⟩
 .rename_i i;split at h
  .rename_i e c;cases h;obtain⟨us,d,a⟩:=G.lstAt c;exact⟨_,us,r.2,SqL.of d,a⟩
  .cases h
 .cases h
def aEs:F2:=fun x y M=>(zK M x).bind fun xs=>(zK M y).bind fun a=>(jL (xs++a)).bind fun ds=>if ds.length<=sizeLine then Z (.d (.list ds),M)else Y
def aHB:P2 K (XF K) aEs:=by
 intro x y M z M' h W H v u Q G e f k;obtain⟨xs,g,h⟩:=aI h;obtain⟨n,i,h⟩:=aI h;obtain⟨ds,b,h⟩:=aI h;by_cases a:ds.length<=sizeLine
 .rw[A7 a]at h;cases h;obtain⟨p,vs,rfl,j,c⟩:=sX G g e;obtain⟨q,us,rfl,m,hs⟩:=sX G i f;have el:=DR b;rw[C1]at el;refine⟨p,q,vs,us,rfl,rfl,j,m,by rw[<- Paired.len c,<- Paired.len hs];omega,fun l a=>?_⟩;obtain⟨d,G2⟩:=G.lay a;exact k _ _ _ d G2 ⟨l,_,rfl,SqL.of aT,aM.same d.ff _ _<|fG b<|Paired.app c hs⟩
 .rw[B7 a]at h;cases h
def aHr:F2:=fun x y M=>match x,y with
 |.d (.tuple xs),.d (.tuple a)=>if xs≠[]/\xs.length+a.length<=sizeLine then Z (.d (.tuple (xs++a)),M)else Y
 |_,_=>Y
def aM.nil_iff(r:aM K H ds vs):vs=[]↔ds=[]:=by
 have:=r.length;constructor<;>intro h<;>subst h<;>simp at this
 .exact this
 .exact List.eq_nil_of_length_eq_zero this.symm
def aHv:P2 K (aBM K) aHr:=by
 intro x y M z M' h W H v u Q G f g k;unfold aHr at h;split at h
 .rename_i xs c;by_cases a:xs≠[]/\xs.length+c.length<=sizeLine
  .rw[A7 a]at h;cases h;obtain⟨p,vs,rfl,d,b⟩:=f;obtain⟨q,us,rfl,i,hs⟩:=g;refine⟨p,q,vs,us,rfl,rfl,G.fh.seqT d,G.fh.seqT i,fun z=>a.1<|b.nil_iff.mp z,by rw[<- b.length,<- hs.length];exact a.2,fun z=>?_,fun z l j=>?_⟩
   .have:c=[]:=hs.nil_iff.mp z;subst this;rw[L6]at k;exact k _ W H (.refl _) G ⟨p,vs,rfl,d,b⟩
   .obtain⟨e,G2⟩:=G.lay j;exact k _ _ _ e G2 ⟨l,_,rfl,SqT.of aT,aM.same e.ff _ _<|aM.app b hs⟩
  .rw[B7 a]at h;cases h
 .cases h
def P2.or(a:P2 K r h)(b:P2 K d h'):P2 K (fun x y H Q=>r x y H Q\/d x y H Q) (CH h h'):=by
 intro x y M z M' c W H v u Q G f g k;unfold CH at c;cases e:h x y M with
 |some q=>
  rw[e]at c;cases c;exact .inl (a _ _ _ _ _ e W H v u Q G f g k)
 |none=>
  rw[e]at c;exact .inr (b _ _ _ _ _ c W H v u Q G f g k)
def SW(K:Fg):R2:=fun x y H Q=>∃a b c,x=.ref a/\y=.ref b/\SqT K H a []/\SqT K H b c/\Q (.ref b) H
def op_catT0:OpR X (binaryOp .Add) (SW X.K):=by
 intro pins s A H x y v u Q I l m h;obtain⟨a,b,B,rfl,rfl,ha,o,q⟩:=h;cases l;cases m;obtain⟨p,r,⟨⟨cls,t,data,sl⟩,j,w,n,hd⟩,_⟩:=I.tuple ha;obtain⟨c,C,⟨⟨k,e,data2,f⟩,d,g,z,i⟩,_⟩:=I.tuple o;subst w hd g i;cases r;exact concat_meets ⟨_,j,rfl⟩ ⟨_,d,rfl⟩ noFill_tuple_add seq_tuple_add PySem.F.slot_tuple_add PySem.F.entry_tuple_add (PySem.F.args_tuple_add_2 _ _) (tuple_addW0 a b #[] c.toArray n z t e sl f rfl) ⟨j,d,⟨.ref b,H,I,rfl,q⟩⟩
def UU:F2:=fun x y M=>match x,y with
 |.d (.tuple []),.d (.tuple a)=>Z (.d (.tuple a),M)
 |_,_=>Y
def aDe:P2 K (SW K) UU:=by
 intro x y M z M' h W H v u Q G c d k;unfold UU at h;split at h
 .rename_i f;cases h;obtain⟨p,vs,rfl,a,e⟩:=c;obtain⟨q,us,rfl,b,hs⟩:=d;rw[show vs=[]from e]at a;exact⟨p,q,us,rfl,rfl,G.fh.seqT a,G.fh.seqT b,k _ W H (.refl _) G ⟨q,us,rfl,b,hs⟩⟩
 .cases h
def dU:F2:=CH aHn<|CH aEs<|CH UU aHr
def aDZ(K:Fg):R2:=fun x y H Q=>(rI0 fun i j=>.int (i+j)) x y H Q\/XF K x y H Q\/SW K x y H Q\/aBM K x y H Q
def aGU:OpR X (binaryOp .Add) (aDZ X.K):=op_add.or<|op_catS.or<|op_catT0.or aFO
def aEJ:P2 K (aDZ K) dU:=P2.or aIL<|P2.or aHB<|P2.or aDe aHv
def eqS(neg:Bool):F2:=fun x y M=>match x,y with
 |.d (.str a),.d (.str b)=>Z (.d (.bool (if neg then !(a==b)else a==b)),M)
 |_,_=>Y
def eqX(neg:Bool):F2:=CH (eqS neg)<|eqD neg
def aIP(K:Fg):R2:=fun x y H Q=>rEq x y H Q\/ZW K false x y H Q
def aLq(K:Fg):R2:=fun x y H Q=>rNe x y H Q\/ZW K true x y H Q
def aCX:decide (V.str a=V.str b)=(a==b):=54
def aMg:P2 K rEq (eqS false):=by
 intro x y M z M' h W H v u Q G c d k;unfold eqS at h;split at h
 .rename_i a b;cases h;rw[show v=.str a from c,show u=.str b from d];refine⟨rfl,?_⟩;rw[aCX];exact k _ W H (.refl _) G rfl
 .cases h
def aIX:P2 K rNe (eqS true):=by
 intro x y M z M' h W H v u Q G c d k;unfold eqS at h;split at h
 .rename_i a b;cases h;rw[show v=.str a from c,show u=.str b from d];refine⟨rfl,?_⟩;rw[aCX];exact k _ W H (.refl _) G rfl
 .cases h
def aBl:P2 K (aIP K) (eqX false):=P2.or aMg aIj
def aJh:P2 K (aLq K) (eqX true):=P2.or aIX aIj
def aKs(a:X.A.units+64<cLine):OpR X (compareOp .Eq) (aIP X.K):=op_eq.or<|aDr a
def aJD(a:X.A.units+64<cLine):OpR X (compareOp .NotEq) (aLq X.K):=op_ne.or<|aMv a
def aJo:P2 K (rI0 fun i j=>.int (i-j)) KR:=aIL
def aKl:P2 K (rI PU fun i j=>.int (i*j)) IZ:=aGp fun _ _ h=>mulOk_of h
def aGn:P2 K (rI aIC fun i j=>.int (i / j)) iV:=aGp fun i j h=>by
 unfold yV at h;rw[B4]at h;exact⟨D7 h.1,D7 (p:=j.natAbs<zF) h.2⟩
def aMA:P2 K (rI (fun _ j=>0<j) fun i j=>.int (i % j)) dC:=aGp fun i j h=>D7 h
def aMz:P2 K (rI aNv fun i j=>.int (i ^ j.toNat)) ZA:=aGp fun i j h=>by
 unfold aIK at h;rw[B4,B4]at h;exact⟨D7 h.1.1,D7 h.1.2,D7 h.2⟩
def aNU:P2 K (rI0 fun i j=>.bl (decide (i<j))) ltI:=XM
def aOY:P2 K (rI0 fun i j=>.bl (decide (i<=j))) leI:=XM
def aOS:P2 K (rI0 fun i j=>.bl (decide (j<i))) gtI:=XM
def aNl:P2 K (rI0 fun i j=>.bl (decide (j<=i))) geI:=XM
def aAr:F1:=fun x M=>match x with
 |.d (.int i)=>Z (.d (.int (-i)),M)
 |_=>Y
def aMj:P1 K (rU fun i=>.int (-i)) aAr:=by
 intro x M z M' h W H v Q G r k;unfold aAr at h;split at h
 .rename_i i;cases h;exact⟨i,r,k _ W H (.refl _) G rfl⟩
 .cases h
end
section
variable{X:Cx}{K:Fg}
def aPc(h:X.K=K):fP X (.builtin "isinstance") (aKt K):=by subst h;exact YJ
def aOm(h:X.K=K):fP X (.builtin "isinstance") (aCE K):=by subst h;exact UM
def aMS(K:Fg):R2:=rIx K
def kIx(h:X.K=K):IxR X (aMS K):=by subst h;exact aLV
def aLK:P2 K (aMS K) ixF:=aON
def aHT(K:Fg):Tf->Hp->VK->Prop:=fun xs H Q=>∃p a,xs=[.ref p]/\(SqL K H p a\/SqT K H p a)/\Q (.int a.length) H
def aPf(h:X.K=K):fP X (.builtin "len") (aHT K):=by subst h;exact JV
def aEE:PN K (aHT K) iE:=aKM
def aEh(K:Fg):Tf->Hp->VK->Prop:=fun xs H Q=>∃p a,xs=[.ref p]/\(SqL K H p a\/SqT K H p a)/\∀l,H l=Y->Q (.ref l) (upd H l (.lst a))
def aMT(h:X.K=K):fP X (.type "list") (aEh K):=by subst h;exact LX
def XJ(K:Fg):Tf->Hp->VK->Prop:=fun xs H Q=>∃p a,xs=[.ref p]/\((SqL K H p a/\∀l,H l=Y->Q (.ref l) (upd H l (.tup a)))\/(SqT K H p a/\Q (.ref p) H))
def aJz(h:X.K=K):fP X (.type "tuple") (XJ K):=by subst h;exact FT
def ZU:PN K (XJ K) kX:=aED
def aII(K:Fg):Tf->Hp->VK->Prop:=fun xs H Q=>∃(p:Uf)(bs:Ua Bool),xs=[.ref p]/\SqL K H p (bs.map V.bl)/\Q (.bl (bs.all id)) H
def aPh(h:X.K=K)(a:X.calm=true):fP X (.builtin "all") (aII K):=by subst h;exact ZX a
def aHf:PN K (aII K) FI:=aJq
def kEq(h:X.K=K)(a:X.A.units+64<cLine):OpR X (compareOp .Eq) (aIP K):=by subst h;exact aKs a
def kNe(h:X.K=K)(a:X.A.units+64<cLine):OpR X (compareOp .NotEq) (aLq K):=by subst h;exact aJD a
def kIn(h:X.K=K)(a:X.A.in1.units+64<cLine):OpR X (compareOp .In) (aLL K false):=by subst h;exact aKz a
def aPk(h:X.K=K):OpR X (binaryOp .Add) (aDZ K):=by subst h;exact aGU
def aGW(h:X.K=K)(b:PE X l a):PI X tg l (aJb K a):=by subst h;exact aLB b
def aEN{n:Nat}(b:X.K=K)(c:X.calm=true)(h:PGs X es t)
 (hn:(assignEach es X.env).length=n:=by rfl) (a:(assignEach es X.env).findIdx? (·.1)=Y:=by rfl):PG X (.Tuple es k pos) (aLz K n t):=by subst b;exact aLD c h hn a
def aNT(K:Fg)(a:TE):TT:=fun b H Q=>a b H fun x H'=>∃k,aHe K x H' k/\Q k H'
def aGP(d:X.K=K)(ha:PE X a c)(e:∀b,isTrue a X.env b=(do let v <- b;standAt a.pos;holding [v]<|truthy v)):PT X a (aNT K c):=by subst d;exact aCh ha e
def aGz(a:SE K b f):STt K (aNT K b) (RC f):=aKN a
end
section
variable{es:Tb}{env:Env}
def FV{a b c}:starEach (.Constant a b c::es) env=(false,eval (.Constant a b c) env)::starEach es env:=rfl
def cD{a b}:starEach (.Name a b::es) env=(false,eval (.Name a b) env)::starEach es env:=rfl
def kL{a b c}:starEach (.Tuple a b c::es) env=(false,eval (.Tuple a b c) env)::starEach es env:=rfl
def tF{a b c d}:starEach (.Call a b c d::es) env=(false,eval (.Call a b c d) env)::starEach es env:=rfl
def xS:(backTo pos<|starEach [] env).any (·.1)=false:=rfl
def oE{e:Ug}(hs:starEach (e::es) env=(false,eval e env)::starEach es env)(h:(backTo pos<|starEach es env).any (·.1)=false):(backTo pos<|starEach (e::es) env).any (·.1)=false:=by
 rw[hs];have a:backTo pos ((false,eval e env)::starEach es env)=(false,(do let v <- eval e env;standAt pos;pure v:Sem Uc))::backTo pos (starEach es env)\/(backTo pos ((false,eval e env)::starEach es env)).any (·.1)=(backTo pos<|starEach es env).any (·.1):=.inr rfl;rcases a with q|q
 .rw[q,A0m,h];rfl
 .rw[q];exact h
end
section
variable{P:Uh}{w:World}{K:Fg}{mg:Str->Ti}
def Fun.okM{base:Heap}{x:Str}{st:Stmt}{N ps:Te}{k:Nat}{b:SF}{f:Uf}{fd:FuncData}(F:Fun K x x st f fd)(S:aU N ps (aH st))
 (c:∀(f:Uf)(cdv:Uc)(A:Ui)(outer:Ua Env)(s:Ue)(H:Hp)(E:XK),cE k (A.deeper<|envOfC x (aH st) s.heap.objs.size f cdv)->
  ∃t,PSs (lM CX0 P w K mg base N x (aH st) f cdv A outer s H E).nox (bP st) t/\SS K t b):jH P w K mg base CX0 (k+1) f fd ps (spM K (fnF ps.length N.length b)):=by
 have len:∀vs H Q E,spM K (fnF ps.length N.length b) vs H Q E->vs.length=ps.length:=fun vs H Q E h=>by
  obtain⟨xs,M,W,y,M',G,R,a,_⟩:=h;by_cases d:xs.length=ps.length
  .rw[<- Paired.len R];exact d
  .unfold fnF at a;rw[B7 d]at a;cases a
 refine F.ok S len fun cdv A outer s H vs Q E l h=>?_;obtain⟨t,m,hS⟩:=c f cdv A outer s H E l;refine⟨t,m,?_⟩;obtain⟨xs,M,W,y,M',G,R,a,k⟩:=h;by_cases d:xs.length=ps.length
 .unfold fnF at a;rw[A7 d]at a;obtain⟨⟨o,M1⟩,n,a⟩:=aI a
  have p:cF K W (xs.map Z++List.replicate (N.length-xs.length) Y) (start N vs):=by
   unfold start;rw[<- Paired.len R];exact Paired.app (bR.some R)<|sG _
  refine hS _ _ _ _ n W H _ _ G p fun e g i j=>?_;cases o with
  |rt x=>cases a;exact fun v r=>k v e g i j r
  |nx γ=>cases a;exact fun q r=>k .non e g i j rfl
  |bk γ=>cases a
  |ct γ=>cases a
 .unfold fnF at a;rw[B7 d]at a;cases a
def Def.okL{p:Str}{st:Stmt}{F:FN}(D:Def K mg x st)(S:aU N [p] (aH st))(c:F=fnF 1 N.length b)
 (d:∀(kV doc pm:Uc)(an:Tk)(cdv ct:Uc)(us:T6),us.length=[p].length->bindArgs (PySem.W.fnOf x x (dH st) (bP st) (aH st) .none kV doc pm an cdv ct) ⟨us,[]⟩=pure ([p].zip us))
 (a:∀(base:Heap)(f:Uf)(cdv:Uc)(A:Ui)(outer:Ua Env)(s:Ue)(H:Hp)(E:XK),cE k (A.deeper<|envOfC x (aH st) s.heap.objs.size f cdv)->
  ∃t,PSs (lM CX0 P w K mg base N x (aH st) f cdv A outer s H E).nox (bP st) t/\SS K t b):
 ∃f fd,mg x=Z (.ref f)/\(∀(s:Ue)(u:Uc),BindsTo s fd ⟨[u],[]⟩ [(p,u)])/\∀base,jH P w K mg base CX0 (k+1) f fd [p] (spM K F):=by
 subst c;obtain⟨f,fd,Fu,m⟩:=D.ex;refine⟨f,fd,m,fun s u=>?_,fun base=>Fu.okM S<|a base⟩;obtain⟨oc,od,kV,doc,pm,an,cdv,ct,osl,rfl,g,e⟩:=Fu.ex;exact .of_eq (d kV doc pm an cdv ct [u] rfl)
theorem NK{H:Hp}:∀ns:Ta,aM K H (ns.map .int) (ns.map V.int)
 |[]=>rfl
 |n::ns=>⟨.int n,ns.map V.int,rfl,rfl,NK ns⟩
def aKA{F:FN}(b:∀ns:Ta,ns.length<=63->∃M',F [.d (.list (ns.map .int))] []=Z (.d (.bool true),M')){ns:Ta}(e:ns.length<=63)(hS:SqL K H a (ns.map V.int))(ht:TabsOk K H H)(E:XK):
 spM K F [.ref a] H (fun v _=>v=.bl true) E:=by
 obtain⟨M',h⟩:=b ns e;refine⟨[.d (.list (ns.map .int))],[],⟨H,fun _=>0,0⟩,_,M',⟨iC.refl H,rfl,fun i c h=>by simp at h,fun i j c c' h=>by simp at h,ht⟩,.cons (⟨a,ns.map V.int,rfl,hS,NK ns⟩) .nil,h,fun v W' H' _ _ r=>r⟩
def law_walk{l:PySem.W.OpenLaw}{YP:World->Heap->Prop}{d:DefRec}{K:Params->Fg}{F:FN}{p:Str}(i:PyProof.Rows.importsNone q=true)(hn:l.most=Z 63)(b:d.params.defaults=[])(j:cE k callerA)
 (n:∀(w:World)(h:Heap),YP w h->(K w.params).In h)
 (hT:∀(w:World)(mg:Str->Ti)(h:Heap),(K w.params).In h->h.Ns mainGlobals mg->∃f fd,mg d.name=Z (.ref f)/\(∀(s:Ue)(u:Uc),BindsTo s fd ⟨[u],[]⟩ [(p,u)])/\∀base,jH l.prog w (K w.params) mg base CX0 k f fd [p]<|spM (K w.params) F)
 (o:∀ns:Ta,ns.length<=63->∃M',F [.d (.list (ns.map .int))] []=Z (.d (.bool true),M')) (ht:∀w:World,aDE (K w.params)=[]):
 PySem.W.WalkO q loose XP YP l.row.toRowW d [] (fun f vs=>PySem.call f vs):=
 L2.walk_of i hn 52 b j n
  (fun w mg y h KX G c=>by
   obtain⟨f,fd,m,r,t⟩:=hT w mg h KX G;have e:=m.symm.trans c;cases e;exact⟨fd,r,fun base _ _=>t base⟩)
  (fun w H a ns v _ hS=>aKA o v hS (fun x g=>by rw[ht w]at g;cases g) _) fun _ _ _ _ _ z=>z
end
def UE(e:Ug)(es:Tb):Prop:=∀env:Env,starEach (e::es) env=(false,eval e env)::starEach es env
def PB:Tb->Prop
 |[]=>True
 |e::es=>UE e es/\PB es
def PB.plain:∀{es:Tb},PB es->∀(env:Env)(pos:Pos),(backTo pos<|starEach es env).any (·.1)=false
 |[]=>fun _ _ _=>rfl
 |_::_=>fun h env pos=>oE (h.1 env)<|h.2.plain env pos
section
variable{ι:Type}
structure ME(K:Fg)(X:ι->Cx)(e:Ug)(f:EF):Prop where
 ex:∃t,(∀i,PE (X i) e t)/\SE K t f
structure MT(K:Fg)(X:ι->Cx)(e:Ug)(f:TF):Prop where
 ex:∃t,(∀i,PT (X i) e t)/\STt K t f
structure MW(K:Fg)(X:ι->Cx)(e:Ug)(f:TF):Prop where
 ex:∃t,(∀i,PW (X i) e t)/\STt K t f
structure MA(K:Fg)(X:ι->Cx)(es:Tb)(f:AF):Prop where
 ex:∃t,(∀i,PA (X i) es t)/\SA K t f
 st:PB es
structure MG(K:Fg)(X:ι->Cx)(e:Ug)(f:GF):Prop where
 ex:∃t,(∀i,PG (X i) e t)/\SG K t f
structure MGs(K:Fg)(X:ι->Cx)(es:Tb)(f:GsF):Prop where
 ex:∃t,(∀i,PGs (X i) es t)/\SGs K t f
structure MI(K:Fg)(X:ι->Cx)(tg e:Ug)(f:AF):Prop where
 ex:∃t,(∀i,PI (X i) tg e t)/\SI K t f
structure MF(K:Fg)(X:ι->Cx)(es:Tb)(f:TF):Prop where
 ex:∃t,(∀i,uH (X i) es t)/\STt K t f
structure MS(K:Fg)(X:ι->Cx)(st:Stmt)(f:SF):Prop where
 ex:∃t,(∀i,PS (X i) st t)/\SS K t f
structure ML(K:Fg)(X:ι->Cx)(st:Tc)(f:SF):Prop where
 ex:∃t,(∀i,PSs (X i) st t)/\SS K t f
structure Q2(K:Fg)(X:ι->Cx)(o:Tt)(h:F2):Prop where
 ex:∃r,(∀i,OpR (X i) o r)/\P2 K r h
structure Q1(K:Fg)(X:ι->Cx)(o:Uc->Sem Uc)(h:F1):Prop where
 ex:∃r,(∀i,UnR (X i) o r)/\P1 K r h
structure QN(K:Fg)(X:ι->Cx)(f:Uc)(h:FN):Prop where
 ex:∃r,(∀i,fP (X i) f r)/\PN K r h
structure QI(K:Fg)(X:ι->Cx)(h:F2):Prop where
 ex:∃r,(∀i,IxR (X i) r)/\P2 K r h
structure QS(K:Fg)(X:ι->Cx)(h:F3):Prop where
 ex:∃r,(∀i,aLx (X i) r)/\P3 K r h
variable{K:Fg}{X:ι->Cx}{a b c e:Ug}{es:Tb}{f g h:EF}{ft gt:TF}{fa:AF}{pos:Pos}
def aB(i:Nat){x:Str}(k:∀j,(X j).N[i]?=Z x:=by intro _;rfl)(l:∀j,Vis (X j).env.scope x:=by intro _;first|exact Or.inl rfl|exact Or.inr (Or.inl rfl)|exact Or.inr<|Or.inr rfl)(hd:(x==("__debug__":Str))=false:=by decide)(d:(x==("__classdict__":Str))=false:=by decide):
 ME K X (.Name x pos) (aD i):=⟨_,fun j=>aKw (k j) (l j) hd d,aJZ⟩
def aF:ME K X (.Constant (.int i) j pos) (fC (.int i)):=⟨_,fun _=>aMo,aBp⟩
def fR:ME K X (.Constant (.bool i) j pos) (fC (.bool i)):=⟨_,fun _=>aOb,aOV⟩
def xN:ME K X (.Constant .none j pos) (fC .none):=⟨_,fun _=>aLj,aJp⟩
def xW:ME K X (.Constant (.str i) j pos) (fC (.str i)):=⟨_,fun _=>aKP,aKa⟩
def DH(hm:∀i,∃t:Tok,(X i).mg x=Z (.int n t))(d:∀i,Gl (X i) x:=by intro _;rfl)(hd:(x==("__debug__":Str))=false:=by decide):ME K X (.Name x pos) (fC (.int n)):=
 ⟨_,fun i=>WV (v:=.int n) (d i) (hm i).choose_spec ⟨_,rfl⟩ hd,aBp⟩
def aS(q:Q2 K X (binaryOp op) k)(x:ME K X a f)(y:ME K X b g):ME K X (.BinOp a op b pos) (fOp k f g):=by
 obtain⟨r,d,j⟩:=q.ex;obtain⟨t,l,m⟩:=x.ex;obtain⟨u,n,o⟩:=y.ex;exact⟨_,fun i=>aMF (d i) (l i)<|n i,VD j m o⟩
def lY(q:Q1 K X (unaryOp op) k)(x:ME K X a f):ME K X (.UnaryOp op a pos) (fUn k f):=by
 obtain⟨r,d,j⟩:=q.ex;obtain⟨t,l,m⟩:=x.ex;exact⟨_,fun i=>aOw (d i)<|l i,aNR j m⟩
def eP{rest:Tb}(x:ME K X a f)(y:ME K X (.BoolOp .And (b::rest) pos) g):ME K X (.BoolOp .And (a::b::rest) pos) (lL f g):=by
 obtain⟨t,d,j⟩:=x.ex;obtain⟨u,k,l⟩:=y.ex;exact⟨_,fun i=>aIR (d i)<|k i,aJk j l⟩
def jN(x:ME K X a f):ME K X (.BoolOp op [a] pos) f:=by
 obtain⟨t,d,j⟩:=x.ex;exact⟨_,fun i=>aKk<|d i,j⟩
def aCV(x:ME K X a f):ME K X (.UnaryOp .Not a pos) (aDm f):=by
 obtain⟨t,d,j⟩:=x.ex;exact⟨_,fun i=>aLT<|d i,aKO j⟩
def fM(q:Q2 K X (compareOp op) k)(x:ME K X a f)(y:ME K X b g)(hm:behindInMarks op b=false:=by rfl):ME K X (.Compare a [op] [b] pos) (fOp k f g):=by
 obtain⟨r,d,j⟩:=q.ex;obtain⟨t,l,m⟩:=x.ex;obtain⟨u,n,o⟩:=y.ex;exact⟨_,fun i=>aGS (d i) (l i) (n i) hm,VD j m o⟩
def QD(q:Q2 K X (compareOp op) k)(q':Q2 K X (compareOp d) m)(x:ME K X a f)(y:ME K X b g)(z:ME K X c h)(hm:lastMarks [op,d] [b,c]=false:=by with_unfolding_all rfl):ME K X (.Compare a [op,d] [b,c] pos) (ED k m f g h):=by
 obtain⟨r,n,o⟩:=q.ex;obtain⟨D,j,l⟩:=q'.ex;obtain⟨t,p,s⟩:=x.ex;obtain⟨u,w,A⟩:=y.ex;obtain⟨v,B,C⟩:=z.ex;exact⟨_,fun i=>aDa (n i) (j i) (p i) (w i) (B i) hm,aDq o l s A C⟩
def aE:MA K X [] aO:=⟨⟨_,fun _=>DB,aIY⟩,trivial⟩
def aA(x:ME K X e f)(y:MA K X es fa)(hs:UE e es:=by intro _;rfl):MA K X (e::es) (aC f fa):=by
 obtain⟨t,d,j⟩:=x.ex;obtain⟨u,k,l⟩:=y.ex;exact⟨⟨_,fun i=>jX (d i) (k i)<|hs _,aGj j l⟩,hs,y.st⟩
def aV(x:MA K X es fa):ME K X (.Tuple es k pos) (bI fa):=by
 obtain⟨t,d,j⟩:=x.ex;exact⟨_,fun i=>RN<|d i,aKI j⟩
def dD(x:MA K X es fa):ME K X (.List es pos) (dW fa):=by
 obtain⟨t,d,j⟩:=x.ex;exact⟨_,fun i=>aDY<|d i,aIU j⟩
def rV(x:MA K X es fa):ME K X (.List es pos) (mH fa):=by
 obtain⟨t,d,j⟩:=x.ex;exact⟨_,fun i=>aDY<|d i,aMi j⟩
def bX(q:QI K X k)(x:ME K X a f)(y:ME K X b g)(hs:WO b:=by intro _ _;rfl):ME K X (.Subscript a b pos) (fOp k f g):=by
 obtain⟨r,d,j⟩:=q.ex;obtain⟨t,l,m⟩:=x.ex;obtain⟨u,n,o⟩:=y.ex;exact⟨_,fun i=>aNH (d i) (l i) (n i) hs,VD j m o⟩
def aX{F:FN}(C:∀i,Callee (X i).prog (X i).w (X i).K (X i).mg (X i).base k x ps (spM K F) q)(d:∀i,cE k (X i).A q)(y:MA K X (e::es) fa)(j:∀i,Gl (X i) x:=by intro _;rfl)(hd:(x==("__debug__":Str))=false:=by decide):
 ME K X (.Call (.Name x p) (e::es) [] pos) (aP F fa):=by
 obtain⟨u,l,m⟩:=y.ex;exact⟨_,fun i=>aMy (C i) (d i) (l i) (j i) hd (y.st.1 _)<|y.st.2.plain _ _,aGL m⟩
def bL{id:String}{F:FN}(q:QN K X (.builtin id) F)(hm:∀i,(X i).mg x=Y)(d:bootBuiltins x=Z (.builtin id))(y:MA K X (e::es) fa)(j:∀i,Gl (X i) x:=by intro _;rfl)(hn:x≠"__name__":=by decide)(hd:(x==("__debug__":Str))=false:=by decide):
 ME K X (.Call (.Name x p) (e::es) [] pos) (aP F fa):=by
 obtain⟨r,k,l⟩:=q.ex;obtain⟨u,m,n⟩:=y.ex;exact⟨_,fun i=>wZ (k i) (j i) (hm i) d (m i) hn hd (y.st.1 _)<|y.st.2.plain _ _,aIw l n⟩
def mY{id:String}{F:FN}(q:QN K X (.type id) F)(hm:∀i,(X i).mg x=Y)(d:bootBuiltins x=Z (.type id))(y:MA K X (e::es) fa)(j:∀i,Gl (X i) x:=by intro _;rfl)(hn:x≠"__name__":=by decide)(hd:(x==("__debug__":Str))=false:=by decide):
 ME K X (.Call (.Name x p) (e::es) [] pos) (aP F fa):=by
 obtain⟨r,k,l⟩:=q.ex;obtain⟨u,m,n⟩:=y.ex;exact⟨_,fun i=>aAk (k i) (j i) (hm i) d (m i) hn hd (y.st.1 _)<|y.st.2.plain _ _,aIw l n⟩
def xM{T:String}{p:Pos}(k:∀i,(X i).K=K)(hT:T∈asked)(x:ME K X a f)(hs:UE a [.Name y p'])(hm:∀i,(X i).mg "isinstance"=Y)(d:∀i,(X i).mg y=Y)(l:bootBuiltins y=Z (.type T))(m:∀i,Gl (X i) "isinstance":=by intro _;rfl)(j:∀i,Gl (X i) y:=by intro _;rfl)
 (hn:y≠"__name__":=by decide) (hd:(y==("__debug__":Str))=false:=by decide):ME K X (.Call (.Name "isinstance" p) [a,.Name y p'] [] pos) (zW T f):=by
 obtain⟨t,n,o⟩:=x.ex;refine⟨_,fun i=>wZ (aPc<|k i) (m i) (hm i) boot_isinstance (jX (n i) (jX (AJ (v:=.ty T) (j i) (d i) l rfl hn hd) DB cD)<|hs _) 52 52 (hs _)<|oE cD xS,aKU hT o⟩
def XD{T U:String}{p:Pos}{k:Nat}(u:∀i,(X i).K=K)(hT:T∈asked)(w:U∈asked)(x:ME K X a f)(hs:UE a [.Tuple [.Name y p',.Name z d] k s])(hm:∀i,(X i).mg "isinstance"=Y)(j:∀i,(X i).mg y=Y)(l:∀i,(X i).mg z=Y)
 (A:bootBuiltins y=Z (.type T)) (m:bootBuiltins z=Z (.type U)) (B:∀i,Gl (X i) "isinstance":=by intro _;rfl) (n:∀i,Gl (X i) y:=by intro _;rfl) (o:∀i,Gl (X i) z:=by intro _;rfl)
 (hn:y≠"__name__":=by decide) (hd:(y==("__debug__":Str))=false:=by decide) (q:z≠"__name__":=by decide) (r:(z==("__debug__":Str))=false:=by decide):ME K X (.Call (.Name "isinstance" p) [a,.Tuple [.Name y p',.Name z d] k s] [] pos) (MM T U f):=by
 obtain⟨t,C,D⟩:=x.ex;refine⟨_,fun i=>wZ (aOm<|u i) (B i) (hm i) boot_isinstance (jX (C i) (jX (RN<|jX (AJ (v:=.ty T) (n i) (j i) A rfl hn hd) (jX (AJ (v:=.ty U) (o i) (l i) m rfl q r) DB cD) cD) DB kL)<|hs _) 52 52 (hs _)<|oE kL xS,aGa hT w D⟩
def dR(x:MT K X a ft):MT K X (.UnaryOp .Not a pos) (fX ft):=by
 obtain⟨t,d,j⟩:=x.ex;exact⟨_,fun i=>aJL<|d i,aLo j⟩
def aBb{rest:Tb}(x:MT K X a ft)(y:MW K X (.BoolOp .And (b::rest) pos) gt):MW K X (.BoolOp .And (a::b::rest) pos) (FG ft gt):=by
 obtain⟨t,d,j⟩:=x.ex;obtain⟨u,k,l⟩:=y.ex;exact⟨_,fun i=>aKC (d i)<|k i,aMq j l⟩
def YA(x:MT K X a ft):MW K X (.BoolOp .And [a] pos) ft:=by
 obtain⟨t,d,j⟩:=x.ex;exact⟨_,fun i=>aGD<|d i,j⟩
def jQ{rest:Tb}(x:MT K X a ft)(y:MW K X (.BoolOp .Or (b::rest) pos) gt):MW K X (.BoolOp .Or (a::b::rest) pos) (gOr ft gt):=by
 obtain⟨t,d,j⟩:=x.ex;obtain⟨u,k,l⟩:=y.ex;exact⟨_,fun i=>aOd (d i)<|k i,aNn j l⟩
def kP(x:MT K X a ft):MW K X (.BoolOp .Or [a] pos) ft:=by
 obtain⟨t,d,j⟩:=x.ex;exact⟨_,fun i=>aKF<|d i,j⟩
def yC(x:MW K X a ft):MT K X a ft:=by
 obtain⟨t,d,j⟩:=x.ex;exact⟨_,fun i=>(d i).pt,j⟩
def bT(q:Q2 K X (compareOp op) k)(x:ME K X a f)(y:ME K X b g)(hm:behindInMarks op b=false:=by rfl):MT K X (.Compare a [op] [b] pos) (gB<|fOp k f g):=by
 obtain⟨r,d,j⟩:=q.ex;obtain⟨t,l,m⟩:=x.ex;obtain⟨u,n,o⟩:=y.ex;exact⟨_,fun i=>aFR (d i) (l i) (n i) hm,aFy<|VD j m o⟩
def dN(x:ME K X a f)(j:∀(env:Env)(d:Sem Uc),isTrue a env d=(do let v <- d;standAt a.pos;holding [v]<|truthy v):=by intro _ _;rfl):MT K X a (gB f):=by
 obtain⟨t,k,l⟩:=x.ex;exact⟨_,fun i=>aLJ (k i)<|j _,aBa l⟩
def aJY(j:∀i,(X i).K=K)(x:ME K X a f)(k:∀(env:Env)(d:Sem Uc),isTrue a env d=(do let v <- d;standAt a.pos;holding [v]<|truthy v):=by intro _ _;rfl):MT K X a (RC f):=by
 obtain⟨t,l,m⟩:=x.ex;exact⟨_,fun i=>aGP (j i) (l i)<|k _,aGz m⟩
def gR{p:Pos}(hm:∀i,(X i).mg "range"=Y)(x:MA K X [a] fa)(d:∀i,Gl (X i) "range":=by intro _;rfl):MI K X tg (.Call (.Name "range" p) [a] [] pos) (fH fa):=by
 obtain⟨t,j,k⟩:=x.ex;exact⟨_,fun i=>aAB (d i) (hm i) (j i)<|x.st.1 _,aFd k⟩
def LA{p:Pos}(hm:∀i,(X i).mg "range"=Y)(x:MA K X [a,b] fa)(d:∀i,Gl (X i) "range":=by intro _;rfl):MI K X tg (.Call (.Name "range" p) [a,b] [] pos) (yX fa):=by
 obtain⟨t,j,k⟩:=x.ex;exact⟨_,fun i=>ZL (d i) (hm i) (j i) (by rw[x.st.1,x.st.2.1];rfl) (by rw[x.st.2.1];rfl),aHq k⟩
def iF(d:∀i,(X i).K=K)(x:ME K X a f):MI K X tg a (cA f):=by
 obtain⟨t,j,k⟩:=x.ex;exact⟨_,fun i=>aGW (d i)<|j i,aJV k⟩
def bA(i:Nat){x:Str}(d:∀j,(X j).N.Nodup)(hi:∀j,(X j).N[i]?=Z x:=by intro _;rfl)(k:∀j,Loc (X j).env.scope x:=by intro _;first|exact Or.inl rfl|exact Or.inr rfl)(l:∀j,(X j).fn x=true\/(X j).env.scope.names.lookup x=Z .local:=by intro _;first|exact .inl rfl|exact .inr rfl):
 MG K X (.Name x pos) (hName i):=⟨_,fun j=>aHO (d j) (hi j) (k j)<|l j,AK⟩
def eZ:MGs K X [] pH:=⟨_,fun _=>aGN,aGH⟩
def bK(x:MG K X e d)(y:MGs K X es j)(hs:∀env:Env,(assignEach (e::es) env).map (·.2)=assign e env::(assignEach es env).map (·.2):=by intro _;rfl):MGs K X (e::es) (cG d j):=by
 obtain⟨t,k,l⟩:=x.ex;obtain⟨u,m,n⟩:=y.ex;exact⟨_,fun i=>aEk (k i) (m i)<|hs _,aBK l n⟩
def gZ{n:Nat}(l:∀i,(X i).K=K)(m:∀i,(X i).calm=true)(x:MGs K X es j)(hn:∀env:Env,(assignEach es env).length=n:=by intro _;rfl)(d:∀env:Env,(assignEach es env).findIdx? (·.1)=Y:=by intro _;rfl):MG K X (.Tuple es k pos) (gU n j):=by
 obtain⟨t,o,p⟩:=x.ex;exact⟨_,fun i=>aEN (l i) (m i) (o i) (hn _)<|d _,aJT p⟩
def aCo(q:QS K X s)(x:ME K X a f)(y:ME K X b g) (hs:∀(env:Env)(v:Uc),assign (.Subscript a b pos) env v=(do
 let d <- holding [v] (eval a env);let j <- holding [v,d] (eval b env)
 standAt pos
 holding [v,d,j] (setItem d j v)
 release [v,d,j] []):=by intro _ _;rfl):MG K X (.Subscript a b pos) (hSub f g s):=by
 obtain⟨r,k,l⟩:=q.ex;obtain⟨t,m,n⟩:=x.ex;obtain⟨u,o,p⟩:=y.ex;exact⟨_,fun i=>aIO (m i) (o i) (k i)<|hs _,aKZ l n p⟩
def gA:MF K X [] dP:=⟨_,fun _=>aDG,aLi⟩
def EI(x:MT K X c ft):MF K X [c] ft:=by
 obtain⟨t,d,j⟩:=x.ex;exact⟨_,fun i=>aEn<|d i,j⟩
abbrev LcI(ι:Type):Type:=ι×Uf×Ue×Hp×Td×T3
def jD(X:ι->Cx)(N':Te)(scope:Scope):LcI ι->Cx:=fun j=>bO (X j.1) N' scope j.2.1 j.2.2.1 j.2.2.2.1 j.2.2.2.2.1 j.2.2.2.2.2
variable{N':Te}{cap:T4}{scope:Scope}{tg iter elt:Ug}{ifs:Tb}{gf:GF}
def nD(d:∀i,(X i).calm=true)(S:∀i,nI (X i) N' cap scope)(x:MI K X tg iter fa)(y:MG K (jD X N' scope) tg gf)(z:MF K (jD X N' scope) ifs ft)(w:ME K (jD X N' scope) elt f)(hs:∀(env:Env)(x:Uc),foldedSetIterable iter env x=pure x:=by intro _ _;rfl):
 ME K X (.ListComp elt [⟨tg,iter,ifs,0⟩] scope pos) (fLc cap fa gf ft f):=by
 obtain⟨t,j,k⟩:=x.ex;obtain⟨u,l,m⟩:=y.ex;obtain⟨v,n,p⟩:=z.ex;obtain⟨o,q,r⟩:=w.ex;exact⟨_,fun i=>aNA (d i) (S i) (j i) (fun C s H fp pn=>l (i,C,s,H,fp,pn)) (fun C s H fp pn=>n (i,C,s,H,fp,pn)) (fun C s H fp pn=>q (i,C,s,H,fp,pn))<|hs _,aMH k m p r⟩
def sT(i:Nat){k:Str}{d:Pos}(n:∀j,(X j).N.Nodup)(p:∀i,(X i).calm=true)(S:∀i,nI (X i) N' cap scope)(x:MI K X tg iter fa)(y:MG K (jD X N' scope) tg gf)(z:MF K (jD X N' scope) ifs ft)(w:ME K (jD X N' scope) elt f)
 (l:∀j,(X j).N[i]?=Z k:=by intro _;rfl) (m:∀j,swapsWith (.ListComp elt [⟨tg,iter,ifs,0⟩] scope pos) (Z (.Name k pos')) d.line (X j).env=pure true:=by intro _;rfl) (q:∀j,(X j).env.scope.names.lookup k=Z .local:=by intro _;rfl) (hs:∀(env:Env)(x:Uc),foldedSetIterable iter env x=pure x:=by intro _ _;rfl):
 MS K X (.Assign [.Name k pos'] (.ListComp elt [⟨tg,iter,ifs,0⟩] scope pos) d) (aW (JC cap fa gf ft f)<|hName i):=by
 obtain⟨t,r,A⟩:=x.ex;obtain⟨u,B,D⟩:=y.ex;obtain⟨v,E,G⟩:=z.ex;obtain⟨o,I,J⟩:=w.ex;exact⟨_,fun j=>aAO (n j) (l j) (p j) (S j) (r j) (fun C s H fp pn=>B (j,C,s,H,fp,pn)) (fun C s H fp pn=>E (j,C,s,H,fp,pn)) (fun C s H fp pn=>I (j,C,s,H,fp,pn)) (m j) (q j)<|hs _,KZ (aLy A D G J) AK⟩
variable{st:Stmt}{sts:Tc}{sf sg:SF}
def cK:ML K X [] cS:=⟨_,fun _=>aFo,aEM⟩
def aN(x:MS K X st sf):ML K X [st] sf:=by
 obtain⟨t,d,j⟩:=x.ex;exact⟨_,fun i=>VG<|d i,j⟩
def aJ(x:MS K X st sf)(y:ML K X sts sg):ML K X (st::sts) (aY sf sg):=by
 obtain⟨t,d,j⟩:=x.ex;obtain⟨u,k,l⟩:=y.ex;exact⟨_,fun i=>MP (d i)<|k i,aLM j l⟩
def bD(x:ME K X e f):MS K X (.Return (Z e) pos) (cQ f):=by
 obtain⟨t,d,j⟩:=x.ex;exact⟨_,fun i=>aJQ<|d i,aIW j⟩
def KQ:SF:=fun _ _=>Y
def DT:MS K X st KQ:=⟨aBo,fun _=>aBh,fun _ _ _ _ h=>by cases h⟩
def fU(x:ME K X e f)(hs:∀i,swapsWith e Y pos.line (X i).env=pure false:=by intro _;rfl):MS K X (.Expr e pos) (eA f):=by
 obtain⟨t,d,j⟩:=x.ex;exact⟨_,fun i=>WQ (d i)<|hs i,aFa j⟩
def dE(x:MT K X c ft)(y:ML K X sts sf)(z:ML K X d sg):MS K X (.If c sts d pos) (sIf ft sf sg):=by
 obtain⟨t,j,k⟩:=x.ex;obtain⟨u,l,m⟩:=y.ex;obtain⟨v,n,o⟩:=z.ex;exact⟨_,fun i=>aIJ (j i) (l i)<|n i,aNe k m o⟩
def vT(d:∀i,PassesOwn (model (X i).prog (X i).w) (X i).A (X i).env (X i).xe)(x:MT K X c ft)(y:ML K X sts sf):MS K X (.While c sts [] pos) (pJ ft sf):=by
 obtain⟨t,j,k⟩:=x.ex;obtain⟨u,l,m⟩:=y.ex;exact⟨_,fun i=>aDN (d i) (j i)<|l i,aCM k m⟩
def iK(d:∀i,PassesOwn (model (X i).prog (X i).w) (X i).A (X i).env (X i).xe)(j:∀i,(X i).calm=true)(x:MI K X tg iter fa)(y:MG K X tg gf)(z:ML K X sts sf)(hs:∀(env:Env)(x:Uc),foldedSetIterable iter env x=pure x:=by intro _ _;rfl):MS K X (.For tg iter sts [] pos) (nM fa gf sf):=by
 obtain⟨t,k,l⟩:=x.ex;obtain⟨u,m,n⟩:=y.ex;obtain⟨v,o,p⟩:=z.ex;exact⟨_,fun i=>aKT (d i) (j i) (k i) (m i) (o i)<|hs _,aMt l n p⟩
def bB(i:Nat){d:Str}(k:∀j,(X j).N.Nodup)(x:ME K X e f)(hi:∀j,(X j).N[i]?=Z d:=by intro _;rfl)(l:∀j,Loc (X j).env.scope d:=by intro _;first|exact Or.inl rfl|exact Or.inr rfl)(hs:∀j,swapsWith e (Z (.Name d pos')) pos.line (X j).env=pure false:=by intro _;rfl)
 (m:∀j,(X j).fn d=true\/(X j).env.scope.names.lookup d=Z .local:=by intro _;first|exact .inl rfl|exact .inr rfl):MS K X (.Assign [.Name d pos'] e pos) (aW f<|hName i):=by
 obtain⟨t,n,o⟩:=x.ex;exact⟨_,fun j=>aMk (k j) (hi j) (l j) (n j) (hs j)<|m j,KZ o AK⟩
def TV(i j:Nat){l m:Str}{p q:Nat}(s:∀j,(X j).calm=true)(u:∀j,(X j).N.Nodup)(x:MA K X [a,b] fa)(r:i≠j:=by decide)(hi:∀k,(X k).N[i]?=Z l:=by intro _;rfl)(v:∀k,(X k).N[j]?=Z m:=by intro _;rfl)(w:∀k,(X k).env.scope.names.lookup l=Z .local:=by intro _;rfl)(y:∀k,(X k).env.scope.names.lookup m=Z .local:=by intro _;rfl)
 (z:∀k,swappedStores [.Tuple [.Name l n,.Name m o] p pt] (.Tuple [a,b] q d) (X k).env=pure (Z [l,m]):=by intro _;rfl) (A:∀k,swapsWithSole [.Tuple [.Name l n,.Name m o] p pt] (.Tuple [a,b] q d) pos.line (X k).env=pure false:=by intro _;rfl):
 MS K X (.Assign [.Tuple [.Name l n,.Name m o] p pt] (.Tuple [a,b] q d) pos) (QG i j fa):=by
 obtain⟨t,B,C⟩:=x.ex;exact⟨_,fun k=>aKL (s k) (u k) (hi k) (v k) r (w k) (y k) (B k) (z k)<|A k,aJI C⟩
def JA(x:ME K X e f)(y:MG K X tg gf)(d:∀k,swapsWithSole [tg] e pos.line (X k).env=pure false:=by intro _;rfl)(i:∀k,swappedStores [tg] e (X k).env=pure Y:=by intro _;rfl)(j:∀env:Env,(assignEach [tg] env).map (·.2)=[assign tg env]:=by intro _;rfl):MS K X (.Assign [tg] e pos) (aW f gf):=by
 obtain⟨t,l,m⟩:=x.ex;obtain⟨u,n,o⟩:=y.ex;exact⟨_,fun k=>aKD (l k) (n k) (d k) (i k)<|j _,KZ m o⟩
def dA(d:∀i,(X i).K=K:=by intro _;rfl):Q2 K X (binaryOp .Add) dU:=⟨_,fun i=>aPk<|d i,aEJ⟩
def GZ:Q2 K X (binaryOp .Sub) KR:=⟨_,fun _=>aJi,aJo⟩
def ID:Q2 K X (binaryOp .Mult) IZ:=⟨_,fun _=>aGx,aKl⟩
def kO:Q2 K X (binaryOp .FloorDiv) iV:=⟨_,fun _=>aDD,aGn⟩
def cL:Q2 K X (binaryOp .Mod) dC:=⟨_,fun _=>aJA,aMA⟩
def aBe:Q2 K X (binaryOp .Pow) ZA:=⟨_,fun _=>aLQ,aMz⟩
def lR:Q1 K X (unaryOp .USub) aAr:=⟨_,fun _=>aKm,aMj⟩
def zT:Q2 K X (compareOp .Lt) ltI:=⟨_,fun _=>aOB,aNU⟩
def aHF:Q2 K X (compareOp .LtE) leI:=⟨_,fun _=>aMI,aOY⟩
def aAf:Q2 K X (compareOp .Gt) gtI:=⟨_,fun _=>aNE,aOS⟩
def aOE:Q2 K X (compareOp .GtE) geI:=⟨_,fun _=>aNQ,aNl⟩
def qB(d:∀i,(X i).K=K)(j:∀i,(X i).A.units+64<cLine):Q2 K X (compareOp .Eq) (eqX false):=⟨_,fun i=>kEq (d i)<|j i,aBl⟩
def JF(d:∀i,(X i).K=K)(j:∀i,(X i).A.units+64<cLine):Q2 K X (compareOp .NotEq) (eqX true):=⟨_,fun i=>kNe (d i)<|j i,aJh⟩
def aPb(d:∀i,(X i).K=K)(j:∀i,(X i).A.in1.units+64<cLine):Q2 K X (compareOp .In) (inD false):=⟨_,fun i=>kIn (d i)<|j i,aMN⟩
def dM(d:∀i,(X i).K=K:=by intro _;rfl):QI K X ixF:=⟨_,fun i=>kIx<|d i,aLK⟩
def qP(d:∀i,(X i).K=K:=by intro _;rfl):QN K X (.builtin "len") iE:=⟨_,fun i=>aPf<|d i,aEE⟩
def AE(d:∀i,(X i).K=K):QN K X (.type "tuple") kX:=⟨_,fun i=>aJz<|d i,ZU⟩
def XT(d:∀i,(X i).K=K)(j:∀i,(X i).calm=true):QN K X (.builtin "all") FI:=⟨_,fun i=>aPh (d i)<|j i,aHf⟩
def aHY:QS K X OD:=⟨_,fun _=>set_list,aLu⟩
end
section
variable{P:Uh}{w:World}{K:Fg}{mg:Str->Ti}
def Def.okG{st:Stmt}{ps:Te}{b:SF}{q:Bool}(D:Def K mg x st)(S:aU N ps (aH st))
 (c:∀(kV doc pm:Uc)(an:Tk)(cdv ct:Uc)(us:T6),us.length=ps.length->bindArgs (PySem.W.fnOf x x (dH st) (bP st) (aH st) .none kV doc pm an cdv ct) ⟨us,[]⟩=pure (ps.zip us))
 (a:∀(f:Uf)(cdv:Uc)(A:Ui)(outer:Ua Env)(s:Ue)(H:Hp)(E:XK),cE k (A.deeper<|envOfC x (aH st) s.heap.objs.size f cdv) q->
  ML K (fun _:Unit=>(lM CX0 P w K mg base N x (aH st) f cdv A outer s H E q).nox) (bP st) b):Callee P w K mg base (k+1) x ps (spM K (fnF ps.length N.length b)) q:=
 D.okM S c fun f cdv A outer s H E d=>by
  obtain⟨t,e,g⟩:=(a f cdv A outer s H E d).ex;exact⟨t,e (),g⟩
def Def.okLG{p:Str}{st:Stmt}{F:FN}(D:Def K mg x st)(S:aU N [p] (aH st))(c:F=fnF 1 N.length b)
 (d:∀(kV doc pm:Uc)(an:Tk)(cdv ct:Uc)(us:T6),us.length=[p].length->bindArgs (PySem.W.fnOf x x (dH st) (bP st) (aH st) .none kV doc pm an cdv ct) ⟨us,[]⟩=pure ([p].zip us))
 (a:∀(base:Heap)(f:Uf)(cdv:Uc)(A:Ui)(outer:Ua Env)(s:Ue)(H:Hp)(E:XK),cE k (A.deeper<|envOfC x (aH st) s.heap.objs.size f cdv)->
  ML K (fun _:Unit=>(lM CX0 P w K mg base N x (aH st) f cdv A outer s H E).nox) (bP st) b):
 ∃f fd,mg x=Z (.ref f)/\(∀(s:Ue)(u:Uc),BindsTo s fd ⟨[u],[]⟩ [(p,u)])/\∀base,jH P w K mg base CX0 (k+1) f fd [p] (spM K F):=
 D.okL S c d fun base f cdv A outer s H E e=>by
  obtain⟨t,g,h⟩:=(a base f cdv A outer s H E e).ex;exact⟨t,g (),h⟩
end
end L2
namespace HT
open PySem PyProof.Rows PySem.Spec
section
variable{prog:Uh}{w:World}{A:Ui}{E:T2}{s:Ue}
def getItem_tuple_whole{lo:To}{Q:T2}(ht:IsTup s.heap t items)(hs:s.heap.IsSliceOf sl vl e .none)(g:IsPart vl lo)(i:IsPart e hi)
 (f:sIx items.size 0 lo=0/\sIx items.size items.size hi=items.size) (h:Q (.ref t) s):wpAny (model prog w) A (getItem (.ref t) (.ref sl)) Q E s:=by
 obtain⟨os,b,c,j⟩:=id hs;have d:s.TypeIs (.ref sl) "slice":=⟨os,b,c⟩;unfold getItem
 try with_reducible refine J8 ?_
 first|refine A0 (A3 ?_)|skip
 refine A0<|wpAny_sequenceKey ht.typeIs 52 ?_
 refine A0 (S8 ht.typeIs U9
  (S9 U9 ht.typeIs entry_tuple_getitem ?_ (args_tuple_getitem _ _)))
 show wpAny _ _ (Builtin.Tuple.tupleItemsOf (.ref t) >>= _) _ _ s;refine A0<|tupleItemsOf_ ht ?_;refine A0<|A1a d ?_;refine A0<|nK hs g i ?_
 have a:(((sIx items.size 0 lo:Nat):Int)==0&&(1:Int)==1&&(sIx items.size items.size hi-sIx items.size 0 lo)==items.size)=true:=by
  rw[f.1,f.2];simp
 show wpAny _ _ (if (((sIx items.size 0 lo:Nat):Int)==0&&(1:Int)==1&&(sIx items.size items.size hi-sIx items.size 0 lo)==items.size)=true then _ else _) _ _ s;rw[A7 a];refine A0 ?_;refine A0<|A1a ht.typeIs<|A3 ?_;exact A0<|A2e<|A3 ⟨_,rfl,A3 h⟩
end
end HT
namespace L2
variable{W:Wd}{M:Sto}{H:Hp}{K:Fg}{apos cpos pos:Pos}
open PySem PySem.Spec PyProof.Rows
def aOG(K:Fg):V->To->To->Hp->VK->Prop:=fun x lo hi H Q=>∃a xs,x=.ref a/\SqT K H a xs/\(HT.sIx xs.length 0 lo=0/\HT.sIx xs.length xs.length hi=xs.length)/\Q (.ref a) H
def aBU:SlR X (aOG X.K):=by
 intro pins s i H x v vl j lo hi sl Q I d hs e f h;obtain⟨a,xs,rfl,g,k,q⟩:=h;cases d;obtain⟨b,r,ht,l⟩:=I.tuple g;have c:b.toArray.size=xs.length:=by rw[F4];exact r.length.symm
 refine⟨"tuple",_,PyProof.Rows.slot_tuple_getitem.lookup,ht.typeIs,?_⟩;exact HT.getItem_tuple_whole ht hs e f 54 ⟨.ref a,H,I,rfl,q⟩
def gP{a:Type}(xs:Ua a)(lo hi:To):Ua a:=(xs.drop<|HT.sIx xs.length 0 lo).take (HT.sIx xs.length xs.length hi-HT.sIx xs.length 0 lo)
abbrev OF:=Ga->Sto->Ub (To×Sto)
def bF:OF:=fun _ M=>Z (Y,M)
def asI:CD->To
 |.d (.int i)=>Z i
 |_=>Y
def cR(f:EF):OF:=fun a M=>(f a M).bind fun r=>(asI r.1).bind fun i=>Z (Z i,r.2)
def slF(x:CD)(lo hi:To)(M:Sto):Ub (CD×Sto):=match x with
 |.d (.list ds)=>Z (.d (.list (gP ds lo hi)),M)
 |.d (.tuple ds)=>Z (.d (.tuple (gP ds lo hi)),M)
 |.c i=>match M[i]? with
  |some (.lst xs)=>(jL<|gP xs lo hi).bind fun ds=>Z (.d (.list ds),M)
  |_=>Y
 |_=>Y
def fSl(f:EF)(l u:OF):EF:=fun a M=>(f a M).bind fun r=>(l a r.2).bind fun p=>(u a p.2).bind fun q=>slF r.1 p.1 q.1 q.2
def aLd(K:Fg):V->To->To->Hp->VK->Prop:=fun x lo hi H Q=>aNG K x lo hi H Q\/aOo K x lo hi H Q\/aOG K x lo hi H Q
def kSl{X:Cx}(h:X.K=K):SlR X (aLd K):=by subst h;exact sl_list.or<|sl_tup.or aBU
section
variable{K:Fg}
def SO(K:Fg)(t:TO)(f:OF):Prop:=∀a M b M',f a M=Z (b,M')->∀(W:Wd)(H:Hp)(c:St)(Q:To->Hp->Prop),Good K W M H->cF K W a c->(∀W' H',W.Ext W'->Good K W' M' H'->Q b H')->t c H Q
def aFY:SO K XI bF:=by
 intro b M x M' a W H c Q G R k;cases a;exact k W H (.refl _) G
def aMu{i:Int}(h:asI x=Z i):x=.d (.int i):=by
 cases x with
 |c n=>cases h
 |t n=>cases h
 |f n=>cases h
 |g _=>cases h
 |d x=>cases x<;>first|cases h;rfl|cases h
def aEX{c:TE}{f:EF}(a:SE K c f):SO K (aIi c) (cR f):=by
 intro p M x M' b W H d Q G R k;obtain⟨⟨y,M1⟩,e,b⟩:=aI b;obtain⟨i,g,b⟩:=aI b;cases b;refine a _ _ _ _ e W H d _ G R fun v h j l m n=>?_;have o:=aMu g;subst o;exact⟨i,n,k h j l m⟩
theorem aM.drop{H:Hp}:∀{ds:T5}{vs:Tf}(n:Nat),aM K H ds vs->aM K H (ds.drop n) (vs.drop n)
 |_,_,0=>fun h=>h
 |[],vs,n+1=>fun h=>by rw[show vs=[]from h];rfl
 |d::ds,vs,n+1=>fun h=>by
  obtain⟨v,r,rfl,_,a⟩:=h;exact aM.drop n a
theorem aM.take{H:Hp}:∀{ds:T5}{vs:Tf}(n:Nat),aM K H ds vs->aM K H (ds.take n) (vs.take n)
 |_,_,0=>fun h=>rfl
 |[],vs,n+1=>fun h=>by rw[show vs=[]from h];rfl
 |d::ds,vs,n+1=>fun h=>by
  obtain⟨v,r,rfl,a,b⟩:=h;exact⟨v,r.take n,rfl,a,aM.take n b⟩
def aM.cut(h:aM K H ds vs)(lo hi:To):aM K H (gP ds lo hi) (NU vs lo hi):=by
 unfold gP NU;rw[h.length];exact(h.drop _).take _
theorem BV{a b:Type}{R:a->b->Prop}:∀{xs:Ua a}{ys:Ua b}(n:Nat),Paired R xs ys->Paired R (xs.drop n) (ys.drop n)
 |_,_,0,h=>h
 |_,_,_+1,.nil=>.nil
 |_,_,n+1,.cons _ t=>BV n t
theorem uJ{a b:Type}{R:a->b->Prop}:∀{xs:Ua a}{ys:Ua b}(n:Nat),Paired R xs ys->Paired R (xs.take n) (ys.take n)
 |_,_,0,h=>.nil
 |_,_,_+1,.nil=>.nil
 |_,_,n+1,.cons r t=>.cons r (uJ n t)
def aAw{xs:T8}{vs:Tf}(h:bR K W xs vs)(lo hi:To):bR K W (gP xs lo hi) (NU vs lo hi):=by
 unfold gP NU;rw[Paired.len h];exact uJ _<|BV _ h
def aBJ{x:CD}{lo hi:To}{z:CD}{M':Sto}(h:slF x lo hi M=Z (z,M')){v:V}{Q:VK}(G:Good K W M H)(g:bW K W x v)(k:∀w W' H',W.Ext W'->Good K W' M' H'->bW K W' z w->Q w H'):aLd K v lo hi H Q:=by
 unfold slF at h;split at h
 .rename_i ds;cases h;obtain⟨p,us,rfl,c,a⟩:=g;refine .inl ⟨p,us,rfl,G.fh.seq c,fun l d=>?_⟩;obtain⟨b,G2⟩:=G.lay d;exact k _ _ _ b G2 ⟨l,_,rfl,SqL.of aT,aM.same b.ff _ _<|a.cut lo hi⟩
 .rename_i ds;cases h;obtain⟨p,us,rfl,c,a⟩:=g;by_cases f:HT.sIx us.length 0 lo=0/\HT.sIx us.length us.length hi=us.length
  .refine .inr (.inr ⟨p,us,rfl,G.fh.seqT c,f,?_⟩)
   have e:gP ds lo hi=ds:=by
    unfold gP;rw[a.length,f.1,f.2,<- a.length];simp
   rw[e]at k;exact k _ W H (.refl _) G ⟨p,us,rfl,c,a⟩
  .refine .inr (.inl ⟨p,us,rfl,G.fh.seqT c,f,fun l d=>?_⟩);obtain⟨b,G2⟩:=G.lay d;exact k _ _ _ b G2 ⟨l,_,rfl,SqT.of aT,aM.same b.ff _ _<|a.cut lo hi⟩
 .rename_i i;split at h
  .rename_i xs j;obtain⟨ds,m,h⟩:=aI h;cases h;obtain⟨us,n,a⟩:=G.lstAt j;rw[g.2];refine .inl ⟨_,us,rfl,SqL.of n,fun l d=>?_⟩;obtain⟨b,G2⟩:=G.lay d;exact k _ _ _ b G2 ⟨l,_,rfl,SqL.of aT,aM.same b.ff _ _<|fG m<|aAw a lo hi⟩
  .cases h
 .cases h
def aNM{i:TE}{f:EF}{j m:TO}{l u:OF}(a:SE K i f)(b:SO K j l)(c:SO K m u):SE K (tSl (aLd K) i j m) (fSl f l u):=by
 intro O M x M' d W H e Q G R k;obtain⟨⟨y,M1⟩,o,d⟩:=aI d;obtain⟨⟨p,M2⟩,r,d⟩:=aI d;obtain⟨⟨q,P⟩,s,d⟩:=aI d;refine a _ _ _ _ o W H e _ G R fun v t z g A B=>?_;refine b _ _ _ _ r t z e _ A (R.up g) fun C D h G2=>?_;refine c _ _ _ _ s C D e _ G2 (R.up<|g.trans h) fun S T n E=>?_;exact aBJ d E (B.up<|h.trans n) fun w F I J L N=>k w F I (((g.trans h).trans n).trans J) L N
def intF:FN:=fun xs M=>match xs with
 |[.d (.int i)]=>Z (.d (.int i),M)
 |[.d (.bool b)]=>Z (.d (.int (if b then 1 else 0)),M)
 |_=>Y
noncomputable def tyB(T:String)(M:Sto):CD->Bool
 |.d (.list _)=>T=="list"
 |.d (.str _)=>T=="str"
 |.c i=>match M[i]? with
  |some (.lst _)=>T=="list"
  |some (.dk _)=>T=="dict"
  |some (.dt _)=>T=="dict"
  |_=>false
 |_=>false
def aAK(h:tyB T M x=true)(G:Good K W M H)(r:bW K W x v):tyV K T v H:=by
 unfold tyB at h;split at h
 .rename_i ds;obtain⟨p,us,rfl,d,e⟩:=r;exact .inl ⟨eq_of_beq h,us,G.fh.seq d⟩
 .rename_i x;rw[show v=.str x from r];exact eq_of_beq h
 .rename_i i;rw[r.2];split at h
  .rename_i xs a;obtain⟨us,f,e⟩:=G.lstAt a;exact .inl ⟨eq_of_beq h,us,SqL.of f⟩
  .rename_i kvs a;obtain⟨_,o,b,c⟩:=G.cs i _ a 53;cases o with
   |dK us=>exact .inr (.inr (.inl ⟨eq_of_beq h,.inl ⟨us,b⟩⟩))
   |_=>exact False.elim c
  .rename_i kvs a;obtain⟨_,o,b,c⟩:=G.cs i _ a 53;cases o with
   |dT us=>exact .inr (.inr (.inl ⟨eq_of_beq h,.inr ⟨us,b⟩⟩))
   |_=>exact False.elim c
  .cases h
 .cases h
abbrev FM:=CD->T8->Sto->Ub (CD×Sto)
def cZ(T:String)(h:FM)(f:EF)(fa:AF):EF:=fun a M=>(f a M).bind fun r=>if tyB T r.2 r.1=true then(fa a r.2).bind fun q=>h r.1 q.1 q.2 else Y
def PM(K:Fg)(r:V->Tf->Hp->VK->Prop)(f:FM):Prop:=∀x xs M z M',f x xs M=Z (z,M')->∀(W:Wd)(H:Hp)(v:V)(vs:Tf)(Q:VK),Good K W M H->bW K W x v->bR K W xs vs->(∀w W' H',W.Ext W'->Good K W' M' H'->bW K W' z w->Q w H')->r v vs H Q
def WZ{T:String}{r:V->Tf->Hp->VK->Prop}{h:FM}{d:TE}{f:EF}{e:TA}{fa:AF}(p:PM K r h)(a:SE K d f)(b:SA K e fa):SE K (tBM K T r d e) (cZ T h f fa):=by
 intro F M x M' c W H g Q G R k;obtain⟨⟨y,M1⟩,n,c⟩:=aI c;by_cases hT:tyB T M1 y=true
 .have c:=c;rw[A7 hT]at c;obtain⟨⟨I,M2⟩,o,c⟩:=aI c;refine a _ _ _ _ n W H g _ G R fun v q s i j l=>⟨aAK hT j l,?_⟩;refine b _ _ _ _ o q s g _ j (R.up i) fun vs t u m G2 z=>?_;exact p _ _ _ _ _ c t u v vs Q G2 (l.up m) z fun w A B C D E=>k w A B ((i.trans m).trans C) D E
 .have c:=c;rw[B7 hT]at c;cases c
def PY{T:String}{r:V->Tf->Hp->VK->Prop}{h:FM}{c:TE}{f:EF}(p:PM K r h)(a:SE K c f):SE K (aOr K T r c) (cZ T h f aO):=by
 intro u M x M' b W H g Q G R k;obtain⟨⟨y,M1⟩,i,b⟩:=aI b;by_cases hT:tyB T M1 y=true
 .rw[A7 hT]at b;refine a _ _ _ _ i W H g _ G R fun v j l m d e=>⟨aAK hT d e,?_⟩;exact p _ _ _ _ _ b j l v [] Q d e .nil fun w n o q s t=>k w n o (m.trans q) s t
 .rw[B7 hT]at b;cases b
def cU:FM:=fun x a M=>match x,a with
 |.c i,[y]=>match M[i]? with
  |some (.lst xs)=>if xs.length<sizeLine then Z (.d .none,M.set i (.lst (xs++[y])))else Y
  |_=>Y
 |_,_=>Y
def YO:PM K WN cU:=by
 intro x g M z M' h W H v vs Q G d rs k;unfold cU at h;split at h
 .rename_i i y;split at h
  .rename_i xs b;by_cases a:xs.length<sizeLine
   .rw[A7 a]at h;cases h;obtain⟨us,e,c⟩:=G.lstAt b;rcases rs with _|⟨f,_|_⟩;refine⟨W.α i,us,_,d.2,rfl,e,by rw[<- Paired.len c];exact a,?_⟩;exact k _ W _ (.refl _) (G.set b 53<|Paired.app c (.cons f .nil)) rfl
   .rw[B7 a]at h;cases h
  .cases h
 .cases h
def CK:FM:=fun x a M=>match x,a with
 |.c i,[]=>match M[i]? with
  |some (.lst xs)=>(xs[xs.length-1]?).bind fun y=>Z (y,M.set i (.lst xs.dropLast))
  |_=>Y
 |_,_=>Y
def DV{a b:Type}{R:a->b->Prop}{xs:Ua a}{ys:Ua b}(h:Paired R xs ys):Paired R xs.dropLast ys.dropLast:=by
 rw[List.dropLast_eq_take,List.dropLast_eq_take,Paired.len h];exact uJ _ h
def aLW:PM K aOe CK:=by
 intro x j M z M' h W H v vs Q G c rs k;unfold CK at h;split at h
 .rename_i i;split at h
  .rename_i xs b;obtain⟨y,d,h⟩:=aI h;cases h;obtain⟨us,e,a⟩:=G.lstAt b;obtain⟨u,f,g⟩:=Paired.get a d;cases rs;refine⟨W.α i,us,u,c.2,rfl,e,by rw[<- Paired.len a];exact f,?_⟩;exact k _ W _ (.refl _) (G.set b 53<|DV a) g
  .cases h
 .cases h
end
section
variable{ι:Type}{K:Fg}{X:ι->Cx}{a b c e o:Ug}{es:Tb}{f g h:EF}{fa:AF}{pos:Pos}
structure MO(K:Fg)(X:ι->Cx)(e:Ub Ug)(f:OF):Prop where
 ex:∃t,(∀i,PO (X i) e t)/\SO K t f
def cV:MO K X Y bF:=⟨_,fun _=>aGb,aFY⟩
def cB(x:ME K X e f):MO K X (Z e) (cR f):=by
 obtain⟨t,d,j⟩:=x.ex;exact⟨_,fun i=>aGB<|d i,aEX j⟩
def gH{lo:Ub Ug}(d:∀i,(X i).K=K)(x:ME K X a f)(y:MO K X lo l)(z:MO K X hi u):ME K X (.Subscript a (.Slice lo hi Y p2) pos) (fSl f l u):=by
 obtain⟨t,j,k⟩:=x.ex;obtain⟨s,m,n⟩:=y.ex;obtain⟨p,q,r⟩:=z.ex;exact⟨_,fun i=>aCD (kSl<|d i) (j i) (m i)<|q i,aNM k n r⟩
def eC(d:∀i,(X i).K=K)(x:ME K X o f)(y:MA K X [e] fa)(j:∀env:Env,attributeBase o "append" env (eval o env)=eval o env:=by intro _;rfl)(k:(apos.endLine==cpos.line)=true:=by rfl):
 ME K X (.Call (.Attribute o "append" apos) [e] [] cpos) (cZ "list" cU f fa):=by
 obtain⟨t,l,m⟩:=x.ex;obtain⟨u,n,p⟩:=y.ex;refine⟨_,fun i=>?_,WZ YO m p⟩;have:=aIF A1j F.slot_list_append F.type_list_append aAa (l i) (n i) (j _) (by rw[y.st.1];rfl) k (y.st.1 _)<|y.st.2.plain _ _;rw[d i]at this;exact this
def fI(d:∀i,(X i).K=K)(x:ME K X o f)(j:∀env:Env,attributeBase o "pop" env (eval o env)=eval o env:=by intro _;rfl)(k:(apos.endLine==cpos.line)=true:=by rfl):
 ME K X (.Call (.Attribute o "pop" apos) [] [] cpos) (cZ "list" CK f aO):=by
 obtain⟨t,l,m⟩:=x.ex;refine⟨_,fun i=>?_,PY aLW m⟩;have:=aBF A1j F.slot_list_pop F.type_list_pop aKx (l i) (j _) k;rw[d i]at this;exact this
end
def aIN(K:Fg):Tf->Hp->VK->Prop:=fun xs H Q=>∃x d,xs=[x]/\Rep K H d x/\d.showable=true/\d.depth<=64/\d.shown.length<=sizeLine/\Q (.str d.shown) H
def aNK{X:Cx}(g:X.K=K)(j:X.A.guards=Z [])(n:X.A.units+200<cLine):fP X (.builtin "repr") (aIN K):=by
 subst g;intro pins s k H xs us Q I r h;obtain⟨x,d,rfl,hd,hs,o,f,q⟩:=h;obtain⟨u,rfl,c⟩:=vals1 r
 have big:∀a,u=.ref a->wpAny (model X.prog X.w) X.A (call (.builtin "repr") [u]) (EP X pins k Q) X.xe s:=fun a e=>by
  subst e;obtain⟨as,l,hn⟩:=Rep.reads' I d x _ hd c;exact repr_of_reads' l hs (fun _=>hn) j 50 (fun _ _ e=>e) (fun h' p tk m=>⟨.str d.shown,H,I.kept m,⟨_,rfl⟩,q⟩) f
 cases d with
 |none=>
  rw[show x=.non from hd]at c;cases c;exact PySem.P.repr_of_none ⟨.str _,H,I.tok _,⟨_,rfl⟩,q⟩
 |bool b=>
  rw[show x=.bl b from hd]at c;cases c;refine PySem.P.repr_of_bool ⟨.str _,H,I.tok _,⟨_,rfl⟩,?_⟩;cases b<;>exact q
 |int i=>
  rw[show x=.int i from hd]at c;obtain⟨t,rfl⟩:=c;exact PySem.P.repr_of_int (D7 hs) ⟨.str _,H,I.tok _,⟨_,rfl⟩,q⟩
 |str y=>
  rw[show x=.str y from hd]at c;obtain⟨t,rfl⟩:=c;exact PySem.P.repr_of_str ⟨.str _,H,I.tok _,⟨_,rfl⟩,q⟩ f
 |list ds=>obtain⟨a,vs,e,_,_⟩:=hd;subst e;exact big a c
 |tuple ds=>obtain⟨a,vs,e,_,_⟩:=hd;subst e;exact big a c
 |dict ds=>obtain⟨a,vs,e,_,_⟩:=hd;subst e;exact big a c
def sV(d:Ud):Bool:=d.showable&&decide (d.depth<=64)&&decide (d.shown.length<=sizeLine)
def WG:FN:=fun xs M=>match xs with
 |[.d x]=>if sV x=true then Z (.d (.str x.shown),M)else Y
 |_=>Y
def cE.u200(r:cE k A):A.units+200<cLine:=by have:=r.un;omega
def Def.okNone{P:Uh}{st:Stmt}{ps:Te}{k:Nat}(D:Def K mg x st)(S:aU N ps (aH st))
 (b:∀(kV doc pm:Uc)(an:Tk)(cdv ct:Uc)(us:T6),us.length=ps.length->bindArgs (PySem.W.fnOf x x (dH st) (bP st) (aH st) .none kV doc pm an cdv ct) ⟨us,[]⟩=pure (ps.zip us)):
 Callee P w K mg base (k+1) x ps (spM K fun _ _=>Y):=by
 refine D.ok S b (fun vs H Q E h=>?_) fun f cdv A outer s H vs Q E c h=>?_
 .obtain⟨xs,M,W,y,M',G,R,a,_⟩:=h;cases a
 .obtain⟨xs,M,W,y,M',G,R,a,_⟩:=h;cases a
def Good.freeze(g:Good K W M H){i:Nat}{c:Cell}{o':HO}(hi:M[i]?=Z c)(l:c≠.dead):
 W.Ext { W with F:=upd W.F (W.α i) o' }/\Good K { W with F:=upd W.F (W.α i) o' } (M.set i .dead) (upd H (W.α i) o'):=by
 obtain⟨w,o,m,p⟩:=g.cs i c hi l;have lt:=(B3.mp hi).1;have e:W.Ext { W with F:=upd W.F (W.α i) o' }:=⟨iC.upd w,A8 _,fun _ _=>rfl⟩
 have at_:∀j d,(M.set i .dead)[j]?=Z d->d≠.dead->j≠i/\M[j]?=Z d:=fun j d h hd=>by
  by_cases q:i=j
  .subst q;rw[E2 lt]at h;exact absurd (F0 h).symm hd
  .rw[E1 q]at h;exact⟨fun z=>q z.symm,h⟩
 refine⟨e,?_,by show W.n=_;rw[g.n,U2],fun j d f hd=>?_,fun j k r s f x t v y=>?_,(g.tb.updF fun ps z=>p.nt.1 ps<|F0<|m.symm.trans z).cell m p⟩
 .intro b u a;have a:upd W.F (W.α i) o' b=Z u:=a;by_cases q:b=W.α i
  .subst q;rw[aT]at a;rw[aT];exact a
  .rw[aL q]at a;rw[aL q];exact g.fh b u a
 .obtain⟨q,h⟩:=at_ j d f hd;obtain⟨A,u,B,C⟩:=g.cs j d h hd;have ne:=fun z=>q<|g.inj j i d c h hi hd l z;exact⟨by show upd W.F (W.α i) o' (W.α j)=Y;rw[aL ne];exact A,u,by rw[aL ne];exact B,C.up e⟩
 .exact g.inj j k r s (at_ j r f t).2 (at_ k s x v).2 t v y
def CM:EF:=fun _ M=>Z (.d (.dict []),M)
def aBO:SE K TQ CM:=by
 intro d M x M' a W H e Q G R k;cases a;intro p b;obtain⟨c,G2⟩:=G.lay b;exact k _ _ _ c G2 ⟨p,[],rfl,aT,rfl⟩
def JT:Ua (EF×EF)->Ga->Sto->Ub (Ua (CD×CD)×Sto)
 |[],_,M=>Z ([],M)
 |(f,g)::r,c,M=>(f c M).bind fun a=>(g c a.2).bind fun b=>(JT r c b.2).bind fun q=>Z ((a.1,b.1)::q.1,q.2)
def keyOf:CD->Ub Key
 |.d (.int i)=>Z (.inl i)
 |.d (.str x)=>Z (.inr x)
 |_=>Y
def keyed:Ua (CD×CD)->Ub (Ua (Key×Ud))
 |[]=>Z []
 |(k,.d x)::r=>(keyOf k).bind fun a=>(keyed r).bind fun q=>Z ((a,x)::q)
 |_=>Y
def IE(fs:Ua (EF×EF)):EF:=fun a M=>(JT fs a (M++[.dk []])).bind fun r=>match r.2[M.length]? with
 |some (.dk [])=>(keyed r.1).bind fun kvs=>if kvs.length<=15/\(kvs.map (·.1)).Nodup then Z (.d (.dict (kvs.map fun p=>(wW p.1,p.2))),r.2.set M.length .dead)else Y
 |_=>Y
section
variable{K:Fg}
def SPs(K:Fg):Ua (TE×TE)->Ua (EF×EF)->Prop:=Paired fun t f=>SE K t.1 f.1/\SE K t.2 f.2
theorem aDp:∀{ts:Ua (TE×TE)}{fs:Ua (EF×EF)},SPs K ts fs->∀{γ:Ga}{M:Sto}{xs:Ua (CD×CD)}{M':Sto},JT fs γ M=Z (xs,M')->∀{W:Wd}{H:Hp}{c:St}{Q:Ua (V×V)->Hp->Prop},Good K W M H->cF K W γ c->
 (∀vs W' H',W.Ext W'->Good K W' M' H'->Paired (fun a b=>bW K W' a.1 b.1/\bW K W' a.2 b.2) xs vs->Q vs H')->KJ ts c H Q
 |_,_,.nil,γ,M,xs,M',h,W,H,c,Q,G,R,k=>by
  cases h;exact k [] W H (.refl _) G .nil
 |_,_,.cons s1 s2,γ,M,xs,M',h,W,H,c,Q,G,R,k=>by
  obtain⟨⟨a,M1⟩,g,h⟩:=aI h;obtain⟨⟨b,M2⟩,i,h⟩:=aI h;obtain⟨⟨q,x⟩,j,h⟩:=aI h;cases h;refine s1.1 _ _ _ _ g W H c _ G R fun v l m d n o=>?_;refine s1.2 _ _ _ _ i l m c _ n (R.up d) fun u y z e G2 p=>?_;refine aDp s2 j G2 (R.up<|d.trans e) fun vs r s f t w=>?_;exact k _ r s ((d.trans e).trans f) t (.cons ⟨o.up<|e.trans f,p.up f⟩ w)
def yA{k:Key}(h:keyOf x=Z k)(r:bW K W x v):v=kV k:=by
 unfold keyOf at h;split at h
 .cases h;exact r
 .cases h;exact r
 .cases h
theorem HH{W:Wd}:∀{xs:Ua (CD×CD)}{kvs:Ua (Key×Ud)}{vs:Ua (V×V)},keyed xs=Z kvs->Paired (fun a b=>bW K W a.1 b.1/\bW K W a.2 b.2) xs vs->
 ∃us:Ua (Key×V),vs=us.map (fun p=>(kV p.1,p.2))/\us.map (·.1)=kvs.map (·.1)/\nN K W.F (kvs.map fun p=>(wW p.1,p.2)) us
 |[],kvs,vs,h,r=>by
  cases h;cases r;exact⟨[],rfl,rfl,rfl⟩
 |(k,.c _)::_,kvs,vs,h,r=>by cases h
 |(k,.d x)::xs,kvs,vs,h,r=>by
  obtain⟨e,g,h⟩:=aI h;obtain⟨q,i,h⟩:=aI h;cases h;cases r with
  |@cons _ b _ j f l=>
   obtain⟨us,m,n,o⟩:=HH i l;refine⟨(e,b.2)::us,?_,?_,e,b.2,us,rfl,rfl,f.2,o⟩
   .rw[D4,<- m,<- yA g f.1]
   .rw[D4,D4,n]
theorem HE:∀(more acc:Ua (Key×V)),((acc++more).map (·.1)).Nodup->sL acc more=acc++more
 |[]=>fun acc _=>by simp[sL]
 |p::more=>fun acc h=>by
  have hn:gO acc p.1=Y:=by
   unfold gO;rw[Option.map_eq_none_iff,A0b];intro x a hd;have:x.1=p.1:=D7 hd;rw[F7,Z3]at h;exact h.2.2 x.1 (A2b a) p.1 53 this
  show sL (putK acc p.1 p.2) more=_;rw[aBC _ hn,HE more _ 54,Y4];rfl
def aGO{fs:Ua (EF×EF)}(sp:SPs K ts fs):SE K (aIM ts) (IE fs):=by
 intro A M x M' a W H B Q G R k;obtain⟨⟨xs,M1⟩,l,a⟩:=aI a;intro p m;have q:=G.new m (c:=.dk []) (o:=.dK []) .nil;have d:=W.ext_more p;refine aDp sp l q (R.up d) fun vs r C e G2 s=>?_;split at a
 .rename_i f;obtain⟨kvs,t,a⟩:=aI a;by_cases g:kvs.length<=15/\(kvs.map (·.1)).Nodup
  .rw[A7 g]at a;cases a
   have al:r.α M.length=p:=by
    rw[e.al M.length (by show M.length<W.n+1;rw[G.n];exact S6 _)];show(if M.length=W.n then p else _)=p;rw[A7 G.n.symm]
   obtain⟨_,o,h,i⟩:=G2.cs _ _ f 53;rw[al]at h
   have u:o=.dK []:=by
    cases o with
    |dK us=>cases i;rfl
    |_=>exact False.elim i
   subst u;obtain⟨us,v,w,y⟩:=HH t s;have nd:(us.map (·.1)).Nodup:=54
   have z:us.length<=15:=by
    have:=A0h List.length w;rw[A4,A4]at this;omega
   refine⟨h,us,v,z,?_⟩;rw[HE us [] 54,A1z];obtain⟨b,j⟩:=G2.freeze f 53;rw[al]at b j;exact k _ _ _ ((d.trans e).trans b) j ⟨p,us,rfl,aT,nN.same b.ff _ _ y⟩
  .rw[B7 g]at a;cases a
 .cases a
end
section
variable{ι:Type}{K:Fg}{X:ι->Cx}
structure MD(K:Fg)(X:ι->Cx)(pos:Pos)(ks:Ua (Ub Ug))(vs:Tb)(fs:Ua (EF×EF)):Prop where
 ex:∃ts,(∀i,PPs (X i) pos ks vs ts)/\SPs K ts fs
def aLX:MD K X pos [] [] []:=⟨_,fun _=>aHo,.nil⟩
def aFk{v:Ug}{f:EF}{fs:Ua (EF×EF)}(x:ME K X k f)(y:ME K X v g)(z:MD K X pos ks vs fs):MD K X pos (Z k::ks) (v::vs) ((f,g)::fs):=by
 obtain⟨t,a,b⟩:=x.ex;obtain⟨u,c,d⟩:=y.ex;obtain⟨o,e,h⟩:=z.ex;exact⟨_,fun i=>aCJ (a i) (c i)<|e i,.cons ⟨b,d⟩ h⟩
def aFL{fs:Ua (EF×EF)}(x:MD K X pos ks vs fs)(a:ks.all (·.isSome)=true:=by rfl)(c:ks.length=vs.length:=by rfl)(d:ks≠[]:=by simp)(b:ks.length<=15:=by simp):ME K X (.Dict ks vs pos) (IE fs):=by
 obtain⟨t,e,f⟩:=x.ex;exact⟨_,fun i=>aFj (e i) a c d b,aGO f⟩
def aDP:ME K X (.Dict [] [] pos) CM:=⟨_,fun _=>OB,aBO⟩
end
mutual
noncomputable def wt:Ud->Nat
 |.none=>4
 |.bool _=>5
 |.int _=>2000
 |.str x=>(reprText x).length
 |.list xs=>kU xs+3
 |.tuple xs=>kU xs+3
 |.dict kvs=>ZH kvs+3
noncomputable def kU:T5->Nat
 |[]=>0
 |x::xs=>wt x+2+kU xs
noncomputable def ZH:Ua (Ud×Ud)->Nat
 |[]=>0
 |(k,v)::r=>wt k+wt v+4+ZH r
end
mutual
noncomputable def oks:Ud->Bool
 |.none=>true
 |.bool _=>true
 |.int i=>decide (i.natAbs<2 ^ 1900)
 |.str _=>true
 |.list xs=>mO xs
 |.tuple xs=>mO xs
 |.dict kvs=>HM kvs
noncomputable def mO:T5->Bool
 |[]=>true
 |x::xs=>oks x&&mO xs
noncomputable def HM:Ua (Ud×Ud)->Bool
 |[]=>true
 |(k,v)::r=>oks k&&oks v&&HM r
end
def aHI{i:Int}(h:i.natAbs<2 ^ 1900):i.natAbs.log2<1900:=by
 by_cases a:i.natAbs=0
 .rw[a];decide +kernel
 .exact(Nat.log2_lt a).mpr h
def aGK{i:Int}(h:i.natAbs<2 ^ 1900):((toString i:String):Str).length<=2000:=by
 have a:=int_text_length_le (k:=1900) 52<|aHI h;show(Str.ofString<|toString i).length<=2000;rw[PySem.ofString_length];omega
mutual
theorem shown_le:∀d:Ud,oks d=true->d.shown.length<=wt d
 |.none=>fun _=>52
 |.bool b=>fun _=>by cases b<;>decide
 |.int i=>fun h=>aGK<|D7 h
 |.str x=>fun _=>A8 _
 |.list xs=>fun h=>by
  have:=shownAll_le xs h;have a:=listText_len_le<|PyData.shownAll xs;show(listText<|PyData.shownAll xs).length<=kU xs+3;omega
 |.tuple xs=>fun h=>by
  have:=shownAll_le xs h;have a:=tupleText_len_le<|PyData.shownAll xs;show(tupleText<|PyData.shownAll xs).length<=kU xs+3;omega
 |.dict kvs=>fun h=>by
  have:=shownKv_le kvs h;have a:=dictText_len_le<|PyData.shownKv kvs;show(dictText<|PyData.shownKv kvs).length<=ZH kvs+3;omega
theorem shownAll_le:∀xs:T5,mO xs=true->((PyData.shownAll xs).map (·.length)).sum+2*(PyData.shownAll xs).length<=kU xs
 |[]=>fun _=>by simp[PyData.shownAll,kU]
 |x::xs=>fun h=>by
  unfold mO at h;rw[B4]at h;have c:=shown_le x h.1;have a:=shownAll_le xs h.2;simp only[PyData.shownAll,kU,D4,List.sum_cons,D3];omega
theorem shownKv_le:∀kvs:Ua (Ud×Ud),HM kvs=true->((PyData.shownKv kvs).map (·.length)).sum+2*(PyData.shownKv kvs).length<=ZH kvs
 |[]=>fun _=>by simp[PyData.shownKv,ZH]
 |(k,v)::r=>fun h=>by
  unfold HM at h;rw[B4,B4]at h;have c:=shown_le k h.1.1;have a:=shown_le v h.1.2;have f:=shownKv_le r h.2
  have e:(PyData.shown k++": "++PyData.shown v).length=(PyData.shown k).length+2+(PyData.shown v).length:=by
   rw[strLen_append,strLen_append];rfl
  simp only[PyData.shownKv,ZH,D4,List.sum_cons,D3,e];omega
end
mutual
theorem lT:∀d:Ud,oks d=true->d.showable=true
 |.none=>51
 |.bool _=>51
 |.int i=>fun h=>by
  have h:i.natAbs<2 ^ 1900:=D7 h;refine C4 ?_;by_cases a:i.natAbs=0
  .rw[a];decide +kernel
  .exact A0i ((Nat.log2_lt a).mpr h) 52
 |.str _=>51
 |.list xs=>fun h=>showableAll_of xs h
 |.tuple xs=>fun h=>showableAll_of xs h
 |.dict kvs=>fun h=>showableKv_of kvs h
theorem showableAll_of:∀xs:T5,mO xs=true->PyData.showableAll xs=true
 |[]=>51
 |x::xs=>fun h=>by
  unfold mO at h;rw[B4]at h;show(PyData.showable x&&PyData.showableAll xs)=true;rw[lT x h.1,showableAll_of xs h.2];rfl
theorem showableKv_of:∀kvs:Ua (Ud×Ud),HM kvs=true->PyData.showableKv kvs=true
 |[]=>51
 |(k,v)::r=>fun h=>by
  unfold HM at h;rw[B4,B4]at h;show(PyData.showable k&&PyData.showable v&&PyData.showableKv r)=true;rw[lT k h.1.1,lT v h.1.2,showableKv_of r h.2];rfl
end
structure Fit(n m:Nat)(d:Ud):Prop where
 ok:oks d=true
 wt:wt d<=n
 dp:d.depth<=m
def Fit.shown(f:Fit n m d)(hn:n<=sizeLine:=by decide)(hm:m<=64:=by decide):sV d=true:=by
 unfold sV;rw[lT d f.ok,C4<|E6 f.dp hm,C4<|E6 (E6 (shown_le d f.ok) f.wt) hn];rfl
def aDC(f:Fit n m d)(hn:n<=sizeLine:=by decide)(hm:m<=64:=by decide):WG [.d d] M=Z (.d (.str d.shown),M):=by
 unfold WG;dsimp only;rw[A7 (f.shown hn hm)]
noncomputable def SR(f:Str)(v:CD):Tz->Tz
 |[]=>[(f,v)]
 |(g,x)::r=>if g=f then(g,v)::r else(g,x)::SR f v r
section
variable{K:Fg}
theorem QK{W:Wd}(r:bW K W x v):∀{fs:Tz}{us:Ua (Str×V)},Paired (fun p q=>p.1=q.1/\bW K W p.2 q.2) fs us->Paired (fun p q=>p.1=q.1/\bW K W p.2 q.2) (SR f x fs) (oO f v us)
 |_,_,.nil=>.cons ⟨rfl,r⟩ .nil
 |(g,y)::fs,(c,u)::us,.cons h t=>by
  obtain⟨a,b⟩:=h;subst a;unfold SR oO;by_cases e:g=f
  .rw[A7 e,A7 e];exact .cons ⟨rfl,r⟩ t
  .rw[B7 e,B7 e];exact .cons ⟨rfl,b⟩ (QK r t)
theorem HD{W:Wd}{x:CD}:∀{fs:Tz}{us:Ua (Str×V)},Paired (fun p q=>p.1=q.1/\bW K W p.2 q.2) fs us->fs.lookup f=Z x->∃v,us.lookup f=Z v/\bW K W x v
 |_,_,.nil=>fun h=>by cases h
 |(g,y)::fs,(c,u)::us,.cons h t=>fun e=>by
  obtain⟨a,b⟩:=h;subst a;rw[J7]at e ⊢;by_cases q:(f==g)=true
  .rw[q]at e ⊢;cases e;exact⟨u,rfl,b⟩
  .have q':(f==g)=false:=54
   rw[q']at e ⊢;exact HD t e
theorem IA{W:Wd}:∀{fs:Tz}{us:Ua (Str×V)},Paired (fun p q=>p.1=q.1/\bW K W p.2 q.2) fs us->fs.lookup f=Y->us.lookup f=Y
 |_,_,.nil=>fun h=>rfl
 |(g,y)::fs,(b,u)::us,.cons h t=>fun e=>by
  obtain⟨a,c⟩:=h;subst a;rw[J7]at e ⊢;by_cases q:(f==g)=true
  .rw[q]at e;cases e
  .have q':(f==g)=false:=54
   rw[q']at e ⊢;exact IA t e
def Good.objAt{i:Nat}{fs:Tz}(G:Good K W M H)(h:M[i]?=Z (.obj nm fs)):∃dx us,H (W.α i)=Z (.ins (bQ K nm) dx us)/\Paired (fun p q=>p.1=q.1/\bW K W p.2 q.2) fs us:=by
 obtain⟨_,o,b,a⟩:=G.cs i _ h 53;cases o with
 |ins C dx us=>
  obtain⟨e,p⟩:=a;subst e;exact⟨dx,us,b,p⟩
 |_=>exact False.elim a
def Good.extra(g:Good K W M H)(a:H p=Y):Good K W M (upd H p o):=by
 refine⟨fun b u e=>?_,g.n,fun i c hi f=>?_,g.inj,g.tb.fresh a⟩
 .have:=g.fh b u e;rw[aL (aQ this a)];exact this
 .obtain⟨h,o',d,j⟩:=g.cs i c hi f;exact⟨h,o',by rw[aL (aQ d a)];exact d,j⟩
def objOf(nm:Str)(M:Sto):CD->Ub (Nat×Tz)
 |.c i=>match M[i]? with
  |some (.obj a fs)=>if a=nm then Z (i,fs)else Y
  |_=>Y
 |_=>Y
def EM{i:Nat}{fs:Tz}(h:objOf nm M x=Z (i,fs)):x=.c i/\M[i]?=Z (.obj nm fs):=by
 unfold objOf at h;split at h
 .rename_i j;split at h
  .rename_i a b d;by_cases e:a=nm
   .rw[A7 e]at h;cases h;subst e;exact⟨rfl,d⟩
   .rw[B7 e]at h;cases h
  .cases h
 .cases h
def uT(nm f:Str)(e:EF):EF:=fun a M=>(e a M).bind fun r=>(objOf nm r.2 r.1).bind fun p=>(p.2.lookup f).bind fun v=>Z (v,r.2)
def aJy(c:Cls K (bQ K nm))(n:iJ K (bQ K nm) f)(a:SE K g e):SE K (aMV K g f) (uT nm f e):=by
 intro C M x M' b W H l Q G R k;obtain⟨⟨y,M1⟩,m,b⟩:=aI b;obtain⟨⟨i,fs⟩,o,b⟩:=aI b;obtain⟨v,p,b⟩:=aI b;cases b;refine a _ _ _ _ m W H l _ G R fun u h q r j s=>?_;obtain⟨rfl,t⟩:=EM o;obtain⟨dx,us,z,A⟩:=j.objAt t;obtain⟨w,B,d⟩:=HD A p;exact⟨h.α i,_,dx,us,w,s.2,z,c,n,B,k w h q r j d⟩
def GN(nm f:Str)(b ev:EF):SF:=fun a M=>(ev a M).bind fun v=>(b a v.2).bind fun o=>(objOf nm o.2 o.1).bind fun p=>if p.2.length<1000 then Z (.nx a,o.2.set p.1 (.obj nm (SR f v.1 p.2)))else Y
def aKu(c:Cls K (bQ K nm))(n:iJ K (bQ K nm) f)(a:SE K l p)(b:SE K m ev):SS K (aNb K l m f) (GN nm f p ev):=by
 intro J M o M' d W H e D G R k;obtain⟨⟨y,M1⟩,t,d⟩:=aI d;obtain⟨⟨z,M2⟩,w,d⟩:=aI d;obtain⟨⟨i,fs⟩,x,d⟩:=aI d;by_cases g:fs.length<1000
 .have d:=d;rw[A7 g]at d;cases d;refine b _ _ _ _ t W H e _ G R fun v A B h C E=>?_;refine a _ _ _ _ w A B e _ C (R.up h) fun u q L j G2 F=>?_;obtain⟨rfl,r⟩:=EM x;obtain⟨dx,us,I,s⟩:=G2.objAt r;refine⟨q.α i,_,dx,us,F.2,I,c,n,by rw[<- Paired.len s];exact g,?_⟩;exact k q _ (h.trans j) (G2.set r 53 (o':=.ins (bQ K nm) dx (oO f v us)) ⟨rfl,QK (E.up j) s⟩) e<|R.up<|h.trans j
 .have d:=d;rw[B7 g]at d;cases d
noncomputable def yW:CD->Bool
 |.d .none=>true
 |_=>false
def IK(nm:Str)(h:FN)(fa:AF):EF:=fun a M=>(fa a M).bind fun r=>(h (.c r.2.length::r.1) (r.2++[.obj nm []])).bind fun q=>if yW q.1=true then Z (.c r.2.length,q.2)else Y
def aDl(h:yW x=true):x=.d .none:=by
 cases x with
 |c n=>cases h
 |t n=>cases h
 |f n=>cases h
 |g _=>cases h
 |d x=>cases x<;>first|rfl|cases h
def aHJ(b:SA K m fa):SE K (aIz (bQ K nm) (spM K h) [] E0 m) (IK nm h fa):=by
 intro J M x M' a W H s Q G R k;obtain⟨⟨t,M1⟩,u,a⟩:=aI a;obtain⟨⟨z,M2⟩,w,a⟩:=aI a;by_cases e:yW z=true
 .have a:(if yW z=true then Z (CD.c M1.length,M2)else Y)=Z (x,M'):=a;rw[A7 e]at a;cases (a);have f:=aDl e;subst f;refine b _ _ _ _ u W H s _ G R fun vs n y A g B=>?_;intro p dx C i j;rw[L6];have Ga:=g.extra (o:=.own p) i;have l:(upd y dx (.own p)) p=Y:=by rw[aL (S7 j)];exact C
  have Gb:=Ga.new l (c:=.obj nm []) (o:=.ins (bQ K nm) dx []) ⟨rfl,.nil⟩;have q:=n.ext_more p;refine⟨.c M1.length::t,M1++[.obj nm []],n.more p,.d .none,M',Gb,.cons g.newV (bR.up B q),w,fun v D E r F I=>⟨I,?_⟩⟩;exact k _ D E ((A.trans q).trans r) F<|g.newV.up r
 .have a:=a;rw[B7 e]at a;cases a
def BA(nm m:Str)(h:FN)(f:EF)(fa:AF):EF:=fun a M=>(f a M).bind fun r=>(objOf nm r.2 r.1).bind fun p=>if p.2.lookup m=Y then(fa a r.2).bind fun q=>h (r.1::q.1) q.2 else Y
def aAJ(a:SE K e f)(b:SA K g fa):SE K (aIk (bQ K nm) m (spM K h) [] E0 e g) (BA nm m h f fa):=by
 intro N M x M' c W H j Q G R k;obtain⟨⟨y,M1⟩,r,c⟩:=aI c;obtain⟨⟨i,fs⟩,s,c⟩:=aI c;by_cases d:fs.lookup m=Y
 .rw[A7 d]at c;obtain⟨⟨O,M2⟩,t,c⟩:=aI c;refine a _ _ _ _ r W H j _ G R fun v l u n o p=>?_;obtain⟨rfl,z⟩:=EM s;obtain⟨dx,us,A,B⟩:=o.objAt z;refine⟨l.α i,dx,us,p.2,A,IA B d,?_⟩;refine b _ _ _ _ t l u j _ o (R.up n) fun vs C P q G2 D=>?_;rw[L6];exact⟨_,M2,C,x,M',G2,.cons (p.up q) D,c,fun w E F I J L=>k w E F ((n.trans q).trans I) J L⟩
 .rw[B7 d]at c;cases c
end
structure JG(P:Uh)(w:World)(K:Fg)(mg:Str->Ti)(base:Heap)(k:Nat)(nm m:Str)(ps:Te)(sp:Sp):Prop where
 ex:∃f fd,jH P w K mg base CX0 k f fd ps sp/\aEP K (bQ K nm) m f/\Binds K fd ps []
structure IU(P:Uh)(w:World)(K:Fg)(mg:Str->Ti)(base:Heap)(k:Nat)(nm:Str)(ps:Te)(sp:Sp):Prop where
 ex:∃f fd,jH P w K mg base CX0 k f fd ps sp/\Mk K (bQ K nm) f/\Binds K fd ps []/\mg nm=Z (.ref (bQ K nm))
section
variable{ι:Type}{K:Fg}{X:ι->Cx}{a b c e o:Ug}{es:Tb}{f g h:EF}{fa:AF}{pos:Pos}
def CA(d:∀i,(X i).K=K)(j:Cls K (bQ K nm))(hn:iJ K (bQ K nm) fl)(x:ME K X o f)(k:∀env:Env,attributeBase o fl env (eval o env)=eval o env:=by intro _;rfl):ME K X (.Attribute o fl pos) (uT nm fl f):=by
 obtain⟨t,l,m⟩:=x.ex;refine⟨_,fun i=>?_,aJy j hn m⟩;have:=aLf (l i) (k _) (pos:=pos);rw[d i]at this;exact this
def TU(d:∀i,(X i).K=K)(j:Cls K (bQ K nm))(hn:iJ K (bQ K nm) fl)(x:ME K X o f)(y:ME K X e g)(hs:∀i,swapsWith e (Z (.Attribute o fl pos')) pos.line (X i).env=pure false:=by intro _;rfl):MS K X (.Assign [.Attribute o fl pos'] e pos) (GN nm fl f g):=by
 obtain⟨t,k,l⟩:=x.ex;obtain⟨u,m,n⟩:=y.ex;refine⟨_,fun i=>?_,aKu j hn l n⟩;have:=aJv (k i) (m i)<|hs i;rw[d i]at this;exact this
def aHR{k:Nat}{F:FN}(C:∀i,IU (X i).prog (X i).w (X i).K (X i).mg (X i).base k nm ps (spM K F))(d:∀i,(X i).K=K)(j:∀i,cE (k+1) (X i).A)(y:MA K X (e::es) fa)(l:∀i,Gl (X i) nm:=by intro _;rfl)(hd:(nm==("__debug__":Str))=false:=by decide):
 ME K X (.Call (.Name nm p) (e::es) [] pos) (IK nm F fa):=by
 obtain⟨u,n,q⟩:=y.ex;refine⟨_,fun i=>?_,aHJ q⟩;obtain⟨f,fd,r,M,B,m⟩:=(C i).ex;have:=aGh M r (j i) (l i) m B .nil aCN (n i) hd (y.st.1 _) (y.st.2.plain _ _) (p:=p) (pos:=pos);rw[d i]at this;exact this
def aGi{F:FN}{apos:Pos}(C:∀i,JG (X i).prog (X i).w (X i).K (X i).mg (X i).base k nm m ps (spM K F))(p:∀i,(X i).K=K)(E:Cls K (bQ K nm))(q:∀i,cE k (X i).A)(x:ME K X o f)(y:MA K X (e::es) fa)
 (ht:∀env:Env,∃l:Sem Bool,eval (.Call (.Attribute o m apos) (e::es) [] pos) env=(do
  let n <- eval o env
  standAt apos.atName
  let(f,first) <- holding [n] (getMethod n m l)
  callWith pos f first (backTo pos (starEach (e::es) env)) (backToKw pos (keywordEach [] env))):=by intro _;exact⟨_,rfl⟩):
 ME K X (.Call (.Attribute o m apos) (e::es) [] pos) (BA nm m F f fa):=by
 obtain⟨t,r,s⟩:=x.ex;obtain⟨u,v,z⟩:=y.ex;refine⟨_,fun i=>?_,aAJ s z⟩;obtain⟨G,fd,D,M,B⟩:=(C i).ex;obtain⟨l,d⟩:=ht (X i).env;have j:Cls (X i).K (bQ (X i).K nm):=54
 have:=aFG (r i) j M D (q i) B .nil aCN (v i) (y.st.1 _) (y.st.2.plain _ _) d;rw[p i]at this;exact this
end
structure UB(K:Fg)(nm m qual:Str)(st:Stmt):Prop where
 ex:∃f fd,Fun K m qual st f fd/\PySem.W.findIn K (.ref (bQ K nm)) m=Z (Z (.ref f))/\PySem.W.isFn K (.ref f)=true
section
variable{P:Uh}{w:World}{K:Fg}{mg:Str->Ti}{base:Heap}
def Fun.okQ{st:Stmt}{b:SF}{f:Uf}(F:Fun K x qual st f fd)(S:aU N ps (aH st))
 (c:∀(f:Uf)(cdv:Uc)(A:Ui)(outer:Ua Env)(s:Ue)(H:Hp)(E:XK),cE k (A.deeper<|envOfC qual (aH st) s.heap.objs.size f cdv)->
  ML K (fun _:Unit=>(lM CX0 P w K mg base N qual (aH st) f cdv A outer s H E).nox) (bP st) b):jH P w K mg base CX0 (k+1) f fd ps (spM K (fnF ps.length N.length b)):=by
 have len:∀vs H Q E,spM K (fnF ps.length N.length b) vs H Q E->vs.length=ps.length:=fun vs H Q E h=>by
  obtain⟨xs,M,W,y,M',G,R,a,_⟩:=h;by_cases d:xs.length=ps.length
  .rw[<- Paired.len R];exact d
  .unfold fnF at a;rw[B7 d]at a;cases a
 refine F.ok S len fun cdv A outer s H vs Q E m h=>?_;obtain⟨t,n,hS⟩:=(c f cdv A outer s H E m).ex;refine⟨t,n (),?_⟩;obtain⟨xs,M,W,y,M',G,R,a,k⟩:=h;by_cases d:xs.length=ps.length
 .unfold fnF at a;rw[A7 d]at a;obtain⟨⟨o,M1⟩,p,a⟩:=aI a
  have q:cF K W (xs.map Z++List.replicate (N.length-xs.length) Y) (start N vs):=by
   unfold start;rw[<- Paired.len R];exact Paired.app (bR.some R)<|sG _
  refine hS _ _ _ _ p W H _ _ G q fun e g i j=>?_;cases o with
  |rt x=>cases a;exact fun v r=>k v e g i j r
  |nx l=>cases a;exact fun u r=>k .non e g i j rfl
  |bk l=>cases a
  |ct l=>cases a
 .unfold fnF at a;rw[B7 d]at a;cases a
def UB.okM{st:Stmt}{ps:Te}{b:SF}(D:UB K nm m qual st)(S:aU N ps (aH st))
 (c:∀(kV doc pm:Uc)(an:Tk)(cdv ct:Uc)(us:T6),us.length=ps.length->bindArgs (PySem.W.fnOf m qual (dH st) (bP st) (aH st) .none kV doc pm an cdv ct) ⟨us,[]⟩=pure (ps.zip us))
 (a:∀(f:Uf)(cdv:Uc)(A:Ui)(outer:Ua Env)(s:Ue)(H:Hp)(E:XK),cE k (A.deeper<|envOfC qual (aH st) s.heap.objs.size f cdv)->
  ML K (fun _:Unit=>(lM CX0 P w K mg base N qual (aH st) f cdv A outer s H E).nox) (bP st) b):JG P w K mg base (k+1) nm m ps (spM K (fnF ps.length N.length b)):=by
 obtain⟨f,fd,F,d,e⟩:=D.ex;exact⟨f,fd,F.okQ S a,⟨d,e,F.kp⟩,F.binds c⟩
def UB.okI{qual:Str}{st:Stmt}{ps:Te}{b:SF}(D:UB K nm "__init__" qual st)(hm:PySem.W.makesIn K (bQ K nm)=true)(c:PySem.W.keepIn K (.ref (bQ K nm))=true)(d:mg nm=Z (.ref (bQ K nm)))(S:aU N ps (aH st))
 (e:∀(kV doc pm:Uc)(an:Tk)(cdv ct:Uc)(us:T6),us.length=ps.length->bindArgs (PySem.W.fnOf "__init__" qual (dH st) (bP st) (aH st) .none kV doc pm an cdv ct) ⟨us,[]⟩=pure (ps.zip us))
 (a:∀(f:Uf)(cdv:Uc)(A:Ui)(outer:Ua Env)(s:Ue)(H:Hp)(E:XK),cE k (A.deeper<|envOfC qual (aH st) s.heap.objs.size f cdv)->
  ML K (fun _:Unit=>(lM CX0 P w K mg base N qual (aH st) f cdv A outer s H E).nox) (bP st) b):IU P w K mg base (k+1) nm ps (spM K (fnF ps.length N.length b)):=by
 obtain⟨f,fd,F,g,h⟩:=D.ex;exact⟨f,fd,F.okQ S a,⟨hm,g,h,c⟩,F.binds e,d⟩
end
section
variable{K:Fg}
theorem HL{a b:Type}{R:a->b->Prop}:∀{xs:Ua a}{ys:Ua b},Paired R xs ys->Paired R xs.reverse ys.reverse
 |_,_,.nil=>.nil
 |_,_,.cons h t=>by
  rw[Z1,Z1];exact Paired.app (HL t) (.cons h .nil)
def kF:FM:=fun x a M=>match x,a with
 |.c i,[]=>match M[i]? with
  |some (.lst xs)=>Z (.d .none,M.set i (.lst xs.reverse))
  |_=>Y
 |_,_=>Y
def TJ:PM K QX kF:=by
 intro x e M z M' h W H v vs Q G b rs k;unfold kF at h;split at h
 .rename_i i;split at h
  .rename_i xs a;cases h;obtain⟨us,c,d⟩:=G.lstAt a;cases rs;refine⟨W.α i,us,b.2,rfl,c,?_⟩;exact k _ W _ (.refl _) (G.set a 53<|HL d) rfl
  .cases h
 .cases h
def aOn:Tf->Hp->VK->Prop:=fun xs H Q=>∃i j,xs=[.int i,.int j]/\Q (.int (if j > i then j else i)) H
def aNo:Tf->Hp->VK->Prop:=fun xs H Q=>∃i j,xs=[.int i,.int j]/\Q (.int (if j<i then j else i)) H
def vN:FN:=fun xs M=>match xs with
 |[.d (.int i),.d (.int j)]=>Z (.d (.int (if j > i then j else i)),M)
 |_=>Y
def wY:FN:=fun xs M=>match xs with
 |[.d (.int i),.d (.int j)]=>Z (.d (.int (if j<i then j else i)),M)
 |_=>Y
def aHm:PN K aOn vN:=by
 intro xs M z M' h W H vs Q G r k;unfold vN at h;split at h
 .rename_i i j;cases h;rcases r with _|⟨a,_|⟨b,_|_⟩⟩;exact⟨i,j,by rw[show _=V.int i from a,show _=V.int j from b],k _ W H (.refl _) G rfl⟩
 .cases h
def aFh:PN K aNo wY:=by
 intro xs M z M' h W H vs Q G r k;unfold wY at h;split at h
 .rename_i i j;cases h;rcases r with _|⟨a,_|⟨b,_|_⟩⟩;exact⟨i,j,by rw[show _=V.int i from a,show _=V.int j from b],k _ W H (.refl _) G rfl⟩
 .cases h
end
section
variable{ι:Type}{K:Fg}{X:ι->Cx}{a b c e o:Ug}{es:Tb}{f g h:EF}{fa:AF}{pos:Pos}
def IX(d:∀i,(X i).calm=true):QN K X (.builtin "max") vN:=⟨_,fun i=>ZZ<|d i,aHm⟩
def JZ(d:∀i,(X i).calm=true):QN K X (.builtin "min") wY:=⟨_,fun i=>YM<|d i,aFh⟩
def RH(d:∀i,(X i).K=K)(x:ME K X o f)(j:∀env:Env,attributeBase o "reverse" env (eval o env)=eval o env:=by intro _;rfl)(k:(apos.endLine==cpos.line)=true:=by rfl):
 ME K X (.Call (.Attribute o "reverse" apos) [] [] cpos) (cZ "list" kF f aO):=by
 obtain⟨t,l,m⟩:=x.ex;refine⟨_,fun i=>?_,PY TJ m⟩;have:=aBF A1j F.slot_list_reverse F.type_list_reverse SJ (l i) (j _) k;rw[d i]at this;exact this
end
open PySem PySem.W PyProof.Rows
def KS{b:Type}(lt:Tu)(n:Nat):KasT b->(b->Prop)->Prop
 |.ret a,Q=>Q a
 |.ask i j k,Q=>i<n/\j<n/\KS lt n (k<|lt i j) Q
theorem KS.mono{b:Type}{Q R:b->Prop}(m:∀a,Q a->R a):∀{t:KasT b},KS lt n t Q->KS lt n t R
 |.ret _=>fun h=>m _ h
 |.ask _ _ _=>fun h=>⟨h.1,h.2.1,KS.mono m h.2.2⟩
theorem KS.wp{c:Type}{lt:Tu}{n:Nat}{Q:c->Prop}{R:c->Ue->Prop}{b:Nat->Nat->(Bool->Ue->Prop)->Ue->Prop}
 (d:∀i j C,i<n->j<n->C (lt i j) s->b i j C s) (m:∀a,Q a->R a s):∀{t:KasT c},KS lt n t Q->KasT.kasWp b t R s
 |.ret _=>fun h=>m _ h
 |.ask _ _ _=>fun h=>d _ _ _ h.1 h.2.1<|KS.wp d m h.2.2
section
variable{lt:Tu}{n:Nat}
def Inv2(n:Nat)(p:Tn):Prop:=p.Perm (List.range n).toArray
def Inv2.ent(h:Inv2 n p)(a:0<n)(k:Nat):p.getD k 0<n:=by
 rw[D0];cases e:p[k]? with
 |none=>exact a
 |some x=>
  have hm:=Array.mem_of_getElem? e;have:=(h.mem_iff).mp hm;simpa using this
def sM(a:Inv2 n p)(i j:Nat):Inv2 n (kas_rev p i j):=(mirror_perm p i j _).trans a
end
end L2
namespace L2
open PySem PySem.Spec PyProof.Rows
def qZ:T5->Ub (Ta)
 |[]=>Z []
 |.int n::r=>(qZ r).bind fun ns=>Z (n::ns)
 |_=>Y
theorem yF:∀{ds:T5}{us:T6}{as:Td}{ns:Ta},ReadsAll h us ds as->qZ ds=Z ns->IntsAre us ns
 |[],_,_,_=>fun r e=>by cases r;cases e;exact .nil
 |d::ds,_,_,_=>fun r e=>by
  cases r with
  |cons a b=>
   cases d with
   |int n=>
    obtain⟨ms,c,f⟩:=A1k.mp e;cases f;cases a;exact .cons _ _ (yF b c)
   |_=>cases e
def KC:Ud->Ud->Ub Bool
 |.int a,.int b=>Z<|decide (a<b)
 |.tuple xs,.tuple c=>(qZ xs).bind fun ns=>(qZ c).bind fun ms=>Z<|HT.lexLt ns ms
 |_,_=>Y
def lP:T5->T5->Ub Bool
 |[],a=>Z<|decide (0<a.length)
 |_::_,[]=>Z false
 |x::xs,y::a=>if PyData.eqv x y=true then lP xs a else KC x y
def isI:Ud->Bool
 |.int _=>true
 |_=>false
section
variable{prog:Uh}{w:World}{A:Ui}{E:T2}{s:Ue}
def aHs{c fl:Bool}{Q:Bool->Ue->Prop}(f:A.units<cLine)(d:Reads s.heap p x as)(e:Reads s.heap q y bs)(h:KC x y=Z c)(g:fl=true->isI x=true/\isI y=true)(k:Q c s):
 wpAny (model prog w) A (oneLt' fl p q) Q E s:=by
 unfold KC at h;split at h
 .rename_i a b;cases d;cases e;cases h;cases fl with
  |true=>exact oneLt_int k
  |false=>exact W.kat_one _ _<|lt_int k
 .rename_i xs B;obtain⟨ns,i,h⟩:=A1k.mp h;obtain⟨ms,j,h⟩:=A1k.mp h;cases h;cases fl with
  |true=>exact absurd (g rfl).1 (by intro z;cases z)
  |false=>
   cases d with
   |tuple l m n o=>
    cases e with
    |tuple r t u v=>
     exact W.kat_one _ _<|HT.lt_tupInts ⟨_,l,m,_,n⟩ ⟨_,r,t,_,u⟩ (yF o i) (yF v j) f k
 .cases h
theorem VY{b d:Bool}{Q:Bool->Ue->Prop}(l:A.units+64<cLine)(k:Q c s):∀(xs ys:T5)(us ws:T6)(as bs:Td)(i:Nat),ReadsAll s.heap us xs as->ReadsAll s.heap ws ys bs->xs.all SeqAt.shaped=true->ys.all SeqAt.shaped=true->
 lP xs ys=Z c->d=decide (us.length<ws.length)->((b&&i==0)=true->xs.head?.all isI=true/\ys.head?.all isI=true)->W.KatLex prog w A b d Q (us.zip ws) i s
 |[],ys=>fun us ws as bs i g f s1 s2 h a j=>by
  cases g
  have o:ws.length=ys.length:=by
   clear k h a j s2
   induction f using ReadsAll.rec (motive_1:=fun _ _ _ _=>True)with
   |nil=>rfl
   |cons _ _ _ ih=>simp[ih]
   |_=>trivial
  refine W.kat_nil ?_;cases h;rw[a,o];exact k
 |x::xs,[]=>fun us ws as bs i g f s1 s2 h a j=>by
  cases f;rw[List.zip_nil_right];refine W.kat_nil ?_;cases h;rw[a];simpa using k
 |x::xs,y::ys=>fun us ws as bs i g f s1 s2 h a j=>by
  cases g with
  |cons m p=>
   cases f with
   |cons n q=>
    rw[Z8,B4]at s1 s2;refine W.kat_cons ?_;refine SeqAt.eqAt_reads x y A s _ _ _ _ m n (A1b s1.1) (A1b s2.1) (SeqAt.room_of_shaped s1.1 l) _ _ _ _ ?_;have h:(if PyData.eqv x y=true then lP xs ys else KC x y)=Z c:=h;cases e:PyData.eqv x y with
    |true=>
     rw[e,A7 rfl]at h;refine W.kat_yes<|VY l k xs ys _ _ _ _ (i+1) p q s1.2 s2.2 h ?_ fun z=>?_
     .rw[a];simp
     .simp at z
    |false=>
     rw[e,B7 C6]at h;refine W.kat_no<|aHs 50 m n h (fun z=>?_) k;have:=j z;simpa using this
end
open PySem PySem.W PyProof.Rows
noncomputable def aGE{b:Type}(lt:Tu):KasT b->b
 |.ret a=>a
 |.ask i j k=>aGE lt<|k<|lt i j
def KA{c:Type}(n:Nat):KasT c->(c->Prop)->Prop
 |.ret a,Q=>Q a
 |.ask i j k,Q=>i<n/\j<n/\∀b,KA n (k b) Q
section
variable{n:Nat}
theorem KA.bind{c d:Type}{f:c->KasT d}{Q:d->Prop}:∀{t:KasT c},KA n t (fun a=>KA n (f a) Q)->KA n (t.bind f) Q
 |.ret _=>fun h=>h
 |.ask _ _ _=>fun h=>⟨h.1,h.2.1,fun b=>KA.bind<|h.2.2 b⟩
theorem KA.ks{b:Type}{lt:Tu}{Q:b->Prop}:∀{t:KasT b},KA n t Q->KS lt n t (fun a=>a=aGE lt t/\Q a)
 |.ret _=>fun h=>⟨rfl,h⟩
 |.ask i j _=>fun h=>⟨h.1,h.2.1,KA.ks<|h.2.2<|lt i j⟩
theorem KS.run{a:Type}{lt:Tu}{Q:a->Prop}:∀{t:KasT a},KS lt n t Q->Q (aGE lt t)
 |.ret _=>fun h=>h
 |.ask i j k=>fun h=>KS.run (t:=k<|lt i j) h.2.2
theorem UD(a:Inv2 n p)(c:0<n){Q:Nat->Prop}(q:∀r,Q r):∀(f m:Nat),KA n (kas_asc p f m) Q
 |0=>fun m=>by rw[kas_asc.eq_def];exact q m
 |f+1=>fun m=>by
  refine⟨a.ent c _,a.ent c _,fun b=>?_⟩;cases b with
  |true=>exact q m
  |false=>exact UD a c q f (m+1)
theorem AI(c:0<n){Q:Tn×Nat×Nat->Prop}(k:∀p m q,Inv2 n p->Q (p,m,q)):∀(f:Nat)(p:Tn)(m q:Nat),Inv2 n p->KA n (kas_desc f p m q) Q
 |0=>fun p m q a=>by rw[kas_desc.eq_def];exact k p m q a
 |f+1=>fun p m q a=>by
  refine⟨a.ent c _,a.ent c _,fun b=>?_⟩;cases b with
  |true=>
   by_cases d:q > 0
   .rw[A7 d];exact AI c k f _ _ _<|sM a _ _
   .rw[B7 d];exact AI c k f _ _ _ a
  |false=>
   refine⟨a.ent c _,a.ent c _,fun b=>?_⟩;cases b with
   |true=>exact k p m q a
   |false=>exact AI c k f _ _ _ a
def LZ(b:0<n){p:Tn}{m:Nat}(a:Inv2 n p):KA n (kas_tail3 m n p) (fun r=>Inv2 n r.2):=by
 exact KA.bind<|UD (sM a 0 m) b (fun r=>sM a 0 m) _ _
def zN(b:0<n){p:Tn}{m:Nat}(d:Inv2 n p):KA n (kas_descPart m n p) (fun r=>Inv2 n r.2):=by
 refine KA.bind<|AI b (fun e f q' a=>?_) _ _ _ _ d;by_cases c:q' > 0
 .rw[A7 c];exact LZ b<|sM a _ _
 .rw[B7 c];exact LZ b a
def aBy(c:0<n){p:Tn}(a:Inv2 n p):KA n (kas_count n p) (fun r=>Inv2 n r.2):=by
 refine KA.bind<|UD a c (fun r=>?_) _ _;by_cases e:(r==n)=true
 .rw[A7 e];exact a
 .rw[B7 e];by_cases g:r > 1
  .rw[A7 g];refine⟨a.ent c _,a.ent c _,fun b=>?_⟩;cases b with
   |true=>exact a
   |false=>exact zN c<|sM a _ _
  .rw[B7 g];exact zN c a
theorem AW(a:0<n)(c:Inv2 n p){Q:Nat->Prop}(q:∀l,Q l):∀(f l r:Nat),KA n (kas_place p k f l r) Q
 |0=>fun l r=>by rw[kas_place.eq_def];exact q l
 |f+1=>fun l r=>by
  show KA n (if l>=r then _ else _) Q;by_cases g:l>=r
  .rw[A7 g];exact q l
  .rw[B7 g];refine⟨c.ent a _,c.ent a _,fun b=>?_⟩;cases b with
   |true=>exact AW a c q f _ _
   |false=>exact AW a c q f _ _
theorem aAX(b:0<n):∀(f:Nat)(p:Tn)(k:Nat),Inv2 n p->KA n (kas_bin f p k) (Inv2 n)
 |0=>fun p k a=>by rw[kas_bin.eq_def];exact a
 |f+1=>fun p k a=>by
  exact KA.bind<|AW b a (fun l=>aAX b f _ (k+1)<|(bubble_perm p k (k-l)).trans a) k 0 k
def XW(d:0<n):KA n (kas_sort n) (Inv2 n):=by
 have:=aBy d<|Array.Perm.refl _;refine KA.bind ?_
 have mono:∀{c:Type}{Q R:c->Prop}(m:∀a,Q a->R a)(t:KasT c),KA n t Q->KA n t R:=by
  intro c Q R m t
  induction t with
  |ret a=>exact m a
  |ask i j k ih=>exact fun h=>⟨h.1,h.2.1,fun b=>ih b<|h.2.2 b⟩
 refine mono (fun r a=>?_) _ this;by_cases e:r.fst<n
 .rw[A7 e];exact aAX d _ _ _ a
 .rw[B7 e];exact a
def hX(lt:Tu)(n:Nat):Tg:=(aGE lt<|kas_sort n).toList
def lU(lt:Tu)(a:0<n):(hX lt n).Perm (List.range n):=by
 have:=KS.run<|KA.ks (lt:=lt)<|XW a;simpa[hX]using Array.perm_iff_toList_perm.mp this.2
end
end L2
namespace L2
variable{H:Hp}{K:Fg}{W:Wd}{σ:St}{M:Sto}
open PySem PySem.Spec PyProof.Rows
mutual
noncomputable def zC:Ud->Bool
 |.int _=>true
 |.tuple xs=>kW xs
 |_=>false
noncomputable def kW:T5->Bool
 |[]=>true
 |x::r=>zC x&&kW r
end
mutual
theorem rk{h h':Heap}(k:∀b o vs n,h.get? b=Z o->o.data=.seq vs n->h'.get? b=Z o):∀(d:Ud)(v:Uc)(as:Td),zC d=true->Reads h v d as->Reads h' v d as
 |.int n=>fun _ _ _ r=>by cases r;exact .int _ _
 |.tuple xs=>fun _ _ e r=>by
  cases r with
  |tuple a b c d=>exact .tuple (k _ _ _ _ a c) b c (aDc k xs _ _ (by unfold zC at e;exact e) d)
 |.none=>fun _ _ e _=>by unfold zC at e;cases e
 |.bool _=>fun _ _ e _=>by unfold zC at e;cases e
 |.str _=>fun _ _ e _=>by unfold zC at e;cases e
 |.list _=>fun _ _ e _=>by unfold zC at e;cases e
 |.dict _=>fun _ _ e _=>by unfold zC at e;cases e
theorem aDc{h h':Heap}(k:∀b o vs n,h.get? b=Z o->o.data=.seq vs n->h'.get? b=Z o):∀(ds:T5)(vs:T6)(as:Td),kW ds=true->ReadsAll h vs ds as->ReadsAll h' vs ds as
 |[]=>fun _ _ _ r=>by cases r;exact .nil
 |d::ds=>fun _ _ e r=>by
  cases r with
  |cons a b=>
   unfold kW at e;rw[B4]at e;exact .cons (rk k d _ _ e.1 a) (aDc k ds _ _ e.2 b)
end
theorem ReadsAll.at:∀{ds:T5}{vs:T6}{as:Td}(i:Nat),ReadsAll h vs ds as->i<ds.length->∃bs,Reads h (vs.getD i .none) (ds.getD i .none) bs
 |[],_,_,i=>fun _ hi=>absurd hi<|A0g _
 |d::ds,_,_,0=>fun r _=>by cases r with|cons a b=>exact⟨_,a⟩
 |d::ds,_,_,i+1=>fun r hi=>by
  cases r with
  |cons a b=>
   obtain⟨bs,x⟩:=ReadsAll.at i b<|Nat.lt_of_succ_lt_succ hi;exact⟨bs,x⟩
theorem ReadsAll.len:∀{ds:T5}{vs:T6}{as:Td},ReadsAll h vs ds as->vs.length=ds.length
 |[],_,_=>fun r=>by cases r;rfl
 |d::ds,_,_=>fun r=>by
  cases r with
  |cons a b=>simp[ReadsAll.len b]
section
variable{prog:Uh}{w:World}{A:Ui}{E:T2}{s:Ue}
def aLC{b c:Bool}{Q:Bool->Ue->Prop}(a:A.units+64<cLine)(d:Reads s.heap p (.tuple xs) as)(e:Reads s.heap q (.tuple ys) bs)
 (s1:xs.all SeqAt.shaped=true) (s2:ys.all SeqAt.shaped=true) (h:lP xs ys=Z c) (f:b=true->xs.head?.all isI=true/\ys.head?.all isI=true) (k:Q c s):wpAny (model prog w) A (keyLt' (tuples' b) p q) Q E s:=by
 cases d with
 |tuple g o i j=>
  cases e with
  |tuple l r m n=>
   refine PySem.W.kat_lt g i l m<|VY a k xs ys _ _ _ _ 0 j n s1 s2 h 53 fun z=>f ?_;simpa using z
noncomputable def mX(a:Ua (T5)):Bool:=a.all fun r=>match r with
 |.int _::_=>true
 |_=>false
noncomputable def pO(a:Ua (T5)):Bool:=a.all fun r=>match r with
 |.tuple _::_=>true
 |_=>false
def aJN{M:Model}(n:Int)(t:Tok):PySem.W.Looks M h (typeOf (.int n t)) (.type "int"):=fun A Q E s _ q=>by
 show wpAny M A (pure _) Q E s;exact A3 q
theorem firstsI:∀{c:Ua (T5)}{vs:T6}{as:Td},ReadsAll h vs (c.map .tuple) as->mX c=true->∃fs,PySem.W.KatTups h vs fs/\fs.length=c.length/\∀v∈fs,∃n t,v=.int n t
 |[],_,_=>fun r _=>by cases r;exact⟨[],.nil,rfl,fun v g=>nomatch g⟩
 |x::c,_,_=>fun r e=>by
  unfold mX at e;rw[Z8,B4]at e;cases r with
  |cons a b=>
   obtain⟨fs,k,m,p⟩:=firstsI b (by unfold mX;exact e.2);cases x with
   |nil=>exact absurd e.1 52
   |cons d ds=>
    cases d with
    |int n=>
     cases a with
     |tuple q u y j=>
      rename_i o vs C ;generalize g:vs.toList=l at j;cases j with
      |cons B D=>
       cases B with
       |int _ t=>
        refine⟨.int n t::fs,.cons q u y (f:=.int n t) ?_ k,by simp[m],?_⟩
        .rw[<- E7,g];rfl
        .intro v i;rcases B8.mp i with z|z
         .exact⟨_,_,z⟩
         .exact p v z
    |_=>exact absurd e.1 (by intro z;cases z)
end
section
variable{prog:Uh}{w:World}{A:Ui}{E:T2}{s:Ue}
def aKd{M:Model}{h:Heap}{a:Uf}{o:Obj}(g:h.get? a=Z o)(c:o.cls=.type "tuple"):PySem.W.Looks M h (typeOf (.ref a)) (.type "tuple"):=fun A Q E s k q=>A1a (⟨o,k _ _ g,c⟩) q
theorem VX:∀{c:Ua (T5)}{vs:T6}{as:Td},ReadsAll h vs (c.map .tuple) as->pO c=true->∃fs,PySem.W.KatTups h vs fs/\fs.length=c.length/\∀v∈fs,∃a o,v=.ref a/\h.get? a=Z o/\o.cls=.type "tuple"
 |[],_,_=>fun r _=>by cases r;exact⟨[],.nil,rfl,fun v f=>nomatch f⟩
 |x::c,_,_=>fun r e=>by
  unfold pO at e;rw[Z8,B4]at e;cases r with
  |cons a b=>
   obtain⟨fs,j,k,m⟩:=VX b (by unfold pO;exact e.2);cases x with
   |nil=>exact absurd e.1 52
   |cons d ds=>
    cases d with
    |tuple C=>
     cases a with
     |tuple n p q i=>
      rename_i o vs D;generalize f:vs.toList=l at i;cases i with
      |cons t F=>
       cases t with
       |@tuple u _ _ _ _ _ y B G I=>
        refine⟨.ref u::fs,.cons n p q ?_ j,by simp[k],?_⟩
        .rw[<- E7,f];rfl
        .intro v g;rcases B8.mp g with z|z
         .exact⟨_,_,z,y,B⟩
         .exact m v z
    |_=>exact absurd e.1 53
def ZD{M:Model}{b:Ua (T5)}{Q:SortKind->Ue->Prop}(r:ReadsAll s.heap vs (b.map .tuple) as)(j:0<b.length)(hk:mX b=true\/pO b=true)(q:Q (tuples'<|mX b) s):wpAny M A (keyKind' vs.toArray) Q E s:=by
 rcases hk with hk|hk
 .obtain⟨fs,f,k,h⟩:=firstsI r hk;rw[hk]at q;refine PySem.W.kat_kind (T:=.type "int") f 50 (fun v i=>?_) 52 q;obtain⟨n,t,rfl⟩:=h v i;exact aJN n t
 .obtain⟨fs,f,k,h⟩:=VX r hk
  have e:mX b=false:=by
   cases b with
   |nil=>cases j
   |cons x r=>
    unfold pO at hk;rw[Z8,B4]at hk;cases x with
    |nil=>rfl
    |cons d ds=>cases d<;>first|rfl|exact absurd hk.1 53
  rw[e]at q;refine PySem.W.kat_kind (T:=.type "tuple") f 50 (fun v i=>?_) 52 q;obtain⟨a,o,rfl,g,c⟩:=h v i;exact aKd g c
end
section
variable{X:Cx}{pins:T3}{σ:St}{H:Hp}{s:Ue}{h':Heap}
def eG.there{P:Uh}(x:eG P w H h a o):∃u,h.get? a=Z u:=by
 induction o with
 |lst xs=>obtain⟨_,_,_,_,e⟩:=x;exact⟨_,e⟩
 |tup xs=>obtain⟨_,_,_,_,e,_⟩:=x;exact⟨_,e⟩
 |dK kvs=>obtain⟨_,_,_,_,o,_,_,e,_⟩:=x;exact⟨_,e⟩
 |dT kvs=>obtain⟨_,_,_,_,o,_,_,e,_⟩:=x;exact⟨_,e⟩
 |set S n=>obtain⟨o,_,_,_,e,_⟩:=x;exact⟨_,e⟩
 |ins C dx fs=>obtain⟨_,_,_,e,_⟩:=x;exact⟨_,e⟩
 |own y=>exact x
 |xd fs=>obtain⟨_,⟨_,_,_,e,_⟩,_⟩:=x;exact⟨_,e⟩
 |rng lo hi=>obtain⟨_,_,_,e⟩:=x;exact⟨_,e⟩
 |frz o u=>exact⟨_,x.1⟩
 |tbl ps=>exact⟨_,x⟩
 |met f b=>exact⟨_,x⟩
 |ext c=>exact x.2.1
def HOk.none{P:Uh}{a:Uf}(x:HOk P w H h)(e:h.get? a=Y):H a=Y:=by
 cases q:H a with
 |none=>rfl
 |some o=>
  obtain⟨u,z⟩:=(x a o q).there;rw[e]at z;cases z
def Inv.laidL{a:Uf}(I:Inv X pins σ H s)(k:∀b u,b≠X.env.locals->s.heap.get? b=Z u->h'.get? b=Z u)(ns:∀m,s.heap.Ns X.env.locals m->h'.Ns X.env.locals m)(f:s.heap.get? a=Y)(new:eG X.prog X.w (upd H a o) h' a o):
 Inv X pins σ (upd H a o) { s with heap:=h' }:=by
 have hn:=I.hok.none f;have nt:∀b u,H b=Z u->b≠X.env.locals:=fun b u e z=>by rw[z,I.free]at e;cases e
 refine I.step (ch:=[]) (fun _ z=>nomatch z) (fun b o d _ _ e _=>k b o d e) (fun b o d _ _ e _=>⟨o.slots,k b o d e⟩) (fun b o _ e n=>?_) (fun b o _ e=>?_) (fun b xs e=>?_) (fun b o u e=>?_) (fun b ps e=>⟨#[],?_⟩) ns ?_ I.bare
 .rw[aL (fun z=>by subst z;rw[f]at e;cases e)];exact n
 .by_cases z:b=X.env.locals
  .subst z;obtain⟨m,hm,_⟩:=I.loc;obtain⟨o',_,_,q,_⟩:=ns m hm;exact⟨o',q⟩
  .exact⟨o,k b o z e⟩
 .rw[aL (aQ e hn)];exact e
 .rw[aL (aQ e hn)];exact e
 .rw[aL (aQ e hn)];simpa using e
 .intro b u e;by_cases g:b=a
  .subst g;rw[aT]at e;cases e;exact new
  .rw[aL g]at e;refine(I.hok b u e).stay (fun c v h q=>k c v ?_ q) (fun c q=>by rw[aL (aQ q hn)];exact q) fun c xs q=>by rw[aL (aQ q hn)];exact q
   rcases h with z|z
   .rw[z];exact nt b _ e
   .exact nt c _ z
def aFV{h:Heap}(a:h.Ns L m)(b:h.Ns L c):m=c:=by
 obtain⟨o,es,ep,f,g,_,i⟩:=a;obtain⟨o',j,k,d,e,_,l⟩:=b;rw[f]at d;cases d;rw[g]at e;cases e;funext x;rw[<- i x,l x]
def tL(a:Ua (T5))(i j:Nat):Bool:=(lP (a.getD i [])<|a.getD j []).getD false
theorem IC(r:bE vs us):∀ps:Tg,bE (ps.map fun i=>vs.getD i .non) (ps.map fun i=>us.getD i .none)
 |[]=>.nil
 |p::ps=>by
  refine .cons ?_ (IC r ps)
  have go:∀{vs:Tf}{us:T6}(i:Nat),bE vs us->RelV (vs.getD i .non) (us.getD i .none):=by
   intro vs us i r
   induction r generalizing i with
   |nil=>exact rfl
   |cons a b ih=>cases i with
    |zero=>exact a
    |succ i=>exact ih i
  exact go p r
end
def sortable(a:Ua (T5)):Bool:=decide (2<=a.length)&&decide (a.length<64)&&a.all (fun r=>r.all SeqAt.shaped&&kW r)&&(mX a || pO a)&&(List.range a.length).all fun i=>(List.range a.length).all fun j=>(lP (a.getD i [])<|a.getD j []).isSome
def QY(a:Ua (T5)):T5:=(hX (tL a) a.length).map fun i=>.tuple (a.getD i [])
def yS(h:sortable a=true):2<=a.length/\a.length<64/\(∀r∈a,r.all SeqAt.shaped=true/\kW r=true)/\(mX a=true\/pO a=true)/\(∀i j,i<a.length->j<a.length->(lP (a.getD i [])<|a.getD j []).isSome=true):=by
 unfold sortable at h;rw[B4,B4,B4,B4,A1y]at h;obtain⟨⟨⟨⟨b,c⟩,d⟩,e⟩,f⟩:=h;refine⟨D7 b,D7 c,fun r g=>?_,e,fun i j hi k=>?_⟩
 .have:=D5.mp d r g
  rwa [B4]at this
 .exact D5.mp (D5.mp f i<|F5.mpr hi) j<|F5.mpr k
section
variable{K:Fg}
theorem aM.len{H:Hp}:∀{ds:T5}{vs:Tf},aM K H ds vs->vs.length=ds.length
 |[],_=>fun h=>by
  rw[h];rfl
 |d::ds,_=>fun h=>by
  obtain⟨v,r,rfl,_,a⟩:=h;simp[aM.len a]
theorem EU{H:Hp}{a:Ua (T5)}(r:aM K H (a.map .tuple) us):∀ps:Tg,(∀i∈ps,i<a.length)->aM K H (ps.map fun i=>.tuple (a.getD i [])) (ps.map fun i=>us.getD i .non)
 |[]=>51
 |p::ps=>fun b=>by
  refine⟨_,_,rfl,?_,EU r ps fun i hi=>b i<|A9 _ hi⟩;have hi:=b p B9;have f:=aM.len r;rw[A4]at f
  have g:us[p]?=Z (us.getD p .non):=by
   rw[E3,C0 50];rfl
  obtain⟨d,c,h⟩:=aM.get r g;rw[D6,C0 hi]at c;cases c;have e:a.getD p []=a[p]:=54
  show Rep K H (.tuple (a.getD p [])) (us.getD p .non);rw[e];exact h
def aIG{lt:Tu}{n:Nat}(a:0<n):∀i∈hX lt n,i<n:=fun i hi=>F5.mp<|(lU lt a).mem_iff.mp hi
end
def cE.units2(r:cE k A):A.in1.in1.units+64<cLine:=by have:=r.un;show A.units+1+1+64<_;omega
section
variable{prog:Uh}{w:World}{A:Ui}{E:T2}{s:Ue}
def zO{a:Uf}{vs:T6}{P:PySem.Fin->Ue->Prop}(g:s.heap.get? a=Z (seqObj "list" vs.toArray n))(d:vs.length<2)
 (k:P (.done (.ret .none)) { s with heap:=sortedHeap s.heap a vs vs.toArray }):wpAny (model prog w) A (Builtin.«list.sort» ⟨[.ref a],[]⟩) P E s:=by
 rw[list_sort_plain];have e:vs.toArray.size<=sizeLine:=by rw[F4,J9];omega
 refine A0<|listItems_at g rfl ?_;refine A0<|listUpdate_at g rfl ?_ e 53;have b:=get?_update_seq g (fun _=>#[]);refine A0<|seqEpoch_at b rfl ?_;refine A0<|wpAny_newTuple ?_ 50;refine A0<|wpAny_newList ?_;refine J8 ?_;have hs:vs.toArray.size<2:=50
 rw[A7 hs,A7 hs];refine A0<|A3 ?_;refine A0 ?_;refine A3 ?_;have f:=A2 { cls:=.type "tuple",data:=.seq vs.toArray.toList.toArray } b;have c:=A2 { cls:=.type "list",data:=.seq ([]:T6).toArray } f;refine A0<|seqEpoch_at c rfl ?_
 have hm:Array.map (fun x=>x.snd) (arrOf<|SortSt.mk' general' (vs.toArray.zip vs.toArray) #[] 7 Y)=vs.toArray:=by
  show Array.map (fun x=>x.snd) (vs.toArray.zip vs.toArray)=vs.toArray
  apply Array.ext
  .simp
  .intro i h d;simp
 rw[hm];refine A0<|listUpdate_at c rfl ?_ 53 50;rw[B7 53];exact A3 k
end
def TrS(h B:Heap)(e:Uf)(vs:Tl):Ti->Prop
 |none=>vs[1]?=Z .none
 |some fl=>∃T a ts,vs[1]?=Z (.ref T)/\B.get? T=Y/\T≠e/\h.get? T=Z a/\a.data=.fields ts/\ts[3]?=Z fl
def Tr(h B:Heap)(e:Uf)(c:Uc)(dx:Tk)(st:Ti):Prop:=
 ∃a vs,h.get? e=Z a/\(a.cls=c/\a.dict=dx)/\a.data=.fields vs/\1<vs.size/\TrS h B e vs st
structure Fly(B:Heap)(l:Ua Env)(e:Uf)(c:Uc)(dx:Tk)(st:Ti)(h:Heap):Prop where
 stays:B.StaysIn h
 new:B.get? e=Y
 frames:h.FunFrames B l
 tr:Tr h B e c dx st
def Fly.obj{B:Heap}{st:Ti}(F:Fly B l e c dx st h):∃a vs,h.get? e=Z a/\a.cls=c/\a.dict=dx/\a.data=.fields vs:=by
 obtain⟨a,vs,d,b,f,_⟩:=F.tr;exact⟨a,vs,d,b.1,b.2,f⟩
def aFZ(o:Obj)(f:Tl->Tl):(o.mapFields f).dict=o.dict:=by
 obtain⟨c,d,dt,sl⟩:=o;cases dt<;>rfl
section
variable{M:Model}{A:Ui}{E:T2}{s:Ue}{B:Heap}{env:Env}{outer l:Ua Env}{L e:Uf}{c:Uc}{dx:Tk}{st:Ti}{Q:Unit->Ue->Prop}
def kD{h:Heap}{a b:Uf}{o d:Obj}(ha:h.get? a=Z d)(hd:d.data=.fields vs)(f:h.get? b=Z o)(hn:∀ws,o.data≠.fields ws):b≠a:=54
def PF{n:Obj}(u:A.frames=Z (env::outer))(I:env.frame=Z L)(stays:B.StaysIn s.heap)(new:B.get? e=Y)(fr:s.heap.FunFrames B (env::outer))
 (p:s.heap.get? e=Z n) (D:n.cls=c/\n.dict=dx) (h:n.data=.fields vs) (v:1<vs.size)
 (q:∀h',Fly B (env::outer) e c dx (Z<|rawInt L) h'->s.heap.UpToSlots h'->Q () { s with heap:=h' }):
 wpAny M A (do let a <- frameOf env;let i <- entryPlaceOf L nx;let b <- EntryCells.newEntry hd a .none (rawInt L) .none i;setField (.ref e) 1 b) Q E s:=by
 have j:e∉(env::outer).filterMap (·.frame):=fun hm=>by
  obtain⟨_,o,J,f⟩:=fr.mem hm;exact kD p h J f rfl
 refine A0 (wpAny_frameOf_fun u fr I fun g r=>A0 (wpAny_entryPlaceOf fun i w=>?_));refine A0<|E4 ?_<|w.sizeOk5 _ _ _ _ _;generalize x:({ cls:=.type "traceback",dict:=Y,data:=.fields ([hd,Value.ref L,.none,rawInt L,.none]++(if i.isEmpty then List.replicate 6 Value.none else i)).toArray }:Obj)=t;have y:t.data=.fields ([hd,Value.ref L,.none,rawInt L,.none]++(if i.isEmpty then List.replicate 6 Value.none else i)).toArray:=54
 have F:=(r.2.1 e j).trans p;have k:B.StaysIn g:=fun b o d=>(r.2.1 b fun hm=>by rw[(fr.mem hm).1]at d;cases d).trans (stays b o d);have G:=A2 t F;refine A0v G h v<|q _ ?_ ?_
 all_goals
  have m:=O7<|B6 F;have N:=U8 (Obj.mapFields (·.setIfInBounds 1 (Value.ref g.objs.size))) G<|A2c<|Z0 h _
  have kp:∀b o,b≠e->g.get? b=Z o->((g.push t).update e (Obj.mapFields (·.setIfInBounds 1 (Value.ref g.objs.size)))).get? b=Z o:=fun b o C d=>by
   rw[U3 _ _ (S7 C)];exact A2 _ d
 .refine⟨fun b o d=>kp b o (fun z=>by rw[z,new]at d;cases d)<|k b o d,new,fr.of_keeps fun b o d f=>?_,?_⟩
  .obtain⟨sl,hs⟩:=r.2.2 b o d;exact⟨_,kp b _ (kD p h d f) hs,rfl⟩
  .refine⟨_,_,N,⟨(Obj.cls_mapFields _ _).trans D.1,(aFZ _ _).trans D.2⟩,Z0 h _,by simpa using v,g.objs.size,t,_,by simp[v],k.fresh,m,?_,y,53⟩;rw[U3 _ _ (S7 m)];exact C2 g (by rw[<- x];rfl)
 .intro b o d f;obtain⟨sl,hs⟩:=r.2.2 b o d;exact⟨sl,kp b _ (kD p h d f) hs⟩
def LL(f:A.frames=Z (env::outer))(i:env.frame=Z L)(F:Fly B (env::outer) e c dx st s.heap)(j:st=Y\/st=Z .none\/st=Z (rawInt L))
 (q:∀h',Fly B (env::outer) e c dx (Z<|rawInt L) h'->s.heap.UpToSlots h'->Q () { s with heap:=h' }):wpAny M A (noteFrame (.ref e) env) Q E s:=by
 obtain⟨r,vs,g,k,h,m,ht⟩:=id F.tr;unfold noteFrame;simp only[i];rcases j with rfl|rfl|rfl
 .refine A0<|F8 g h ht ?_;exact PF f i F.stays F.new F.frames g k h m q
 .obtain⟨T,n,ts,t1,t2,t3,t4,t5,t6⟩:=ht;refine A0<|F8 g h t1 ?_;refine A0<|F8 t4 t5 t6 ?_;refine A0<|A0v t4 t5 (E9.mp t6).1 ?_;have oth:∀b,b≠T->(s.heap.update T (Obj.mapFields (·.setIfInBounds 3 Value.none))).get? b=s.heap.get? b:=fun b a=>U3 _ _ (S7 a)
  refine PF f i (fun b o a=>(oth b fun z=>by rw[z,t2]at a;cases a).trans (F.stays b o a)) F.new
   (F.frames.of_keeps fun b o a d=>⟨o,(oth b<|kD t4 t5 a d).trans a,rfl⟩) ((oth e<|S7 t3).trans g) k h m fun h' p u=>q h' p fun b o a d=>u b o ((oth b<|kD t4 t5 a d).trans a) d
 .obtain⟨T,n,ts,t1,t2,t3,t4,t5,t6⟩:=ht;refine A0<|F8 g h t1 ?_;refine A0<|F8 t4 t5 t6 ?_;rw[A7 53];exact A3<|q _ F (.refl _)
def AU{fl:Uc}{fo:Tk}(F:Fly B l e c dx (Z fl) s.heap)
 (q:∀h',Fly B l e c dx (Z (fo.elim .none fun f=>rawInt f)) h'->s.heap.UpToSlots h'->Q () { s with heap:=h' }):wpAny M A (setFlight (.ref e) fo) Q E s:=by
 obtain⟨j,vs,g,k,h,m,T,n,ts,t1,t2,t3,t4,t5,t6⟩:=id F.tr;have i:=(E9.mp t6).1;refine A0<|F8 g h t1 ?_;have oth:∀b,b≠T->(s.heap.update T (Obj.mapFields (·.setIfInBounds 3 (fo.elim .none fun f=>rawInt f)))).get? b=s.heap.get? b:=fun b a=>U3 _ _<|S7 a
 refine A0v t4 t5 i (q _ ⟨fun b o a=>(oth b fun z=>by rw[z,t2]at a;cases a).trans (F.stays b o a),F.new,F.frames.of_keeps fun b o a d=>⟨o,(oth b<|kD t4 t5 a d).trans a,rfl⟩,
  j,vs,(oth e (S7 t3)).trans g,k,h,m,T,_,_,t1,t2,t3,U8 _ t4 (A2c (Z0 t5 _)),Z0 t5 _,by simp[i]⟩
  fun b o a d=>⟨o.slots,(oth b (kD t4 t5 a d)).trans a⟩)
def aEy(f:A.frames=Z (env::outer))(h:env.frame=Z L)(F:Fly B (env::outer) e c dx st s.heap)(g:st=Y\/st=Z .none\/st=Z (rawInt L))
 (q:∀h',Fly B outer e c dx (Z .none) h'->s.heap.UpToSlots h'->Q () { s with heap:=h' }):wpAny M A (leaving env (.ref e)) Q E s:=by
 refine A0 (LL f h F g fun k F1 u1=>AU F1 fun i F2 j=>?_);obtain⟨a,b,⟨_,_,c'⟩,d⟩:=F2;exact q i ⟨a,b,c',d⟩<|u1.trans j
def aFB{X:T2}(a:A.frames=Z (env::outer))(d:env.frame=Z L)(F:Fly B (env::outer) e c dx st s.heap)(b:st=Y\/st=Z .none\/st=Z (rawInt L))
 (q:∀h',Fly B (env::outer) e c dx (Z<|rawInt L) h'->s.heap.UpToSlots h'->X (.ref e) { s with heap:=h' }):notedBy M A env (cameBackBy M A env X) (.ref e) s:=by
 refine LL a d F b fun j F1 u1=>?_;obtain⟨k,vs,f,m,g,n,T,o,ts,t1,t2,t3,t4,t5,t6⟩:=id F1.tr;refine A0<|F8 f g t1 ?_;rw[B7 53,d];exact AU F1 fun h F2 i=>q h F2<|u1.trans i
end
structure Body(X:Cx):Prop where
 stk:X.stack=X.env::X.outer
 fr:X.env.frame=Z X.env.locals
 ex:X.ex=[]
structure Kp(X:Cx)(H:Hp)(B h:Heap):Prop where
 trk:∀b u o,H b=Z u->h.get? b=Z o->B.get? b=Z o
 ent:∀b o,X.s₀.heap.get? b=Z o->b∉X.fs->(∃o',B.get? b=Z o')/\(X.H₀ b=Y->B.get? b=Z o)
 pin:∀p∈X.pn,B.get? p.1=Z p.2
section
variable{X:Cx}{pins:T3}{σ:St}{H:Hp}{s:Ue}{B h':Heap}
def Inv.up(I:Inv X [] σ H s)(b:Body X)(k:Kp X H B s.heap)(stays:B.StaysIn h')(u:s.heap.UpToSlots h'):Inv X [] σ H { s with heap:=h' }/\Kp X H B h':=by
 have tr:=fun a v o e q=>stays a o<|k.trk a v o e q
 have cell:∀c v,s.heap.IsCell c v->h'.IsCell c v:=fun c v ⟨o,E,hd⟩=>by
  obtain⟨sl,q⟩:=u c o E fun vs z=>by rw[hd]at z;cases z
  exact⟨_,q,hd⟩
 have f:∀a∈X.fs,∀o,s.heap.get? a=Z o->∃sl,h'.get? a=Z { o with slots:=sl }:=fun a ha o e=>by
  obtain⟨_,j,C,hn⟩:=I.funs.mem ha;rw[e]at C;cases C;exact u a o e hn
 refine⟨⟨I.ok,I.os,I.bare,⟨fun a o e n ha t=>?_,fun a o e n ha t=>?_,I.base.free,fun a o e t=>?_,I.base.tups,I.base.frzs,I.base.tbls⟩,?_,fun x c e=>?_,I.free,I.freeC,fun p y=>?_,fun a v e=>?_,I.len⟩,⟨fun a v o e q=>?_,k.ent,k.pin⟩⟩
 .exact stays a o<|(k.ent a o e ha).2 n
 .obtain⟨sl,g⟩:=I.base.slot a o e n ha t;obtain⟨A,h⟩:=f a ha _ g;exact⟨A,h⟩
 .by_cases ha:a∈X.fs
  .obtain⟨j,g⟩:=I.base.there a o e t;obtain⟨sl,h⟩:=f a ha j g;exact⟨_,h⟩
  .obtain⟨⟨o',q⟩,_⟩:=k.ent a o e ha;exact⟨o',stays a o' q⟩
 .obtain⟨m,hn,F⟩:=I.loc;refine⟨m,u.ns hn,fun i x v g h G=>?_⟩;obtain⟨J,r,l⟩:=F i x v g h G;refine⟨J,r,?_⟩;rcases l with l|⟨L,c,e,z⟩
  .exact .inl l
  .exact .inr ⟨L,c,e,cell c _ z⟩
 .obtain⟨v,z⟩:=I.cell x c e;exact⟨v,cell c v z⟩
 .rw[L6]at y;obtain⟨_,n,ne,N,d⟩:=I.pin p<|D9 _ y;exact⟨stays _ _<|k.pin p y,n,ne,N,d⟩
 .exact(I.hok a v e).stay (fun c w hc q=>by
   rcases hc with rfl|hc
   .exact tr c v w e q
   .exact tr c _ w hc q) (fun _ q=>q) fun _ _ q=>q
 .obtain⟨j,D⟩:=(I.hok a v e).there;have:=tr a v j e D;rw[q]at this;cases this;exact k.trk a v o e D
def XS(X:Cx)(EE:St->XK)(ev:Uc)(s:Ue):Prop:=
 ∃e c dx st σ H B,ev=.ref e/\Inv X [] σ H s/\Kp X H B s.heap/\Fly B X.stack e c dx st s.heap/\(st=Y\/st=Z .none\/st=Z (rawInt X.env.locals))/\EE σ c dx H
def XS.unwish(h:XS (X.wish E) EE ev s):XS X EE ev s:=by
 obtain⟨e,c,dx,st,σ,H,B,b,I,k,F,a,q⟩:=h;exact⟨e,c,dx,st,σ,H,B,b,I.unwish,⟨k.trk,k.ent,k.pin⟩,F,a,q⟩
def CX1(P:Uh)(w:World):CXT:=fun outer H s E ev a=>∃e c dx H' B,ev=.ref e/\a.os=s.os/\AllBare a.gens/\Un (frs outer) [] H H' s.heap a.heap/\HOk P w H' a.heap/\Fly B outer e c dx (Z .none) a.heap /\
 (∀b u o,H' b=Z u->a.heap.get? b=Z o->B.get? b=Z o)/\(∀b o,s.heap.get? b=Z o->b∉frs outer->(∃o',B.get? b=Z o')/\(H b=Y->B.get? b=Z o))/\E c dx H'
def Inv.entry(I:Inv X pins σ H s)(bd:Body X){b:Uf}{o:Obj}(e:X.s₀.heap.get? b=Z o)(a:b∉X.fs):b∉frs X.stack/\(∃c,s.heap.get? b=Z c)/\(X.H₀ b=Y->s.heap.get? b=Z o/\H b=Y):=by
 have nx:b∉X.ex:=by rw[bd.ex];simp
 refine⟨fun z=>?_,I.base.there b o e nx,fun n=>⟨I.base.keep b o e n a nx,I.base.free b o e n nx⟩⟩;rcases B8.mp (I.stkSub b z)with q|q
 .exact absurd (q▸C5 (B6 e) I.ok.above)<|Y2 _
 .exact a q
def aJg{EE:St->XK}(bd:Body X)(I:Inv X pins σ H s)(h:CX1 X.prog X.w X.stack H s (EE σ) ev f):XS X EE ev f:=by
 obtain⟨e,c,dx,H',B,rfl,os,bare,un,hok,F,trk,ent,q⟩:=h;have i:=I.call' os un hok bare fun b z=>absurd z 53;refine⟨e,c,dx,Z .none,σ,H',B,rfl,i.pins_of fun p d=>absurd d 53,⟨trk,fun b o e j=>?_,fun p d=>?_⟩,F,.inr (.inl rfl),q⟩
 .obtain⟨a,⟨k,l⟩,g⟩:=I.entry bd e j;exact⟨(ent b k l a).1,fun n=>(ent b o (g n).1 a).2 (g n).2⟩
 .obtain⟨a,n,ne,m,_⟩:=I.pin p<|D9 _ d;exact(ent p.1 p.2 a fun z=>(B8.mp<|I.stkSub p.1 z).elim ne m).2 n
def aJB{EE:St->XK}{e:Uf}{d:Obj}(bd:Body X)(I:Inv X pins σ H s)(i:s.heap.get? e=Z d)(hn:H e=Y)(r:X.s₀.heap.get? e=Y)(g:∀p∈X.pn,p.1≠e)(j:d.data=.fields vs)(t:1<vs.size)(c:vs[1]?=Z .none)
 (q:EE σ d.cls d.dict H):XS X EE (.ref e) s:=by
 have k:e∉frs X.stack:=fun hm=>by
  obtain⟨_,o,v,h⟩:=I.stack.mem hm;exact kD i j v h rfl
 have get:∀b o,b≠e->b∉frs X.stack->s.heap.get? b=Z o->(PySem.W.hideAll s.heap (e::frs X.stack)).get? b=Z o:=fun b o c f w=>PySem.W.hideAll_get _ w fun hm=>(B8.mp hm).elim c f;refine⟨e,d.cls,d.dict,Y,σ,H,PySem.W.hideAll s.heap (e::frs X.stack),rfl,I.pins_of fun p g=>absurd g 53,⟨fun b u o c f=>?_,fun b o c f=>?_,fun p c=>?_⟩,⟨fun b o c=>PySem.W.of_hideAll _ c,PySem.W.hideAll_none _ B9,?_,d,vs,i,⟨rfl,rfl⟩,j,t,c⟩,.inl rfl,q⟩
 .exact get b o (aQ c hn) (fun z=>by rw[I.stkFree b z]at c;cases c) f
 .obtain⟨l,⟨m,x⟩,y⟩:=I.entry bd c f;have ne:b≠e:=fun z=>by rw[z,r]at c;cases c
  exact⟨⟨m,get b m ne l x⟩,fun n=>get b o ne l (y n).1⟩
 .obtain⟨A,n,ne,k,_⟩:=I.pin p<|D9 _ c;exact get p.1 p.2 (g p c) (fun z=>(B8.mp<|I.stkSub p.1 z).elim ne k) A
 .exact PySem.W.funFrames_hide I.stack fun env hm a ha=>A9 _<|A0a.mpr ⟨env,hm,ha⟩
def aDn(bd:Body X):PassesOwn (model X.prog X.w) X.A X.env (XS X EE):=by
 rintro ev s ⟨e,c,dx,st,σ,H,B,rfl,I,k,F,a,q⟩;have b:=I.ok.frames;rw[bd.stk]at b F;refine aFB b bd.fr F a fun h' d u=>?_;obtain⟨f,g⟩:=I.up bd k d.stays u;exact⟨e,c,dx,_,σ,H,B,rfl,f,g,by rw[bd.stk];exact d,.inr (.inr rfl),q⟩
end
section
variable{P:Uh}{w:World}{K:Fg}{mg:Str->Ti}{base:Heap}{N:Te}{qual:Str}{scope:Scope}{f:Uf}{cd:Uc}{A:Ui}{outer:Ua Env}{s:Ue}{H:Hp}{E:XK}{CX:CXT}
def UY:Body (lM CX P w K mg base N qual scope f cd A outer s H E):=⟨rfl,rfl,rfl⟩
def Body.wish(b:Body X)(E:T2):Body (X.wish E):=⟨b.stk,b.fr,b.ex⟩
def aEp{ev:Uc}(h:XS (lM (CX1 P w) P w K mg base N qual scope f cd A outer s H E) (fun _=>E) ev d):(lM (CX1 P w) P w K mg base N qual scope f cd A outer s H E).xe ev d:=by
 obtain⟨e,c,dx,st,σ,H',B,rfl,I,k,F,b,q⟩:=h;refine aEy I.ok.frames rfl F b fun h' g u=>?_;obtain⟨a,i⟩:=I.up UY k g.stays u;exact⟨e,c,dx,H',B,rfl,a.os,a.bare,a.base,a.hok,g,i.trk,i.ent,q⟩
def aLG{kV doc oc:Uc}{od:Tk}
 {osl:Array (Ti)} {sp:Sp} (i:K.lookup f=Z ⟨oc,od,.func (PySem.W.fnOf c qual a b scope g kV doc pm an cdv ct),osl⟩) (e:PySem.W.codeIn K cdv qual=true) (S:aU N ps scope)
 (len:∀vs H Q E,sp vs H Q E->vs.length=ps.length)
 (d:∀(A:Ui)(outer:Ua Env)(s:Ue)(H:Hp)(vs:Tf)(Q:VK)(E:XK),cE k (A.deeper<|envOfC qual scope s.heap.objs.size f cdv)->sp vs H Q E->
  ∃t,PSs ((lM (CX1 P w) P w K mg base N qual scope f cdv A outer s H E).wish (XS (lM (CX1 P w) P w K mg base N qual scope f cdv A outer s H E) fun _=>E)) b t/\t { nx:=fun _ H'=>Q .non H',rt:=Q } (start N vs) H):
 jH P w K mg base (CX1 P w) (k+1) f (PySem.W.fnOf c qual a b scope g kV doc pm an cdv ct) ps sp:=
 aHV i e S len fun A outer s H vs Q E j h=>by
  obtain⟨t,ht,l⟩:=d A outer s H vs Q E j h;exact⟨t,fun pins m σ H' D I n=>E5 (ht pins m σ H' D (I.wish _) n) (fun _ _ q=>q.unwish) fun _ _ z=>aEp z,l⟩
end
structure aDM(K:Fg)(C:Uf):Prop where
 ga:PySem.W.findIn K (.ref C) "__getattribute__"=Z (Z (.builtin "BaseException.__getattribute__"))
 gh:PySem.W.findIn K (.ref C) "__getattr__"=Z Y
 be:PySem.W.subIn K (.ref C) (.type "BaseException")=Z true
 cl:(PySem.W.clsIn K C).isSome=true
section
variable{prog:Uh}{w:World}{A:Ui}{E:T2}{s:Ue}{K:Fg}{x C:Uf}{ox:Obj}{od:Ub Obj}{name:Str}
def LW{tk:Tok}{Q:T2}(X:K.In s.heap)(I:PySem.W.InstAt s.heap x ox C od)(c:aDM K C)
 (h:wpAny (model prog w) A.in1 (Builtin.«object.__getattribute__» ⟨[.ref x,.str name tk],[]⟩)
  (fun a i=>match a with|.done (.ret v)=>Q v i|.done _=>False|.again c'=>c'.quiet=true/\codeAny (model prog w) A c' (fun r i=>match r with|.ok (.ret v)=>Q v i|.ok _=>False|.error e=>E e i) i) E s):
 wpAny (model prog w) A (call (.builtin "BaseException.__getattribute__") [.ref x,.str name tk]) Q E s:=by
 have k:=F.entry_bexc_ga;generalize Builtin.«object.__getattribute__»=b at k h;refine wpAny_call<|codeAny_call_builtin F.excAttr_ValueError.ga.plain k ?_;have n:builtinKind "BaseException.__getattribute__"=Z .slot:=by rfl
 have j:splitId "BaseException.__getattribute__"=Z ("BaseException","__getattribute__"):=by rfl
 have l:=I.type (M:=model prog w);have m:=PySem.W.looks_subIn (M:=model prog w) X c.be;obtain⟨o,g,d,t,os⟩:=s;refine A0 ?_;refine A0<|l.at<|m.at ?_
 repeat (first|assumption|wp_step)
 refine E5 h (fun a i z=>?_) fun _ _ z=>z;rcases a with(_|_|_|_)|c'
 .exact z
 .exact z
 .exact z
 .exact z
 .exact⟨z.1,A0z z.2 fun r i q=>by cases r with
   |error e=>exact q
   |ok f=>cases f<;>exact q⟩
def YE{tk:Tok}{fill:Bool}(X:K.In s.heap)(I:PySem.W.InstAt s.heap x ox C od)(c:aDM K C)
 (h:wpAny (model prog w) A.in1 (Builtin.«object.__getattribute__» ⟨[.ref x,.str name tk],[]⟩)
  (fun a b=>match a with|.done (.ret v)=>wpAny (model prog w) A (handedOut v) Q E b|.done _=>False|.again c'=>c'.quiet=true/\codeAny (model prog w) A c' (fun r b=>match r with|.ok (.ret v)=>wpAny (model prog w) A (handedOut v) Q E b|_=>False) b) 58 s):
 wpAny (model prog w) A (getAttrBy (.ref x) (.str name tk) fill ex) Q E s:=by
 have d:=I.type (M:=model prog w);have g:=PySem.W.looks_findIn (M:=model prog w) X c.ga;have L2:=PySem.W.looks_findIn (M:=model prog w) X c.gh;refine J8<|A0<|d.here<|A0<|g.here ?_;have i:(Value.builtin "BaseException.__getattribute__"==Value.builtin "object.__getattribute__")=false:=by rfl
 have j:(onTheHeap (Value.ref C)&&Value.builtin "BaseException.__getattribute__"==Value.builtin "object.__getattribute__")=false:=by rfl
 refine A0<|L2.here<|A0<|A2h<|J8 ?_;unfold callGetattribute;rw[B7 (by cases ex<;>exact C6)];refine A0<|A3 ?_;refine E5 (LW (E:=fun _ _=>False) X I c ?_) (fun v b z=>z) fun _ _ z=>z.elim;refine E5 h (fun a b z=>?_) fun _ _ z=>z;rcases a with(_|_|_|_)|c'
 .exact z
 .exact z
 .exact z
 .exact z
 .exact⟨z.1,A0z z.2 fun r b q=>by cases r with
   |error e=>exact q
   |ok f=>cases f<;>exact q⟩
def aAq{Q:Ti->Ue->Prop}(X:K.In s.heap)(I:PySem.W.InstAt s.heap x ox C od)(c:aDM K C)(ha:PySem.W.findIn K (.ref C) "__class__"=Z (Z (.builtin "object.__class__")))
 (hn:PySem.W.specialIn K (.builtin "object.__class__") "__get__"=Z (Z (.builtin "getset_descriptor.__get__"))) (htk:PySem.W.takesIn K (.builtin "object.__class__")=Z true) (hm:PySem.W.mroIn K C (.type "object")=Z true)
 (h:Q (Z (.ref C)) { s with toks:=s.toks+1 }):wpAny (model prog w) A (getAttr? (.ref x) "__class__") Q E s:=by
 have a:PySem.W.findObj K C od "__class__"=Z (.bind (.builtin "getset_descriptor.__get__") (.builtin "object.__class__")):=by
  obtain⟨i,b⟩:=A1e.mp c.cl;unfold PySem.W.findObj;rw[b,A1,ha,A1];simp[hn,htk]
 refine A0<|wpAny_mkText<|A0<|A2h<|YE X I c ?_;obtain⟨j,g,d,t,os⟩:=s;have e:=I.type (M:=model prog w);have f:=PySem.W.looks_find (M:=model prog w) X I a;refine A0<|A3<|A0<|A3<|A0<|e.at<|A0<|f.at ?_;refine A0<|J8<|wpAny_call<|PySem.W.class_get X I hm ?_;refine A3 ?_;exact A3<|A3 h
def aBW(c:aDM K C)(ha:PySem.W.findIn K (.ref C) "__class__"=Z (Z (.builtin "object.__class__")))
 (hn:PySem.W.specialIn K (.builtin "object.__class__") "__get__"=Z (Z (.builtin "getset_descriptor.__get__"))) (htk:PySem.W.takesIn K (.builtin "object.__class__")=Z true) (hm:PySem.W.mroIn K C (.type "object")=Z true):
 PySem.W.KitX K (.ref x) (.ref C) (fun h=>∃ox od,PySem.W.InstAt h x ox C od) where
 ty:=fun _ _ _ ⟨_,_,I⟩=>I.type
 it:=fun _ _ X _=>by
  have hc:=c.cl;unfold PySem.W.clsIn at hc;split at hc
  .rename_i c' d' cd' sl' ho;intro A' Q' E' s' k q;exact A0<|wpAny_loadPart (k _ _<|X _ _ ho)<|A3 q
  .cases hc
 ne:=fun h tp dd its n sl X htp=>by
  have hc:=c.cl;refine Bool.eq_false_iff.mpr fun q=>?_;have e:=Value.ref.inj<|Z4.mp q;subst e;unfold PySem.W.clsIn at hc;split at hc
  .rename_i c' d' cd' sl' ho;have z:=(X _ _ ho).symm.trans htp;cases z
  .cases hc
 ca:=fun X ⟨_,_,I⟩ k=>aAq X I c ha hn htk hm k
end
section
variable{X:Cx}{pins:T3}{σ:St}{H:Hp}{s:Ue}
def JP(sp:Sp)(EE:St->XK)(t:TA):TE:=fun σ H Q=>t σ H fun vs a=>sp vs a Q<|EE σ
structure pA(P:Uh)(w:World)(K:Fg)(mg:Str->Ti)(base:Heap)(k:Nat)(x:Str)(ps:Te)(sp:Sp):Prop where
 ex:∃f fd,jH P w K mg base (CX1 P w) k f fd ps sp/\mg x=Z (.ref f)/\PySem.W.keepIn K (.ref f)=true/\Binds K fd ps []
structure XOk(X:Cx)(EE:St->XK):Prop where
 bd:Body X
 pass:∀ev s,XS X EE ev s->X.xe ev s
 own:PassesOwn (model X.prog X.w) X.A X.env X.xe
def XOk.of{X:Cx}(bd:Body X)(EE:St->XK):XOk (X.wish<|XS X EE) EE:=⟨bd.wish _,fun _ _ h=>h.unwish,aDn bd⟩
def aHL{EE:St->XK}(ok:XOk X EE)(F:jH X.prog X.w X.K X.mg X.base (CX1 X.prog X.w) k f fd ps sp)(c:cE k X.A)(d:Binds X.K fd ps [])
 (I:Inv X pins σ H s) (r:bE vs us) (h:sp vs H Q (EE σ)):wpAny (model X.prog X.w) X.A (call (.ref f) us) (EP X pins σ Q) X.xe s:=by
 have g:us.length=ps.length:=by rw[<- r.length];exact F.len _ _ _ _ h
 have b:=d s us I.kIn 54;rw[L6]at b;refine wpAny_call (A0z (F.run X.A X.stack s H ⟨us,[]⟩ us vs Q (EE σ) c I.env0 b r h) fun r i a=>?_);cases r with
 |error e=>exact ok.pass _ _<|aJg ok.bd I a
 |ok fl=>
  cases fl with
  |ret u=>exact I.after a
  |next=>exact False.elim a
  |brk=>exact False.elim a
  |cont=>exact False.elim a
def aFb{EE:St->XK}{k:Nat}{x:Str}{ps:Te}{sp:Sp}{p pos:Pos}{e:Ug}{es:Tb}{t:TA}(ok:XOk X EE)(C:pA X.prog X.w X.K X.mg X.base k x ps sp)(g:cE k X.A)(ha:PA X (e::es) t)(i:Gl X x)
 (a:(x==("__debug__":Str))=false) (j:starEach (e::es) X.env=(false,eval e X.env)::starEach es X.env) (c:(backTo pos<|starEach es X.env).any (·.1)=false):
 PE X (.Call (.Name x p) (e::es) [] pos) (JP sp EE t):=by
 intro pins s σ H Q I h;obtain⟨f,fd,F,m,kp,b⟩:=C.ex;refine Y9<|tG I i m ?_ a;exact A2i I.ok.mod.kin kp (thn (ha pos pins s σ H _ I h) fun us s1 ⟨vs,l,d,r,q⟩=>⟨d.kIn,aHL ok F g b d r q⟩) j c
abbrev bmV:T6:=[.type "ValueError",.type "Exception",.type "BaseException",.type "object"]
def aGd(X:K.In h)(q:PySem.W.excIn K C b c=true):
 ∃bm N nm j bs hd k sub m a o d e f g i p,h.get? C=Z (excClassObj nm j C N bs bm hd k sub m a o d e f g i c)/\h.Ns N p/\p "__init__"=Y/\OwnTail h b bm:=by
 unfold PySem.W.excIn at q;split at q
 case h_2=>cases q
 case h_1 o t sl u=>
  split at q
  case h_2=>cases q
  case h_1 D bm d e f g n i hm hs=>
   simp only[B4,Z4,Bool.not_eq_true']at q;obtain⟨⟨⟨⟨⟨v,w⟩,x⟩,y⟩,r⟩,z⟩:=q;subst v w;cases t with
   |mk nm bs A ns j hd k sub m a B=>
    cases hm;cases x
    have es:sl=#[d,e,f,g,Z (.builtin n),i]:=by
     cases sl with
     |mk l=>exact A0h Array.mk hs
    cases es;exact⟨bm,ns,nm,j,bs,hd,k,sub,m,a,o,d,e,f,g,i,_,X _ _ u,.of_isNs (PySem.W.isNs_of_in X r),PySem.W.nsMap_none_of_in X r z,PySem.W.tail_of_in X y⟩
def LN(EE:St->XK)(C:Uf):TS:=fun _ σ H=>EE σ (.ref C) Y H
def ZF{cpos:Pos}(ok:XOk X EE)(g:X.calm=true)(hm:X.mg x=Z (.ref C))(q:PySem.W.excIn X.K C bmV "ValueError.__new__"=true)(i:Gl X x)
 (a:(x==("__debug__":Str))=false):PS X (.Raise (Z (.Call (.Name x f) [] [] cpos)) Y pos) (LN EE C):=by
 intro pins s σ H D I h;obtain⟨bm,N,nm,w,bs,hd,y,sub,A,j,B,E,G,J,L,O,P,k,l,m,b⟩:=aGd I.kIn q
 refine wpAny_Raise_call_subT
  F.excBase_ValueError (b.hasType F.excBase_ValueError.hasBase) (I.ok.hd g) rfl m (tG I i hm ⟨rfl,evalArgs_empty ⟨rfl,F9 _,k,l,b,fun h' e mk=>ok.pass _ _ ?_⟩⟩ a)
 obtain⟨t,n,_,_⟩:=mk.there;have r:Inv X pins σ H { s with heap:=h' }:=I.kept mk.keeps
 have hn:H e=Y:=by
  cases z:H e with
  |none=>rfl
  |some u=>
   obtain⟨o,c⟩:=(I.hok e u z).there;rw[mk.new]at c;cases c
 refine aJB ok.bd r n hn ?_ (fun p v z=>?_) rfl (show 1<6 by decide) rfl h
 .cases z:X.s₀.heap.get? e with
  |none=>rfl
  |some o=>
   obtain⟨Q,d⟩:=I.base.there e o z (by rw[ok.bd.ex];simp);rw[mk.new]at d;cases d
 .have:=(I.pin p<|D9 _ v).1;rw[z,mk.new]at this;cases this
end
def hCx(X:Cx)(e:Uf):Cx:={ X with A:=X.A.mark<|Z (.ref e),calm:=false,xe:=fun _ _=>False }
def DU(X:Cx)(pins:T3):Cx:={ X with pn:=X.pn++pins }
section
variable{X:Cx}{pins:T3}{σ:St}{H:Hp}{s:Ue}
def Inv.toH(I:Inv X pins σ H s)(e:Uf):Inv (hCx X e) pins σ H s:=
 ⟨⟨I.ok.mod,I.ok.kind,I.ok.glob,I.ok.blt,I.ok.above,I.ok.inj,I.ok.has,I.ok.cab,fun z=>(by cases z),I.ok.frames,I.ok.stk,I.ok.exf,I.ok.bs,I.ok.bsz,I.ok.noex,I.ok.exfs,I.ok.funs,I.ok.frf⟩,I.os,I.bare,I.base,I.loc,I.cell,I.free,I.freeC,I.pin,I.hok,I.len⟩
def Inv.ofH(I:Inv (hCx X e) pins σ H s)(ok:X.Ok):Inv X pins σ H s:=⟨ok,I.os,I.bare,I.base,I.loc,I.cell,I.free,I.freeC,I.pin,I.hok,I.len⟩
def Inv.toP(I:Inv X pins σ H s):Inv (DU X pins) [] σ H s:=
 ⟨⟨I.ok.mod,I.ok.kind,I.ok.glob,I.ok.blt,I.ok.above,I.ok.inj,I.ok.has,I.ok.cab,I.ok.hd,I.ok.frames,I.ok.stk,I.ok.exf,I.ok.bs,I.ok.bsz,I.ok.noex,I.ok.exfs,I.ok.funs,I.ok.frf⟩,I.os,I.bare,I.base,I.loc,I.cell,I.free,I.freeC,fun p a=>I.pin p (by rw[L6]at a;exact a),I.hok,I.len⟩
def Inv.ofP(I:Inv (DU X pins) [] σ H s)(ok:X.Ok):Inv X pins σ H s:=⟨ok,I.os,I.bare,I.base,I.loc,I.cell,I.free,I.freeC,fun p a=>I.pin p (by rw[L6];exact a),I.hok,I.len⟩
def Inv.track{e:Uf}{a:Obj}(I:Inv X pins σ H s)(d:s.heap.get? e=Z a)(f:a.data=.fields vs)(hn:H e=Y)(j:X.s₀.heap.get? e=Y)(l:∀p∈X.pn++pins,p.1≠e):
 Inv X pins σ (upd H e (.ext (NL e a.cls a.dict false))) s:=by
 have ne:∀b u,H b=Z u->b≠e:=fun b u z=>aQ z hn;refine⟨I.ok,I.os,I.bare,⟨I.base.keep,I.base.slot,fun b o q n r=>?_,I.base.there,fun b xs q=>?_,fun b o u q=>?_,fun b ps q=>?_⟩,I.loc,I.cell,?_,fun x c q=>?_,fun p h=>?_,fun b u q=>?_,I.len⟩
 .rw[aL (fun z=>by rw[z,j]at q;cases q)];exact I.base.free b o q n r
 .have:=I.base.tups b xs q;rw[aL (ne _ _ this)];exact this
 .have:=I.base.frzs b o u q;rw[aL (ne _ _ this)];exact this
 .obtain⟨more,this⟩:=I.base.tbls b ps q;exact⟨more,by rw[aL (ne _ _ this)];exact this⟩
 .obtain⟨m,⟨o,es,ep,g,hd,_⟩,_⟩:=I.loc;rw[aL (kD d f g fun ws z=>by rw[hd]at z;cases z)];exact I.free
 .obtain⟨v,o,g,hd⟩:=I.cell x c q;rw[aL (kD d f g fun ws z=>by rw[hd]at z;cases z)];exact I.freeC x c q
 .obtain⟨t,w,y⟩:=I.pin p h;exact⟨t,by rw[aL (l p h)];exact w,y⟩
 .by_cases i:b=e
  .subst i;rw[aT]at q;cases q;exact⟨⟨a,vs,d,rfl,rfl,f,fun z=>by cases z⟩,⟨a,d⟩,fun C D ⟨o,ws,A,B⟩ k=>⟨o,ws,k o A,B⟩⟩
  .rw[aL i]at q;exact(I.hok b u q).stay (fun _ _ _ z=>z) (fun c z=>by rw[aL (ne _ _ z)];exact z) fun c xs z=>by rw[aL (ne _ _ z)];exact z
def sU{M:Model}{i:Nat}{x:Str}{Q:Unit->Ue->Prop}(I:Inv X pins σ H s)(G:X.N.Nodup)(hi:X.N[i]?=Z x)(J:X.env.scope.names.lookup x=Z .local)
 (h:∀C,Inv X pins (σ.set i Y) H C->Q () C):wpAny M A (do bindName X.env x .none;unbindBehindTheSuite X.env x pos) Q E s:=by
 obtain⟨m,hn,L⟩:=id I.loc;have g:(X.env.scope.kind==.class || (X.env.scope.kind==.module&&X.env.locals != X.env.globals))=false:=by rw[I.ok.kind];rfl
 have l:i<σ.length:=by rw[I.len];exact(B3.mp hi).1
 obtain⟨oL,_,_,O,_⟩:=id hn;refine wpAny_nameGoes_keeps J hn g fun h' v w hs=>h _ ?_;have a:∀b o,X.s₀.heap.get? b=Z o->b≠X.env.locals:=fun b o q=>C3<|C5 (B6 q) I.ok.above;refine⟨I.ok,I.os,I.bare,⟨fun b o q n B r=>(hs.2 b<|a b o q).trans (I.base.keep b o q n B r),fun b o q n B r=>?_,I.base.free,fun b o q r=>?_,I.base.tups,I.base.frzs,I.base.tbls⟩,⟨_,w,fun j y P f t R=>?_⟩,fun y c q=>?_,I.free,I.freeC,fun p S=>?_,fun b u q=>?_,by simpa using I.len⟩
 .obtain⟨sl,f⟩:=I.base.slot b o q n B r;exact⟨sl,(hs.2 b<|a b o q).trans f⟩
 .obtain⟨o',f⟩:=I.base.there b o q r;exact⟨o',(hs.2 b<|a b o q).trans f⟩
 .have D:j≠i:=fun z=>by
   subst z;rw[E2 l]at t;cases t
  rw[E1 (S7 D)]at t;obtain⟨T,U,z⟩:=L j y P f t R;refine⟨T,U,?_⟩;rcases z with⟨k,e⟩|⟨k,c,e,z⟩
  .have:y≠x:=fun e=>D<|BN G f (e▸hi);exact .inl ⟨k,by simp[this,e]⟩
  .exact .inr ⟨k,c,e,z.sameBut hs<|I.cne y c e⟩
 .obtain⟨F,z⟩:=I.cell y c q;exact⟨F,z.sameBut hs<|I.cne y c q⟩
 .obtain⟨e,n,ne,V,d⟩:=I.pin p S;exact⟨(hs.2 p.1 ne).trans e,n,ne,V,d⟩
 .refine(I.hok b u q).stay (fun c F hc z=>(hs.2 c ?_).trans z) (fun _ z=>z) fun _ _ z=>z;rintro rfl;rcases hc with rfl|hc
  .rw[I.free]at q;cases q
  .rw[I.free]at hc;cases hc
structure HR where
 c:Uc
 n:Tj
 t:TS
def unbN:Tj->St->St
 |none,σ=>σ
 |some i,σ=>σ.set i Y
def setN:Tj->St->V->St
 |none,σ,_=>σ
 |some i,σ,v=>σ.set i<|Z v
def aDV(D:Ends)(n:Tj):Ends:={ nx:=fun σ H=>D.nx (unbN n σ) H,rt:=D.rt,bk:=fun σ H=>D.bk (unbN n σ) H,ct:=fun σ H=>D.ct (unbN n σ) H }
def tHs(K:Fg)(D:Ends):Ua HR->St->XK
 |[],_,_,_,_=>False
 |h::r,σ,c,dx,H=>∃b,PySem.W.exmOne K c h.c=Z b/\(if b=true then ∀e,H e=Y->h.t (aDV D h.n) (setN h.n σ (.ref e)) (upd H e (.ext (NL e c dx false)))else tHs K D r σ c dx H)
def aCS(X:Cx)(hs:Ua ExceptHandler)(rs:Ua HR):Prop:=∀(pins:T3)(D:Ends)(e:Uf)(c:Uc)(dx:Tk)(σ:St)(H:Hp)(s:Ue)(B:Heap)(E:T2),X.Ok->Inv (DU X pins) [] σ H s->Kp (DU X pins) H B s.heap->
 Fly B X.stack e c dx (Z .none) s.heap->tHs X.K D rs σ c dx H->wpAny (model X.prog X.w) X.A (handleBy (.ref e) X.env hs) (SP X pins D) E s
def aKj:aCS X [] []:=fun _ _ _ _ _ _ _ _ _ _ _ _ _ _ h=>h.elim
def aAI(X:Cx)(x:Str)(c:Uc):Prop:=X.mg x=Z c\/(X.mg x=Y/\bootBuiltins x=Z c/\x≠"__name__")
def aJR{Q:T2}(n:aAI X x c)(I:Inv X pins σ H s)(a:Gl X x)(hd:(x==("__debug__":Str))=false)(h:Q c s):
 wpAny (model X.prog X.w) X.A (eval (.Name x pos) X.env) Q E s:=by
 rcases n with m|⟨m,b,z⟩
 .exact tG I a m h hd
 .exact iH I a m b h z hd
def Fly.fresh{B h:Heap}{st:_}(bd:Body X)(I:Inv X pins σ H s)(k:Kp X H B s.heap)(F:Fly B X.stack e c dx st s.heap):H e=Y/\X.s₀.heap.get? e=Y/\∀p∈X.pn,p.1≠e:=by
 obtain⟨d,vs,a,_,_,f⟩:=F.obj;refine⟨?_,?_,fun p g z=>?_⟩
 .cases z:H e with
  |none=>rfl
  |some u=>
   have:=k.trk e u d z a;rw[F.new]at this;cases this
 .cases z:X.s₀.heap.get? e with
  |none=>rfl
  |some o=>
   by_cases b:e∈X.fs
   .obtain⟨_,j,i,hn⟩:=I.funs.mem b;exact absurd rfl<|kD a f i hn
   .obtain⟨⟨o',q⟩,_⟩:=k.ent e o z b;rw[F.new]at q;cases q
 .have:=k.pin p g;rw[z,F.new]at this;cases this
def aNt(X:Cx):Ub Str->Tj->Prop
 |none,none=>True
 |some n,some i=>X.N.Nodup/\X.N[i]?=Z n/\X.env.scope.names.lookup n=Z .local
 |_,_=>False
def aEF{pos:Pos}{l:Stmt}{g:Tc}{h:HR}(bd:Body X)(hc:aAI X x h.c)(hg:Gl X x)(hd:(x==("__debug__":Str))=false)
 (hn:aNt X nm h.n)
 (hS:∀e,PSs (hCx X e) (l::g) h.t) (hR:aCS X hs rs):aCS X (.ExceptHandler (Z (.Name x np)) nm (l::g) pos::hs) (h::rs):=by
 intro pins D e c dx σ H s B E ok I k F y;obtain⟨b,hb,y⟩:=y;have L:Body (DU X pins):=⟨bd.stk,bd.fr,bd.ex⟩;obtain⟨oe,vs,he,N,_,hv⟩:=F.obj;have LT:PySem.W.Looks (model X.prog X.w) s.heap (typeOf (.ref e)) c:=N▸(PySem.W.Looks.ld he).andThen .now;have IH:=(I.ofP ok).toH e;refine wpAny_handleBy_cons (codeAny_handlers_test<|aJR (X:=hCx X e) hc IH hg hd ?_) (by intro z;cases z);refine(PySem.W.exm_one IH.kIn LT hb).here ?_;cases b with
 |false=>exact hR pins D e c dx σ H s B E ok I k F y
 |true=>
  have V:=F
  have go:∀(P:Ue->Prop),(∀C,Inv X pins σ (upd H e (.ext (NL e c dx false))) C->P C)->wpAny (model X.prog X.w) (X.A.mark<|Z (.ref e)) (setFlight (.ref e) Y) (fun _ s1=>P s1) (notedBy (model X.prog X.w) (X.A.mark<|Z (.ref e)) X.env fun x C=>cameBackBy (model X.prog X.w) X.A X.env E x C) s:=fun P hP=>by
   refine AU V fun h1 F1 u1=>hP _ ?_;obtain⟨o,k1⟩:=I.up L k F1.stays u1;obtain⟨n1,n2,n3⟩:=Fly.fresh (h:=h1) L o k1 F1;obtain⟨a0,a1,O,Q,R,S⟩:=F1.obj;have G:=Inv.track o O S n1 n2 fun p hp=>n3 p 54;rw[Q,R]at G;exact G.ofP ok
  have T:=(Fly.fresh (h:=s.heap) L I k V).1;have J:=y e T;cases nm with
  |none=>
   cases j:h.n with
   |some i=>rw[j]at hn;exact False.elim hn
   |none=>
    rw[j]at J;refine codeAny_handlers_suite (go _ fun s1 o=>?_);refine E5 (hS e pins s1 σ _ (aDV D Y) (o.toH e) J) (fun f s2 z=>?_) fun _ _ z=>z.elim;cases f with
    |next=>obtain⟨a,H',d,q⟩:=z;exact⟨a,H',d.ofH ok,q⟩
    |brk=>obtain⟨a,H',d,q⟩:=z;exact⟨a,H',d.ofH ok,q⟩
    |cont=>obtain⟨a,H',d,q⟩:=z;exact⟨a,H',d.ofH ok,q⟩
    |ret u=>obtain⟨v,a,H',d,r,q⟩:=z;exact⟨v,a,H',d.ofH ok,r,q⟩
  |some n=>
   cases j:h.n with
   |none=>rw[j]at hn;exact False.elim hn
   |some i=>
    rw[j]at hn J;obtain⟨nd,hi,lo⟩:=hn;refine codeAny_handlers_suite_as (go _ fun s1 o=>?_);refine rS o nd hi (.inl lo) (v:=.ref e) rfl (fun s2 G=>?_) (.inr lo);refine E5 (hS e pins s2 _ _ (aDV D<|Z i) (G.toH e) J) (fun f s3 z=>?_) fun _ _ z=>z.elim;cases f with
    |next=>obtain⟨a,H',d,q⟩:=z;exact sU (d.ofH ok) nd hi lo fun U m=>⟨_,H',m,q⟩
    |brk=>obtain⟨a,H',d,q⟩:=z;exact sU (d.ofH ok) nd hi lo fun U m=>⟨_,H',m,q⟩
    |cont=>obtain⟨a,H',d,q⟩:=z;exact sU (d.ofH ok) nd hi lo fun U m=>⟨_,H',m,q⟩
    |ret u=>obtain⟨v,a,H',d,r,q⟩:=z;exact sU (d.ofH ok) nd hi lo fun U m=>⟨v,_,H',m,r,q⟩
def aJx(K:Fg)(tb:(St->XK)->TS)(rs:Ua HR):TS:=fun D σ H=>tb (tHs K D rs) D σ H
def aKW{b:Tc}{d:ExceptHandler}{hs:Ua ExceptHandler}{pos:Pos}{tb:(St->XK)->TS}(bd:Body X)
 (o:∀pins EE,PSs ((DU X pins).wish (XS (DU X pins) EE)) b<|tb EE) (p:aCS X (d::hs) rs):PS X (.Try b (d::hs) [] [] pos) (aJx X.K tb rs):=by
 intro pins s σ H D I h;have j:Body (DU X pins):=⟨bd.stk,bd.fr,bd.ex⟩;refine wpAny_Try_except (E5 (o pins (tHs X.K D rs) [] s σ H D (I.toP.wish _) h) (fun f s1 z=>?_) fun ev s1 z=>?_)
 .cases f with
  |next=>obtain⟨a,H',g,q⟩:=z;exact A2o ⟨a,H',g.unwish.ofP I.ok,q⟩
  |brk=>obtain⟨a,H',g,q⟩:=z;exact⟨a,H',g.unwish.ofP I.ok,q⟩
  |cont=>obtain⟨a,H',g,q⟩:=z;exact⟨a,H',g.unwish.ofP I.ok,q⟩
  |ret u=>obtain⟨v,a,H',g,r,q⟩:=z;exact⟨v,a,H',g.unwish.ofP I.ok,r,q⟩
 .obtain⟨e,c,dx,st,k,t,B,rfl,m,w,F1,l,q⟩:=z;have n:=m.ok.frames;have i:=F1;rw[j.stk]at i n;refine LL n j.fr i l fun G F2 x=>AU F2 fun J F3 y=>?_;obtain⟨A,C⟩:=m.up j w F2.stays x;obtain⟨E,F⟩:=A.up j C F3.stays y;exact p pins D e c dx k t _ B _ I.ok E F (by rw[bd.stk];exact F3) q
end
structure Exc where
 nm:Str
 fs:Tz
inductive Rs where
 |v (x:CD)|x (e:Exc)
inductive aOl where
 |o (o:Out)|xc (γ:Ga) (e:Exc)
abbrev EX:=Ga->Sto->Option (Rs×Sto)
abbrev AX:=Ga->Sto->Option ((List CD ⊕ Exc)×Sto)
abbrev SFX:=Ga->Sto->Ub (aOl×Sto)
abbrev FX:=T8->Sto->Ub (Rs×Sto)
section
variable(K:Fg)
def ExR(W:Wd)(ex:Exc)(c:Uc)(dx:Tk):Prop:=c=.ref (bQ K ex.nm)/\MJ K W dx ex.fs
def aID(E:XK)(Q:VK)(W:Wd)(H:Hp):Rs->Prop
 |.v x=>∀v,bW K W x v->Q v H
 |.x ex=>∀c dx,ExR K W ex c dx->E c dx H
def SEX(EE:St->XK)(t:TE)(f:EX):Prop:=∀a M r M',f a M=Z (r,M')->∀(W:Wd)(H:Hp)(σ:St)(Q:VK),Good K W M H->cF K W a σ->(∀W' H',W.Ext W'->Good K W' M' H'->aID K (EE σ) Q W' H' r)->t σ H Q
def aNC(E:XK)(Q:Tf->Hp->Prop)(W:Wd)(H:Hp):T8 ⊕ Exc->Prop
 |.inl xs=>∀vs,bR K W xs vs->Q vs H
 |.inr ex=>∀c dx,ExR K W ex c dx->E c dx H
def SAX(EE:St->XK)(t:TA)(f:AX):Prop:=∀a M r M',f a M=Z (r,M')->∀(W:Wd)(H:Hp)(σ:St)(Q:Tf->Hp->Prop),Good K W M H->cF K W a σ->(∀W' H',W.Ext W'->Good K W' M' H'->aNC K (EE σ) Q W' H' r)->t σ H Q
def aKK(EE:St->XK)(D:Ends)(W:Wd)(H:Hp):aOl->Prop
 |.o o=>aDI K D W H o
 |.xc a ex=>∀σ c dx,cF K W a σ->ExR K W ex c dx->EE σ c dx H
def SSX(EE:St->XK)(t:TS)(f:SFX):Prop:=∀a M o M',f a M=Z (o,M')->∀(W:Wd)(H:Hp)(σ:St)(D:Ends),Good K W M H->cF K W a σ->(∀W' H',W.Ext W'->Good K W' M' H'->aKK K EE D W' H' o)->t D σ H
def spX(f:FX):Sp:=fun vs H Q E=>∃xs M W r M',Good K W M H/\bR K W xs vs/\f xs M=Z (r,M')/\∀W' H',W.Ext W'->Good K W' M' H'->aID K E Q W' H' r
end
def liE(f:EF):EX:=fun a M=>(f a M).bind fun r=>Z (.v r.1,r.2)
def liA(f:AF):AX:=fun a M=>(f a M).bind fun r=>Z (.inl r.1,r.2)
def liS(f:SF):SFX:=fun a M=>(f a M).bind fun r=>Z (.o r.1,r.2)
def xCons(f:EX)(g:AX):AX:=fun a M=>(f a M).bind fun r=>match r.1 with
 |.x e=>Z (.inr e,r.2)
 |.v x=>(g a r.2).bind fun q=>match q.1 with
  |.inr e=>Z (.inr e,q.2)
  |.inl xs=>Z (.inl (x::xs),q.2)
def aOt(f:EX)(k:CD->Sto->Ub (Rs×Sto)):EX:=fun a M=>(f a M).bind fun r=>match r.1 with
 |.x e=>Z (.x e,r.2)
 |.v x=>k x r.2
def WY(f:AX)(k:T8->Sto->Ub (Rs×Sto)):EX:=fun a M=>(f a M).bind fun r=>match r.1 with
 |.inr e=>Z (.x e,r.2)
 |.inl xs=>k xs r.2
def xC(h:FX)(f:AX):EX:=WY f h
def zA(f g:SFX):SFX:=fun b M=>(f b M).bind fun r=>match r.1 with
 |.o (.nx a)=>g a r.2
 |o=>Z (o,r.2)
def aNy(f:EX):SFX:=fun a M=>(f a M).bind fun r=>match r.1 with
 |.x e=>Z (.xc a e,r.2)
 |.v x=>Z (.o (.rt x),r.2)
def pF(f:EX):SFX:=fun a M=>(f a M).bind fun r=>match r.1 with
 |.x e=>Z (.xc a e,r.2)
 |.v _=>Z (.o (.nx a),r.2)
def aOs(f:EX)(g:GF):SFX:=fun a M=>(f a M).bind fun r=>match r.1 with
 |.x e=>Z (.xc a e,r.2)
 |.v x=>(g x a r.2).bind fun q=>Z (.o (.nx q.1),q.2)
noncomputable def aFM(c:TF)(f g:SFX):SFX:=fun a M=>(c a M).bind fun r=>if r.1=true then f a r.2 else g a r.2
def IY(nm:Str):SFX:=fun a M=>Z (.xc a ⟨nm,[]⟩,M)
def fnX(ps N:Nat)(b:SFX):FX:=fun xs M=>if xs.length=ps then(b (xs.map Z++List.replicate (N-xs.length) Y) M).bind fun r=>match r.1 with
 |.o (.rt x)=>Z (.v x,r.2)
 |.o (.nx _)=>Z (.v (.d .none),r.2)
 |.xc _ e=>Z (.x e,r.2)
 |_=>Y else Y
def aCU:Tj->Ga->Ga
 |none,a=>a
 |some i,a=>a.set i Y
def setG:Tj->Ga->CD->Ga
 |none,a,_=>a
 |some i,a,x=>a.set i<|Z x
def aOQ(n:Tj):Out->Out
 |.nx a=>.nx (aCU n a)
 |.bk a=>.bk (aCU n a)
 |.ct a=>.ct (aCU n a)
 |.rt x=>.rt x
structure HMi where
 tab:Ua (Str×Bool)
 n:Tj
 f:SF
def UL:Ua HMi->Ga->Exc->Sto->Ub (Out×Sto)
 |[],_,_,_=>Y
 |h::r,a,ex,M=>match h.tab.lookup ex.nm with
  |some true=>(h.f (setG h.n a (.c M.length)) (M++[.exc false ex.nm ex.fs])).bind fun q=>Z (aOQ h.n q.1,q.2)
  |some false=>UL r a ex M
  |none=>Y
def ZE(b:SFX)(hs:Ua HMi):SF:=fun c M=>(b c M).bind fun r=>match r.1 with
 |.o o=>Z (o,r.2)
 |.xc a ex=>UL hs a ex r.2
section
variable{K:Fg}{EE:St->XK}{ta tb:TE}{tA:TA}{t u:TS}{f g:EX}{fa:AX}{p q:SFX}{tt:TT}{ft:TF}{tg:TG}{hg:GF}
def aMD{f:AF}(a:SA K tA f):SAX K EE tA (liA f):=by
 intro i M r M' h W H σ Q G R k;obtain⟨⟨x,M1⟩,b,h⟩:=aI h;cases h;exact a _ _ _ _ b W H σ Q G R fun v W' H' e c d=>k W' H' e c v d
def aKb{f:SF}(a:SS K t f):SSX K EE t (liS f):=by
 intro d M r M' h W H σ D G R k;obtain⟨⟨x,M1⟩,b,h⟩:=aI h;cases h;exact a _ _ _ _ b W H σ D G R fun W' H' e c=>k W' H' e c
def aCt{h:FX}(a:SAX K EE tA fa):SEX K EE (JP (spX K h) EE tA) (xC h fa):=by
 intro s M r M' b W H σ Q G R k;obtain⟨⟨x,M1⟩,j,b⟩:=aI b;refine a _ _ _ _ j W H σ _ G R fun c l d i=>?_;cases x with
 |inr e=>cases b;exact k c l d i
 |inl xs=>exact fun vs rs=>⟨xs,M1,c,r,M',i,rs,b,fun m n o G2=>k m n (d.trans o) G2⟩
def aHD(a:SSX K EE t p)(b:SSX K EE u q):SSX K EE (aJH t u) (zA p q):=by
 intro y M o M' c W H σ D G R k;obtain⟨⟨x,M1⟩,n,c⟩:=aI c;refine a _ _ _ _ n W H σ _ G R fun h i j l=>?_;cases x with
 |xc d e=>cases c;exact k h i j l
 |o x=>
  cases x with
  |nx d=>exact fun m r=>b _ _ _ _ c h i m D l r fun s v w G2=>k s v (j.trans w) G2
  |bk d=>cases c;exact k h i j l
  |ct d=>cases c;exact k h i j l
  |rt x=>cases c;exact k h i j l
def aAT(a:SEX K EE ta f):SSX K EE (aCP ta) (pF f):=by
 intro m M o M' b W H σ D G R k;obtain⟨⟨x,M1⟩,l,b⟩:=aI b;refine a _ _ _ _ l W H σ _ G R fun h i d j=>?_;cases x with
 |x e=>cases b;exact fun c dx z=>k h i d j σ c dx (R.up d) z
 |v x=>cases b;exact fun v n=>k h i d j σ<|R.up d
def aLa(c:STt K tt ft)(a:SSX K EE t p)(b:SSX K EE u q):SSX K EE (aMs tt t u) (aFM ft p q):=by
 intro s M o M' d W H σ D G R k;obtain⟨⟨x,M1⟩,r,d⟩:=aI d;refine c _ _ _ _ r W H σ _ G R fun l m e n=>?_;cases x with
 |true=>rw[A7 rfl];rw[A7 rfl]at d;exact a _ _ _ _ d l m σ D n (R.up e) fun h i j G2=>k h i (e.trans j) G2
 |false=>rw[B7 C6];rw[B7 C6]at d;exact b _ _ _ _ d l m σ D n (R.up e) fun h i j G2=>k h i (e.trans j) G2
def aAz:SSX K EE (LN EE<|bQ K nm) (IY nm):=by
 intro b M o M' a W H σ D G R k;cases a;exact k W H (.refl _) G σ _ Y R ⟨rfl,rfl⟩
def cF.setN{γ:Ga}{n:Tj}{x:CD}{v:V}(R:cF K W γ σ)(r:bW K W x v):cF K W (setG n γ x) (setN n σ v):=by
 cases n with
 |none=>exact R
 |some i=>exact Paired.set (x:=Z x) (y:=Z v) r i R
def cF.unbN{γ:Ga}{n:Tj}(R:cF K W γ σ):cF K W (aCU n γ) (unbN n σ):=by
 cases n with
 |none=>exact R
 |some i=>exact Paired.set (x:=Y) (y:=Y) True.intro i R
inductive HsM(K:Fg):Ua HR->Ua HMi->Prop
 |nil:HsM K [] []
 |cons {h:HR} {m:HMi} {hs:Ua HR} {ms:Ua HMi} (hn:h.n=m.n) (ht:∀nm b,m.tab.lookup nm=Z b->PySem.W.exmOne K (.ref (bQ K nm)) h.c=Z b) (hS:SS K h.t m.f) (r:HsM K hs ms):HsM K (h::hs) (m::ms)
theorem aBu{D:Ends}{W:Wd}{M M':Sto}{H:Hp}{γ:Ga}{σ:St}{ex:Exc}{c:Uc}{dx:Tk}{o:Out}(G:Good K W M H)(R:cF K W γ σ)(E:ExR K W ex c dx):
 ∀{hs:Ua HR}{ms:Ua HMi},HsM K hs ms->UL ms γ ex M=Z (o,M')->(∀W' H',W.Ext W'->Good K W' M' H'->aDI K D W' H' o)->tHs K D hs σ c dx H
 |_,_,.nil=>fun h _=>by cases h
 |_,_,@HsM.cons _ h m hs ms hn ht hS r=>fun d k=>by
  obtain⟨rfl,v⟩:=E;unfold UL at d;cases e:m.tab.lookup ex.nm with
  |none=>rw[e]at d;cases d
  |some b=>
   rw[e]at d;refine⟨b,ht _ _ e,?_⟩;cases b with
   |false=>rw[B7 C6];exact aBu G R ⟨rfl,v⟩ r d k
   |true=>
    intro a ha;obtain⟨⟨y,M1⟩,z,d⟩:=aI d;have s:=d;cases s;have A:Good K (W.more a) (M++[.exc false ex.nm ex.fs]) (upd H a (.ext (NL a (.ref (bQ K ex.nm)) dx false))):=G.new ha ⟨dx,rfl,v⟩;have w:=W.ext_more a;have B:bW K (W.more a) (.c M.length) (.ref a):=⟨by show M.length<W.n+1;rw[G.n];exact S6 _,by show _=V.ref (if M.length=W.n then a else _);rw[A7 G.n.symm]⟩;rw[hn];refine hS _ _ _ _ z (W.more a) _ _ _ A ((R.up w).setN B) fun C F I G2=>?_;have l:=k C F (w.trans I) G2;cases y with
    |nx i=>exact fun j R2=>l _ R2.unbN
    |bk i=>exact fun j R2=>l _ R2.unbN
    |ct i=>exact fun j R2=>l _ R2.unbN
    |rt x=>exact l
def aMB{tb:(St->XK)->TS}{rs:Ua HR}{ms:Ua HMi}(b:∀EE,SSX K EE (tb EE) p)(h:HsM K rs ms):SS K (aJx K tb rs) (ZE p ms):=by
 intro y M o M' a W H σ D G R k;obtain⟨⟨x,M1⟩,i,a⟩:=aI a;refine b _ _ _ _ _ i W H σ D G R fun j l d e=>?_;cases x with
 |o x=>cases a;exact k j l d e
 |xc m ex=>exact fun n c dx r E=>aBu e r E h a fun s v w G2=>k s v (d.trans w) G2
end
section
variable{ι:Type}
structure MX(K:Fg)(X:ι->Cx)(EE:ι->St->XK)(e:Ug)(f:EX):Prop where
 ex:∃t:ι->TE,(∀i,PE (X i) e<|t i)/\∀i,SEX K (EE i) (t i) f
structure MAX(K:Fg)(X:ι->Cx)(EE:ι->St->XK)(es:Tb)(f:AX):Prop where
 ex:∃t:ι->TA,(∀i,PA (X i) es<|t i)/\∀i,SAX K (EE i) (t i) f
 st:PB es
structure MSX(K:Fg)(X:ι->Cx)(EE:ι->St->XK)(st:Stmt)(f:SFX):Prop where
 ex:∃t:ι->TS,(∀i,PS (X i) st<|t i)/\∀i,SSX K (EE i) (t i) f
structure MLX(K:Fg)(X:ι->Cx)(EE:ι->St->XK)(st:Tc)(f:SFX):Prop where
 ex:∃t:ι->TS,(∀i,PSs (X i) st<|t i)/\∀i,SSX K (EE i) (t i) f
variable{K:Fg}{X:ι->Cx}{EE:ι->St->XK}{e a b c tg iter:Ug}{es:Tb}{f g:EX}{fa:AX}{p q:SFX}{ft:TF}{gf:GF}{st:Stmt}{sts sts':Tc}{pos:Pos}
def aDH{f:AF}(x:MA K X es f):MAX K X EE es (liA f):=by
 obtain⟨t,d,h⟩:=x.ex;exact⟨⟨fun _=>t,d,fun _=>aMD h⟩,x.st⟩
def aAV{f:SF}(x:ML K X sts f):MLX K X EE sts (liS f):=by
 obtain⟨t,d,h⟩:=x.ex;exact⟨fun _=>t,d,fun _=>aKb h⟩
def UW{F:FX}{p:Pos}(ok:∀i,XOk (X i)<|EE i)(C:∀i,pA (X i).prog (X i).w (X i).K (X i).mg (X i).base k x ps (spX K F))(d:∀i,cE k (X i).A)(y:MAX K X EE (e::es) fa)(h:∀i,Gl (X i) x:=by intro _;rfl)(hd:(x==("__debug__":Str))=false:=by decide):
 MX K X EE (.Call (.Name x p) (e::es) [] pos) (xC F fa):=by
 obtain⟨u,j,l⟩:=y.ex;exact⟨_,fun i=>aFb (ok i) (C i) (d i) (j i) (h i) hd (y.st.1 _)<|y.st.2.plain _ _,fun i=>aCt<|l i⟩
def KH(x:MSX K X EE st p):MLX K X EE [st] p:=by
 obtain⟨t,d,h⟩:=x.ex;exact⟨t,fun i=>VG<|d i,h⟩
def aDt(x:MSX K X EE st p)(y:MLX K X EE sts q):MLX K X EE (st::sts) (zA p q):=by
 obtain⟨t,d,h⟩:=x.ex;obtain⟨u,j,k⟩:=y.ex;exact⟨_,fun i=>MP (d i)<|j i,fun i=>aHD (h i)<|k i⟩
def NG(x:MX K X EE e f)(hs:∀i,swapsWith e Y pos.line (X i).env=pure false:=by intro _;rfl):MSX K X EE (.Expr e pos) (pF f):=by
 obtain⟨t,d,h⟩:=x.ex;exact⟨_,fun i=>WQ (d i)<|hs i,fun i=>aAT<|h i⟩
def aLr(x:MT K X c ft)(y:MLX K X EE sts p)(z:MLX K X EE sts' q):MSX K X EE (.If c sts sts' pos) (aFM ft p q):=by
 obtain⟨t,d,h⟩:=x.ex;obtain⟨u,j,k⟩:=y.ex;obtain⟨v,l,m⟩:=z.ex;exact⟨_,fun i=>aIJ (d i) (j i)<|l i,fun i=>aLa h (k i)<|m i⟩
def RW{cpos:Pos}(ok:∀i,XOk (X i)<|EE i)(k:∀i,(X i).K=K)(h:∀i,(X i).calm=true)(hm:∀i,(X i).mg x=Z (.ref (bQ K x)))(q:PySem.W.excIn K (bQ K x) bmV "ValueError.__new__"=true)(j:∀i,Gl (X i) x:=by intro _;rfl)(hd:(x==("__debug__":Str))=false:=by decide):
 MSX K X EE (.Raise (Z (.Call (.Name x d) [] [] cpos)) Y pos) (IY x):=
 ⟨fun i=>LN (EE i)<|bQ K x,fun i=>ZF (ok i) (h i) (hm i) 54 (j i) hd,fun _=>aAz⟩
def aOc(X:ι->Cx):ι×T3×(St->XK)->Cx:=fun j=>(DU (X j.1) j.2.1).wish (XS (DU (X j.1) j.2.1) j.2.2)
def aOP:ι×T3×(St->XK)->St->XK:=fun j=>j.2.2
def aPe(X:ι->Cx):ι×Uf->Cx:=fun j=>hCx (X j.1) j.2
def aOT(bd:∀i,Body<|X i)(j:ι×T3×(St->XK)):XOk (aOc X j) (aOP (ι:=ι) j):=
 XOk.of (X:=DU (X j.1) j.2.1) ⟨(bd j.1).stk,(bd j.1).fr,(bd j.1).ex⟩ _
structure MH(K:Fg)(X:ι->Cx)(hs:Ua ExceptHandler)(ms:Ua HMi):Prop where
 ex:∃rs,(∀i,aCS (X i) hs rs)/\HsM K rs ms
def aKq:MH K X [] []:=⟨[],fun _=>aKj,.nil⟩
def aFm{l:Pos}{h:Stmt}{d:Tc}{tab:Ua (Str×Bool)}{f:SF}(j:Uc)(bd:∀i,Body<|X i)(m:∀i,aAI (X i) x j)
 (hn:∀i,aNt (X i) nm n)
 (ht:∀p∈tab,PySem.W.exmOne K (.ref (bQ K p.1)) j=Z p.2) (hS:ML K (aPe X) (h::d) f) (r:MH K X hs ms) (o:∀i,Gl (X i) x:=by intro _;rfl) (hd:(x==("__debug__":Str))=false:=by decide):
 MH K X (.ExceptHandler (Z (.Name x k)) nm (h::d) l::hs) (⟨tab,n,f⟩::ms):=by
 obtain⟨t,s,u⟩:=hS.ex;obtain⟨rs,v,w⟩:=r.ex;refine⟨⟨j,n,t⟩::rs,fun i=>aEF (bd i) (m i) (o i) hd (hn i) (fun e=>s (i,e))<|v i,.cons rfl (fun nm b z=>?_) u w⟩;exact ht (nm,b)<|O8 z
def aLI{d:ExceptHandler}{hs:Ua ExceptHandler}(bd:∀i,Body<|X i)(j:∀i,(X i).K=K)(x:MLX K (aOc X) (aOP (ι:=ι)) sts p)(h:MH K X (d::hs) ms):MS K X (.Try sts (d::hs) [] [] pos) (ZE p ms):=by
 obtain⟨rs,l,m⟩:=h.ex;obtain⟨t,n,r⟩:=x.ex;refine⟨aJx K (fun EE D σ H=>∀i pins,t (i,pins,EE) D σ H) rs,fun i=>?_,aMB (fun EE=>?_) m⟩
 .have:=aKW (tb:=fun EE D σ H=>∀i pins,t (i,pins,EE) D σ H) (pos:=pos) (bd i) (fun pins EE ps s σ H D I h=>n (i,pins,EE) ps s σ H D I<|h i pins)<|l i;rw[j i]at this;exact this
 .exact fun u M o M' v W H σ D G R k i pins=>r (i,pins,EE) u M o M' v W H σ D G R k
section
variable{P:Uh}{w:World}{K:Fg}{mg:Str->Ti}{base:Heap}
abbrev aMx(P:Uh)(w:World)(K:Fg)(mg:Str->Ti)(base:Heap)(N:Te)(x:Str)(st:Stmt)(f:Uf)(cdv:Uc)(A:Ui)(outer:Ua Env)(s:Ue)(H:Hp)(E:XK):Unit->Cx:=fun _=>
 (lM (CX1 P w) P w K mg base N x (aH st) f cdv A outer s H E).wish (XS (lM (CX1 P w) P w K mg base N x (aH st) f cdv A outer s H E) fun _=>E)
def aIl{st:Stmt}{f:Uf}(i:Unit):XOk (aMx P w K mg base N x st f cdv A outer s H E i) ((fun _ _=>E:Unit->St->XK) i):=XOk.of UY _
def Fun.okXF{x qual:Str}{st:Stmt}{N ps:Te}{k:Nat}{b:SFX}{f:Uf}{fd:FuncData}(Fu:Fun K x qual st f fd)(S:aU N ps (aH st))
 (i:∀(f:Uf)(cdv:Uc)(A:Ui)(outer:Ua Env)(s:Ue)(H:Hp)(E:XK),cE k (A.deeper<|envOfC qual (aH st) s.heap.objs.size f cdv)->
  MLX K (aMx P w K mg base N qual st f cdv A outer s H E) (fun _ _=>E) (bP st) b):jH P w K mg base (CX1 P w) (k+1) f fd ps (spX K (fnX ps.length N.length b)):=by
 obtain⟨oc,od,kV,doc,pm,an,cdv,ct,osl,rfl,F,l⟩:=Fu.ex
 have len:∀vs H Q E,spX K (fnX ps.length N.length b) vs H Q E->vs.length=ps.length:=fun vs H Q E h=>by
  obtain⟨xs,M,W,y,M',G,R,d,_⟩:=h;by_cases j:xs.length=ps.length
  .rw[<- Paired.len R];exact j
  .unfold fnX at d;rw[B7 j]at d;cases d
 refine aLG F l S len fun A outer s H vs Q E I h=>?_;obtain⟨t,J,L⟩:=(i f cdv A outer s H E I).ex;refine⟨t (),J (),?_⟩;obtain⟨xs,M,W,r,M',G,R,d,m⟩:=h
 have j:xs.length=ps.length:=by
  by_cases j:xs.length=ps.length
  .exact j
  .unfold fnX at d;rw[B7 j]at d;cases d
 unfold fnX at d;rw[A7 j]at d;obtain⟨⟨o,M1⟩,O,d⟩:=aI d
 have T:cF K W (xs.map Z++List.replicate (N.length-xs.length) Y) (start N vs):=by
  unfold start;rw[<- Paired.len R];exact Paired.app (bR.some R)<|sG _
 refine L () _ _ _ _ O W H _ _ G T fun n u B C=>?_;cases o with
 |xc D e=>cases d;exact fun σ c dx _ z=>m n u B C c dx z
 |o o=>
  cases o with
  |rt x=>cases d;exact fun v r=>m n u B C v r
  |nx D=>cases d;exact fun σ r=>m n u B C .non rfl
  |bk D=>cases d
  |ct D=>cases d
def Def.okX{st:Stmt}{ps:Te}{b:SFX}(D:Def K mg x st)(S:aU N ps (aH st))
 (h:∀(kV doc pm:Uc)(an:Tk)(cdv ct:Uc)(us:T6),us.length=ps.length->bindArgs (PySem.W.fnOf x x (dH st) (bP st) (aH st) .none kV doc pm an cdv ct) ⟨us,[]⟩=pure (ps.zip us))
 (d:∀(f:Uf)(cdv:Uc)(A:Ui)(outer:Ua Env)(s:Ue)(H:Hp)(E:XK),cE k (A.deeper<|envOfC x (aH st) s.heap.objs.size f cdv)->
  MLX K (aMx P w K mg base N x st f cdv A outer s H E) (fun _ _=>E) (bP st) b):pA P w K mg base (k+1) x ps (spX K (fnX ps.length N.length b)):=by
 obtain⟨f,fd,Fu,m⟩:=D.ex;exact⟨f,fd,Fu.okXF S d,m,Fu.kp,Fu.binds h⟩
end
end
structure XC(K:Fg)(C:Uf):Prop where
 c:aDM K C
 ha:PySem.W.findIn K (.ref C) "__class__"=Z (Z (.builtin "object.__class__"))
 hn:PySem.W.specialIn K (.builtin "object.__class__") "__get__"=Z (Z (.builtin "getset_descriptor.__get__"))
 htk:PySem.W.takesIn K (.builtin "object.__class__")=Z true
 hm:PySem.W.mroIn K C (.type "object")=Z true
def aJl(H:Hp):Tk->Prop
 |none=>True
 |some d=>∃us,H d=Z (.xd us)
inductive ClV:V->Uc->Prop
 |own (C:Uf):ClV (.ref C) (.ref C)
 |ty (T:String):ClV (.ty T) (.type T)
def ClV.is(h:ClV v c)(r:RelV v u):u=c:=by cases h<;>exact r
def aAP(K:Fg):Tf->Hp->VK->Prop:=fun xs H Q=>∃v d c b,xs=[v,d]/\ClV d c/\Q (.bl b) H /\
 ((v=.non/\PySem.W.kitOne K (.type "NoneType") c=Z b)\/∃a C dx fr,v=.ref a/\H a=Z (.ext (NL a (.ref C) dx fr))/\aJl H dx/\XC K C/\PySem.W.kitOne K (.ref C) c=Z b)
section
variable{X:Cx}{K:Fg}
def aBi(I:Inv X pins σ H s)(h:H a=Z (.ext (NL a (.ref C) dx fr)))(d:aJl H dx):∃c od,PySem.W.InstAt s.heap a c C od/\c.dict=dx:=by
 obtain⟨⟨o,vs,e,f,b,i,_⟩,_⟩:=I.hok a _ h
 have g:PySem.W.notCls o=true:=by
  obtain⟨_,_,dt,_⟩:=o;cases i;rfl
 cases dx with
 |none=>exact⟨o,Y,⟨e,f,g,by rw[b];exact True.intro⟩,b⟩
 |some j=>
  obtain⟨us,hd⟩:=d;obtain⟨od,q⟩:=(I.hok j _ hd).there;exact⟨o,Z od,⟨e,f,g,by rw[b];exact q⟩,b⟩
def YK:fP X (.builtin "isinstance") (aAP X.K):=by
 intro pins s σ H vs us Q I r h;obtain⟨v,j,c,b,rfl,rc,q,h⟩:=h;obtain⟨u,k,rfl,g,f⟩:=vals2 r;cases rc.is f;rcases h with⟨rfl,e⟩|⟨a,C,dx,fr,rfl,ha,d,xc,e⟩
 .cases g;exact PySem.W.kia_one PySem.W.kitx_none I.kIn True.intro e (fun z=>nomatch z) fun tk=>⟨.bl _,H,I.tok tk,rfl,q⟩
 .cases g;obtain⟨i,od,J,_⟩:=aBi I ha d;exact PySem.W.kia_one (aBW xc.c xc.ha xc.hn xc.htk xc.hm) I.kIn ⟨i,od,J⟩ e (fun z=>nomatch z) fun tk=>⟨.bl _,H,I.tok tk,rfl,q⟩
def aNw(h:X.K=K):fP X (.builtin "isinstance") (aAP K):=by subst h;exact YK
def QE(tab:Ua (Str×Bool))(nn:Ub Bool)(f:EF):EF:=fun a M=>(f a M).bind fun r=>match r.1 with
 |.c i=>(match r.2[i]? with
  |some (.exc _ nm _)=>(tab.lookup nm).bind fun b=>Z (.d (.bool b),r.2)
  |_=>Y)
 |.d .none=>nn.bind fun b=>Z (.d (.bool b),r.2)
 |_=>Y
def MJ.ok{fs:Tz}(r:MJ K W dx fs)(s:iC W.F H):aJl H dx:=by
 cases dx with
 |none=>exact True.intro
 |some d=>obtain⟨_,us,h,_⟩:=r;exact⟨us,s _ _ h⟩
def Good.excAt{i:Nat}{fs:Tz}(G:Good K W M H)(h:M[i]?=Z (.exc fr nm fs)):∃dx,H (W.α i)=Z (.ext (NL (W.α i) (.ref (bQ K nm)) dx fr))/\MJ K W dx fs:=by
 obtain⟨_,o,b,a⟩:=G.cs i _ h 53;cases o with
 |ext c=>
  obtain⟨dx,rfl,r⟩:=a;exact⟨dx,b,r⟩
 |_=>exact False.elim a
def aFU{tab:Ua (Str×Bool)}{nn:Ub Bool}{n:TE}{f:EF}{j:V}{c:Uc}(o:ClV j c)(ht:∀p∈tab,XC K (bQ K p.1)/\PySem.W.kitOne K (.ref (bQ K p.1)) c=Z p.2)(hn:∀b,nn=Z b->PySem.W.kitOne K (.type "NoneType") c=Z b)
 (a:SE K n f):SE K (tCB (aAP K)<|tS n<|tS (tC j) ZJ) (QE tab nn f):=by
 intro D M x M' h W H σ Q G R k;obtain⟨⟨y,M1⟩,w,h⟩:=aI h;refine a _ _ _ _ w W H σ _ G R fun v q r s l u=>?_;cases y with
 |t _=>cases h
 |f _=>cases h
 |g _=>cases h
 |c i=>
  dsimp only at h;cases e:M1[i]? with
  |none=>rw[e]at h;cases h
  |some cl=>
   rw[e]at h;cases cl with
   |exc fr nm fs=>
    obtain⟨b,m,h⟩:=aI h;cases h;obtain⟨z,A⟩:=ht (nm,b)<|O8 m;obtain⟨dx,B,C⟩:=l.excAt e;exact⟨v,j,c,b,rfl,o,k _ q r s l rfl,.inr ⟨_,_,dx,fr,u.2,B,C.ok l.fh,z,A⟩⟩
   |_=>cases h
 |d y=>
  cases y with
  |none=>
   obtain⟨b,m,h⟩:=aI h;cases h;exact⟨v,j,c,b,rfl,o,k _ q r s l rfl,.inl ⟨u,hn b m⟩⟩
  |_=>cases h
end
section
variable{ι:Type}{K:Fg}{X:ι->Cx}{a:Ug}{f:EF}{pos:Pos}
def aKv(hm:∀i,(X i).mg y=Z (.ref C))(b:∀i,Gl (X i) y:=by intro _;rfl)(hd:(y==("__debug__":Str))=false:=by decide):∀i p',PE (X i) (.Name y p') (tC (.ref C)):=fun i _=>WV (b i) (hm i) rfl hd
def aOU(hm:∀i,(X i).mg y=Y)(b:bootBuiltins y=Z (.type T))(c:∀i,Gl (X i) y:=by intro _;rfl)(hn:y≠"__name__":=by decide)(hd:(y==("__debug__":Str))=false:=by decide):∀i p',PE (X i) (.Name y p') (tC (.ty T)):=fun i _=>AJ (c i) (hm i) b rfl hn hd
def XZ{p p':Pos}{tab:Ua (Str×Bool)}{nn:Ub Bool}(e:∀i,(X i).K=K)(g:ClV d c)(h:∀i p',PE (X i) (.Name y p')<|tC d)(ht:∀p∈tab,XC K (bQ K p.1)/\PySem.W.kitOne K (.ref (bQ K p.1)) c=Z p.2)(hn:∀b,nn=Z b->PySem.W.kitOne K (.type "NoneType") c=Z b)
 (x:ME K X a f) (hs:UE a [.Name y p']) (hm:∀i,(X i).mg "isinstance"=Y) (j:∀i,Gl (X i) "isinstance":=by intro _;rfl):ME K X (.Call (.Name "isinstance" p) [a,.Name y p'] [] pos) (QE tab nn f):=by
 obtain⟨t,k,l⟩:=x.ex;exact⟨_,fun i=>wZ (aNw<|e i) (j i) (hm i) boot_isinstance (jX (k i) (jX (h i _) DB cD)<|hs _) 52 52 (hs _)<|oE cD xS,aFU g ht hn l⟩
end
def oS(h:FX)(f:AF):EF:=fun a M=>(f a M).bind fun r=>(h r.1 r.2).bind fun q=>match q.1 with
 |.v x=>Z (x,q.2)
 |.x _=>Y
def noX:St->XK:=fun _ _ _ _=>False
section
variable{X:Cx}{K:Fg}
def aCb{e:Ug}{es:Tb}(C:pA X.prog X.w X.K X.mg X.base k x ps sp)(d:cE k X.A)(ha:PA X (e::es) t)(g:Gl X x)
 (a:(x==("__debug__":Str))=false) (i:starEach (e::es) X.env=(false,eval e X.env)::starEach es X.env) (c:(backTo pos<|starEach es X.env).any (·.1)=false):
 PE X (.Call (.Name x p) (e::es) [] pos) (JP sp noX t):=by
 obtain⟨f,fd,F,m,kp,b⟩:=C.ex
 exact VQ (E:=noX []) F d g m kp b .nil (fun _ _ _ _ _ _ _ h=>by obtain⟨_,_,_,_,_,_,_,_,_,_,_,_,_,z⟩:=h;exact z.elim) ha a i c |> fun h pins s σ H Q I j=>h pins s σ H Q I (by
  show t σ H fun vs l=>sp (vs++[]) l Q (noX []);simpa only[L6]using j)
def YD{h:FX}{c:TA}{fa:AF}(a:SA K c fa):SE K (JP (spX K h) noX c) (oS h fa):=by
 intro q M x M' b W H σ Q G R k;obtain⟨⟨xs,M1⟩,d,b⟩:=aI b;obtain⟨⟨r,M2⟩,f,b⟩:=aI b;refine a _ _ _ _ d W H σ _ G R fun vs g s i j l=>?_;refine⟨xs,M1,g,r,M2,j,l,f,fun m n o G2=>?_⟩;cases r with
 |x e=>cases b
 |v y=>cases b;exact fun v p=>k v m n (i.trans o) G2 p
end
def yO{ι:Type}{X:ι->Cx}{e:Ug}{es:Tb}{pos:Pos}{F:FX}(C:∀i,pA (X i).prog (X i).w (X i).K (X i).mg (X i).base k x ps (spX K F))(a:∀i,cE k (X i).A)(y:MA K X (e::es) fa)(b:∀i,Gl (X i) x:=by intro _;rfl)(hd:(x==("__debug__":Str))=false:=by decide):
 ME K X (.Call (.Name x p) (e::es) [] pos) (oS F fa):=by
 obtain⟨u,c,d⟩:=y.ex;exact⟨_,fun i=>aCb (C i) (a i) (c i) (b i) hd (y.st.1 _)<|y.st.2.plain _ _,YD d⟩
def zR:bootBuiltins "ValueError"=Z (.type "ValueError"):=by decide +kernel
section
variable{K:Fg}{cv:Uc}{a:Str}{b:Bool}{l:Ua (Str×Bool)}
def aBY:∀p∈([]:Ua (Str×Bool)),PySem.W.exmOne K (.ref (bQ K p.1)) cv=Z p.2:=fun _ h=>absurd h 53
def aAd(h:PySem.W.exmOne K (.ref (bQ K a)) cv=Z b)(r:∀p∈l,PySem.W.exmOne K (.ref (bQ K p.1)) cv=Z p.2):∀p∈(a,b)::l,PySem.W.exmOne K (.ref (bQ K p.1)) cv=Z p.2:=54
def XB{b:Bool}(h:PySem.W.kitOne K (.type "NoneType") cv=Z b):∀c,Z b=Z c->PySem.W.kitOne K (.type "NoneType") cv=Z c:=fun c e=>by cases e;exact h
def KP(h:PySem.W.nsIn K mainGlobals nm=Z (Z (.ref C))):bQ K nm=C:=by unfold bQ;rw[h]
end
mutual
noncomputable def snap:Nat->Sto->CD->Ub Ud
 |_,_,.d x=>Z x
 |0,_,.c _=>Y
 |n+1,M,.c i=>match M[i]? with
  |some (.lst xs)=>(rZ n M xs).bind fun ds=>Z (.list ds)
  |_=>Y
 |_,_,.f _=>Y
 |_,_,.g _=>Y
 |0,_,.t _=>Y
 |n+1,M,.t xs=>(rZ n M<|xs.map cdA).bind fun ds=>Z (.tuple ds)
noncomputable def rZ:Nat->Sto->T8->Ub (T5)
 |_,_,[]=>Z []
 |n,M,x::xs=>(snap n M x).bind fun d=>(rZ n M xs).bind fun ds=>Z (d::ds)
end
section
variable{K:Fg}{W:Wd}{M:Sto}{H:Hp}
def Good.lstAt'(G:Good K W M H){i:Nat}(h:M[i]?=Z (.lst xs)):∃vs,H (W.α i)=Z (.lst vs)/\bR K W xs vs:=by
 obtain⟨_,o,b,a⟩:=G.cs i _ h (by intro z;cases z);cases o with
 |lst vs=>exact⟨vs,b,a⟩
 |_=>exact False.elim a
mutual
theorem vL(G:Good K W M H):∀(n:Nat)(x:CD)(d:Ud)(v:V),snap n M x=Z d->bW K W x v->Rep K H d v
 |0,.d x=>fun d v h r=>by unfold snap at h;cases h;exact Rep.same G.fh _ _ r
 |n+1,.d x=>fun d v h r=>by unfold snap at h;cases h;exact Rep.same G.fh _ _ r
 |0,.c i=>fun d v h r=>by unfold snap at h;cases h
 |n+1,.c i=>fun d v h r=>by
  unfold snap at h;cases e:M[i]? with
  |none=>rw[e]at h;cases h
  |some c=>
   rw[e]at h;cases c with
   |lst xs=>
    obtain⟨ds,b,h⟩:=aI (show(rZ n M xs).bind _=_ from h);cases h;obtain⟨vs,j,l⟩:=G.lstAt' e;exact⟨W.α i,vs,r.2,SqL.of j,yM G n xs ds vs b l⟩
   |_=>cases h
 |0,.f xs=>fun d v h r=>by unfold snap at h;cases h
 |n+1,.f xs=>fun d v h r=>by unfold snap at h;cases h
 |0,.g xs=>fun d v h r=>by unfold snap at h;cases h
 |n+1,.g xs=>fun d v h r=>by unfold snap at h;cases h
 |0,.t xs=>fun d v h r=>by unfold snap at h;cases h
 |n+1,.t xs=>fun d v h r=>by
  unfold snap at h;obtain⟨ds,b,h⟩:=aI h;cases h;obtain⟨a,vs,rfl,j,l⟩:=r;exact⟨a,vs,rfl,SqT.of<|G.fh _ _ j,yM G n _ ds vs b<|WS l⟩
theorem yM(G:Good K W M H):∀(n:Nat)(xs:T8)(ds:T5)(vs:Tf),rZ n M xs=Z ds->bR K W xs vs->aM K H ds vs
 |_,[]=>fun ds vs h r=>by
  unfold rZ at h;cases h;cases r;rfl
 |n,x::xs=>fun ds vs h r=>by
  unfold rZ at h;obtain⟨d,b,h⟩:=aI h;obtain⟨es,j,h⟩:=aI h;cases h;cases r with
  |@cons _ v _ k m o=>exact⟨v,k,rfl,vL G n x d v b m,yM G n xs es k j o⟩
end
end
def wG:FN:=fun xs M=>match xs with
 |[x]=>(snap 5 M x).bind fun d=>if sV d=true then Z (.d (.str d.shown),M)else Y
 |_=>Y
def RG:snap n M (.d x)=Z x:=by cases n<;>simp only[snap]
def aFt:wG [.d x] M=WG [.d x] M:=by unfold wG WG;dsimp only;rw[RG];rfl
def aCZ:PN K (aIN K) wG:=by
 intro xs M z M' h W H vs Q G r k;unfold wG at h;split at h
 .rename_i x;obtain⟨d,a,h⟩:=aI h;by_cases hs:sV d=true
  .rw[A7 hs]at h;cases h;rcases r with _|⟨b,_|_⟩;have c:=hs;unfold sV at hs;rw[B4,B4]at hs;exact⟨_,d,rfl,vL G 5 x d _ a b,hs.1.1,D7 hs.1.2,D7 hs.2,k _ W H (.refl _) G rfl⟩
  .rw[B7 hs]at h;cases h
 .cases h
def WC{ι:Type}{X:ι->Cx}(a:∀i,(X i).K=K)(b:∀i,(X i).A.guards=Z [])(c:∀i,(X i).A.units+200<cLine):QN K X (.builtin "repr") wG:=⟨_,fun i=>aNK (a i) (b i)<|c i,aCZ⟩
open PySem PySem.Spec PyProof.Rows PySem.Builtin PySem.Builtin.ObjectAttr
end L2
namespace L2
variable{W:Wd}{M:Sto}{H:Hp}
open PySem PySem.Spec PyProof.Rows
section
variable{P:Uh}{w:World}{K:Fg}{mg:Str->Ti}{base:Heap}
def XN{st:Stmt}{C:Uf}{oc:Uc}{od:Tk}{osl:Array (Ti)}{kV doc:Uc}(a:bQ K nm=C)(b:PySem.W.findIn K (.ref C) m=Z (Z (.ref f)))
 (l:K.lookup f=Z ⟨oc,od,.func (PySem.W.fnOf m qual (dH st) (bP st) (aH st) .none kV doc pm an cdv ct),osl⟩) (c:PySem.W.codeIn K cdv qual=true) (k:PySem.W.keepIn K (.ref f)=true) (fn:PySem.W.isFn K (.ref f)=true):UB K nm m qual st:=
 ⟨f,_,aDA l c k,by rw[a];exact b,fn⟩
end
section
variable{K:Fg}
def FQ:F2:=fun x y M=>(zK M x).bind fun xs=>(zK M y).bind fun a=>if xs.length+a.length<=sizeLine then Z (.c M.length,M++[.lst (xs++a)])else Y
def aHt:P2 K (XF K) FQ:=by
 intro x y M z M' h W H v u Q G c d k;obtain⟨xs,e,h⟩:=aI h;obtain⟨f,g,h⟩:=aI h;by_cases a:xs.length+f.length<=sizeLine
 .rw[A7 a]at h;cases h;obtain⟨p,vs,rfl,i,b⟩:=sX G e c;obtain⟨q,us,rfl,j,hs⟩:=sX G g d;refine⟨p,q,vs,us,rfl,rfl,i,j,by rw[<- Paired.len b,<- Paired.len hs];exact a,fun l a=>?_⟩;exact k _ (W.more l) _ (W.ext_more l) (G.new a<|Paired.app b hs) G.newV
 .rw[B7 a]at h;cases h
end
section
variable{K:Fg}
def NP(K:Fg)(c:Uc)(tab:Ua (Str×Bool)):Bool:=tab.all fun p=>match PySem.W.kitOne K (.ref (bQ K p.1)) c with
 |some b=>b==p.2
 |none=>false
def WT{ns:Te}(a:∀nm∈ns,XC K<|bQ K nm)(h:NP K c tab=true)(e:tab.map Prod.fst=ns):∀p∈tab,XC K (bQ K p.1)/\PySem.W.kitOne K (.ref (bQ K p.1)) c=Z p.2:=by
 intro p d;refine⟨a _ 54,?_⟩;have:=D5.mp h p d;split at this
 .rename_i b f;rw[f,eq_of_beq this]
 .cases this
def aFw:∀nm∈([]:Te),XC K (bQ K nm):=fun _ h=>absurd h 53
def aBd{l:Te}(x:XC K (bQ K a))(r:∀nm∈l,XC K<|bQ K nm):∀nm∈a::l,XC K (bQ K nm):=54
end
abbrev KY:=Key ⊕ Ua Key
abbrev KF:=Ga->Sto->Ub (KY×Sto)
def YN(W:Wd):KY->V->Prop
 |.inl k,v=>v=kV k
 |.inr ks,v=>∃b,v=.ref b/\W.F b=Z (.tup (ks.map kV))
def YN.up(h:YN W k v)(e:W.Ext W'):YN W' k v:=by
 cases k with
 |inl k=>exact h
 |inr ks=>obtain⟨b,a,c⟩:=h;exact⟨b,a,e.ff _ _ c⟩
section
variable{K:Fg}
def SK(K:Fg)(t:TE)(f:KF):Prop:=∀a M k M',f a M=Z (k,M')->∀(W:Wd)(H:Hp)(b:St)(Q:VK),Good K W M H->cF K W a b->(∀v W' H',W.Ext W'->Good K W' M' H'->YN W' k v->Q v H')->t b H Q
def FW(f:EF):KF:=fun a M=>(f a M).bind fun r=>(keyOf r.1).bind fun k=>Z (.inl k,r.2)
def keysOf:T8->Ub (Ua Key)
 |[]=>Z []
 |x::xs=>(keyOf x).bind fun k=>(keysOf xs).bind fun ks=>Z (k::ks)
def gT(fa:AF):KF:=fun a M=>(fa a M).bind fun r=>(keysOf r.1).bind fun ks=>if ks.length<=sizeLine then Z (.inr ks,r.2)else Y
variable{t td ty tx tv:TE}{tA:TA}{f fo fx fv:EF}{fk:KF}{fa:AF}
def aJd(a:SE K t f):SK K t (FW f):=by
 intro n M k M' b W H d Q G R c;obtain⟨⟨x,M1⟩,e,b⟩:=aI b;obtain⟨o,g,b⟩:=aI b;cases b;exact a _ _ _ _ e W H d _ G R fun v h i j l m=>c v h i j l<|yA g m
theorem uY{W:Wd}:∀{xs:T8}{ks:Ua Key}{vs:Tf},keysOf xs=Z ks->bR K W xs vs->vs=ks.map kV
 |[],ks,vs=>fun h r=>by cases h;cases r;rfl
 |x::xs,ks,vs=>fun h r=>by
  obtain⟨k,a,h⟩:=aI h;obtain⟨b,c,h⟩:=aI h;cases h;cases r with
  |cons d e=>rw[yA a d,uY c e];rfl
def aKf(b:SA K tA fa):SK K (aGm tA) (gT fa):=by
 intro q M k M' a W H e Q G R c;obtain⟨⟨r,M1⟩,g,a⟩:=aI a;obtain⟨ks,h,a⟩:=aI a;by_cases d:ks.length<=sizeLine
 .rw[A7 d]at a;cases a;refine b _ _ _ _ g W H e _ G R fun vs i s j l m=>?_;have ev:=uY h m;refine⟨by rw[ev,A4];exact d,fun p n=>?_⟩;obtain⟨o,G2⟩:=l.lay n;exact c _ _ _ (j.trans o) G2 ⟨p,rfl,by show upd i.F p (.tup vs) p=_;rw[aT,ev]⟩
 .rw[B7 d]at a;cases a
section
variable{κ:Type}[DecidableEq κ]
noncomputable def lkC(kvs:Ua (κ×CD))(k:κ):Th:=(kvs.find? fun a=>decide (a.1=k)).map (·.2)
noncomputable def putD(kvs:Ua (κ×CD))(k:κ)(v:CD):Ua (κ×CD):=
 if (kvs.any fun a=>decide (a.1=k))=true then kvs.map (fun a=>if a.1=k then(a.1,v)else a)else kvs++[(k,v)]
abbrev PKV(K:Fg)(W:Wd)(kvs:Ua (κ×CD))(us:Ua (κ×V)):Prop:=Paired (fun p q=>p.1=q.1/\bW K W p.2 q.2) kvs us
theorem AO{W:Wd}:∀{kvs:Ua (κ×CD)}{us:Ua (κ×V)},PKV K W kvs us->SM K W (lkC kvs k) (gO us k)
 |_,_,.nil=>True.intro
 |_,_,.cons (a:=p) (b:=q) (l₁:=ps) (l₂:=qs) r1 r2=>by
  by_cases h:p.1=k
  .have h':=r1.1▸h;rw[show lkC (p::ps) k=Z p.2 by simp[lkC,S3,h],show gO (q::qs) k=Z q.2 by simp[gO,S3,h']];exact r1.2
  .have h':=r1.1▸h;rw[show lkC (p::ps) k=lkC ps k by simp[lkC,S3,h],show gO (q::qs) k=gO qs k by simp[gO,S3,h']];exact AO r2
theorem PZ{W:Wd}{k:κ}:∀{kvs:Ua (κ×CD)}{us:Ua (κ×V)},PKV K W kvs us->(kvs.any fun a=>decide (a.1=k))=us.any fun a=>decide (a.1=k)
 |_,_,.nil=>rfl
 |_,_,.cons b c=>by rw[A0m,A0m,PZ c,b.1]
theorem PL{W:Wd}{k:κ}(d:bW K W x v):∀{kvs:Ua (κ×CD)}{us:Ua (κ×V)},PKV K W kvs us->PKV K W (kvs.map fun b=>if b.1=k then(b.1,x)else b) (us.map fun b=>if b.1=k then(b.1,v)else b)
 |_,_,.nil=>.nil
 |_,_,.cons (a:=p) c r2=>by
  rw[D4,D4];refine .cons ?_ (PL d r2);by_cases h:p.1=k
  .rw[A7 h,A7 (c.1▸h)];exact⟨c.1,d⟩
  .rw[B7 h,B7 (c.1▸h)];exact c
def HN{k:κ}{x:CD}{v:V}{kvs:Ua (κ×CD)}{us:Ua (κ×V)}(r:PKV K W kvs us)(a:bW K W x v):PKV K W (putD kvs k x) (putK us k v):=by
 unfold putD putK;rw[PZ r];split
 .exact PL a r
 .exact Paired.app r (.cons ⟨rfl,a⟩ .nil)
end
noncomputable def lkP(kvs:Ua (Ua Key×Ud))(k:Ua Key):Ub Ud:=(kvs.find? fun a=>decide (a.1=k)).map (·.2)
theorem BR{W:Wd}:∀{kvs:Ua (Ua Key×Ud)}{us:Ua (Ua Key×V)},Paired (fun p q=>p.1=q.1/\Rep K W.F p.2 q.2) kvs us->SM K W ((lkP kvs k).map .d) (gO us k)
 |_,_,.nil=>True.intro
 |_,_,.cons (a:=p) (b:=q) (l₁:=ps) (l₂:=qs) r1 r2=>by
  by_cases h:p.1=k
  .have h':=r1.1▸h;rw[show lkP (p::ps) k=Z p.2 by simp[lkP,S3,h],show gO (q::qs) k=Z q.2 by simp[gO,S3,h']];exact r1.2
  .have h':=r1.1▸h;rw[show lkP (p::ps) k=lkP ps k by simp[lkP,S3,h],show gO (q::qs) k=gO qs k by simp[gO,S3,h']];exact BR r2
def atD(M:Sto):CD->KY->Ub (Th)
 |.c i,.inl k=>match M[i]? with
  |some (.dk kvs)=>Z<|lkC kvs k
  |_=>Y
 |.c i,.inr ks=>match M[i]? with
  |some (.dt kvs)=>Z<|lkC kvs ks
  |_=>Y
 |.f kvs,.inr ks=>Z<|(lkP kvs ks).map .d
 |_,_=>Y
def qD(M:Sto):CD->KY->CD->Ub Sto
 |.c i,.inl k,x=>match M[i]? with
  |some (.dk kvs)=>if kvs.length<sizeLine then Z (M.set i (.dk (putD kvs k x)))else Y
  |_=>Y
 |.c i,.inr ks,x=>match M[i]? with
  |some (.dt kvs)=>if kvs.length<sizeLine then Z (M.set i (.dt (putD kvs ks x)))else Y
  |_=>Y
 |_,_,_=>Y
noncomputable def OT(M:Sto):CD->Bool
 |.c i=>match M[i]? with
  |some (.dk _)=>true
  |some (.dt _)=>true
  |_=>false
 |_=>false
def Good.dkAt{i:Nat}(G:Good K W M H)(h:M[i]?=Z (.dk kvs)):∃us,H (W.α i)=Z (.dK us)/\PKV K W kvs us:=by
 obtain⟨_,o,b,a⟩:=G.cs i _ h 53;cases o<;>first|exact⟨_,b,a⟩|exact False.elim a
def Good.dtAt{i:Nat}(G:Good K W M H)(h:M[i]?=Z (.dt kvs)):∃us,H (W.α i)=Z (.dT us)/\PKV K W kvs us:=by
 obtain⟨_,o,b,a⟩:=G.cs i _ h 53;cases o<;>first|exact⟨_,b,a⟩|exact False.elim a
def AD{r:Th}(G:Good K W M H)(h:atD M x k=Z r)(e:bW K W x v)(g:YN W k y):∃a o,v=.ref a/\tH H a y o/\SM K W r o:=by
 unfold atD at h;split at h
 .rename_i i m;split at h
  .rename_i kvs j;cases h;obtain⟨us,c,d⟩:=G.dkAt j;refine⟨_,_,e.2,?_,AO d⟩;rw[show y=kV m from g];exact tH.k c
  .cases h
 .rename_i i ks;split at h
  .rename_i kvs j;cases h;obtain⟨us,c,d⟩:=G.dtAt j;obtain⟨b,rfl,l⟩:=g;exact⟨_,_,e.2,tH.t c<|G.fh _ _ l,AO d⟩
  .cases h
 .rename_i kvs ks;cases h;obtain⟨a,o,us,rfl,c,d⟩:=e;obtain⟨b,rfl,l⟩:=g;exact⟨_,_,rfl,.inr ⟨us,ks,b,.inr ⟨o,G.fh _ _ c⟩,rfl,G.fh _ _ l,rfl⟩,BR d⟩
 .cases h
def aDx(G:Good K W M H)(h:OT M x=true)(d:bW K W x v):∃a,v=.ref a/\IsD H a:=by
 unfold OT at h;split at h
 .rename_i i;split at h
  .rename_i kvs b;obtain⟨us,c,_⟩:=G.dkAt b;exact⟨_,d.2,.inl ⟨us,.inl c⟩⟩
  .rename_i kvs b;obtain⟨us,c,_⟩:=G.dtAt b;exact⟨_,d.2,.inr ⟨us,.inl c⟩⟩
  .cases h
 .cases h
def QW{M':Sto}(G:Good K W M H)(h:qD M x k z=Z M')(j:bW K W x v)(l:YN W k y)(m:bW K W z u):∃a H',v=.ref a/\FA H a y u H'/\Good K W M' H':=by
 unfold qD at h;split at h
 .rename_i o i n;split at h
  .rename_i kvs d;by_cases c:kvs.length<sizeLine
   .rw[A7 c]at h;cases h;obtain⟨us,g,e⟩:=G.dkAt d;refine⟨_,_,j.2,?_,G.set d 53 (o':=.dK (putK us n u))<|HN e m⟩;rw[show y=kV n from l];exact FA.k g (by rw[<- Paired.len e];exact c)
   .rw[B7 c]at h;cases h
  .cases h
 .rename_i o i ks;split at h
  .rename_i kvs d;by_cases c:kvs.length<sizeLine
   .rw[A7 c]at h;cases h;obtain⟨us,g,e⟩:=G.dtAt d;obtain⟨b,rfl,p⟩:=l;exact⟨_,_,j.2,FA.t g (G.fh _ _ p) (by rw[<- Paired.len e];exact c),G.set d 53<|HN e m⟩
   .rw[B7 c]at h;cases h
  .cases h
 .cases h
def JM:EF:=fun _ M=>Z (.c M.length,M++[.dk []])
def rO:EF:=fun _ M=>Z (.c M.length,M++[.dt []])
def qL(fo:EF)(fk:KF):EF:=fun a M=>(fo a M).bind fun o=>(fk a o.2).bind fun k=>(atD k.2 o.1 k.1).bind fun r=>r.bind fun x=>Z (x,k.2)
def RY(neg:Bool)(fk:KF)(fo:EF):EF:=fun a M=>(fk a M).bind fun k=>(fo a k.2).bind fun o=>(atD o.2 o.1 k.1).bind fun r=>Z (.d (.bool (if neg then !r.isSome else r.isSome)),o.2)
def pK(fo:EF)(fk:KF)(fx:EF):EF:=fun a M=>(fo a M).bind fun o=>if OT o.2 o.1=true then(fk a o.2).bind fun k=>(fx a k.2).bind fun x=>(atD x.2 o.1 k.1).bind fun r=>Z (r.getD x.1,x.2)else Y
def gC(fo:EF)(fk:KF)(fv:EF):SF:=fun a M=>(fv a M).bind fun v=>(fo a v.2).bind fun o=>(fk a o.2).bind fun k=>(qD k.2 o.1 k.1 v.1).bind fun M'=>Z (.nx a,M')
def aBB:SE K TQ JM:=by
 intro c M x M' a W H d Q G R k;cases a;exact fun p b=>k _ (W.more p) _ (W.ext_more p) (G.new b .nil) G.newV
def aCO:SE K aCp rO:=by
 intro c M x M' a W H d Q G R k;cases a;exact fun p b=>k _ (W.more p) _ (W.ext_more p) (G.new b .nil) G.newV
def aER(a:SE K td fo)(b:SK K ty fk):SE K (aIh td ty) (qL fo fk):=by
 intro F M x M' c W H d Q G R k;obtain⟨⟨o,M1⟩,j,c⟩:=aI c;obtain⟨⟨I,M2⟩,l,c⟩:=aI c;obtain⟨r,m,c⟩:=aI c;obtain⟨z,n,c⟩:=aI c;cases c;subst n;refine a _ _ _ _ j W H d _ G R fun v q s e w A=>b _ _ _ _ l q s d _ w (R.up e) fun y B C h G2 D=>?_;obtain⟨p,E,ev,g,i⟩:=AD G2 m (A.up h) D;cases E with
 |none=>exact False.elim i
 |some u=>exact⟨p,u,ev,g,k u B C (e.trans h) G2 i⟩
def tE(h:SM K W r o):o.isSome=r.isSome:=by
 cases r<;>cases o<;>first|rfl|exact False.elim h
def aJt(b:SK K ty fk)(a:SE K td fo):SE K (aOL ty td) (RY false fk fo):=by
 intro C M x M' c W H d Q G R k;obtain⟨⟨D,M1⟩,i,c⟩:=aI c;obtain⟨⟨o,M2⟩,j,c⟩:=aI c;obtain⟨r,l,c⟩:=aI c;cases c;refine b _ _ _ _ i W H d _ G R fun y m n e q s=>a _ _ _ _ j m n d _ q (R.up e) fun v u w h G2 z=>?_;obtain⟨p,A,ev,g,B⟩:=AD G2 l z<|s.up h;refine⟨p,A,ev,g,k _ u w (e.trans h) G2 ?_⟩;show _=V.bl r.isSome;rw[tE B]
def YB(b:SK K ty fk)(a:SE K td fo):SE K (VN ty td) (RY true fk fo):=by
 intro C M x M' c W H d Q G R k;obtain⟨⟨D,M1⟩,i,c⟩:=aI c;obtain⟨⟨o,M2⟩,j,c⟩:=aI c;obtain⟨r,l,c⟩:=aI c;cases c;refine b _ _ _ _ i W H d _ G R fun y m n e q s=>a _ _ _ _ j m n d _ q (R.up e) fun v u w h G2 z=>?_;obtain⟨p,A,ev,g,B⟩:=AD G2 l z<|s.up h;refine⟨p,A,ev,g,k _ u w (e.trans h) G2 ?_⟩;show _=V.bl (!r.isSome);rw[tE B]
def aDw(a:SE K td fo)(b:SK K ty fk)(c:SE K tx fx):SE K (aDy td ty tx) (pK fo fk fx):=by
 intro T M x M' d W H e Q G R k;obtain⟨⟨o,M1⟩,w,d⟩:=aI d;by_cases hd:OT M1 o=true
 .have d:=d;rw[A7 hd]at d;obtain⟨⟨U,M2⟩,A,d⟩:=aI d;obtain⟨⟨z,V⟩,B,d⟩:=aI d;obtain⟨r,C,d⟩:=aI d;cases d;refine a _ _ _ _ w W H e _ G R fun v D E h l m=>?_;obtain⟨p,ev,id⟩:=aDx l hd m;refine⟨p,ev,id,b _ _ _ _ A D E e _ l (R.up h) fun y F I i G2 J=>c _ _ _ _ B F I e _ G2 (R.up<|h.trans i) fun u L N j n O=>?_⟩;obtain⟨P,q,S,g,s⟩:=AD n C ((m.up i).up j)<|J.up j;have:P=p:=54
  subst this;refine⟨q,g,k _ L N ((h.trans i).trans j) n ?_⟩;cases r<;>cases q<;>first|exact O|exact s|exact False.elim s
 .have d:=d;rw[B7 hd]at d;cases d
def aEU(a:SE K td fo)(b:SK K ty fk)(c:SE K tv fv):SS K (aIg td ty tv) (gC fo fk fv):=by
 intro O M o M' d W H e D G R k;obtain⟨⟨z,M1⟩,m,d⟩:=aI d;obtain⟨⟨x,M2⟩,n,d⟩:=aI d;obtain⟨⟨P,Q⟩,q,d⟩:=aI d;obtain⟨S,r,d⟩:=aI d;cases d;refine c _ _ _ _ m W H e _ G R fun u s w h A B=>a _ _ _ _ n s w e _ A (R.up h) fun v C E i G2 F=>b _ _ _ _ q C E e _ G2 (R.up<|h.trans i) fun y I T j J L=>?_;obtain⟨p,l,ev,g,N⟩:=QW J r (F.up j) L<|(B.up i).up j;exact⟨p,l,ev,g,k I l ((h.trans i).trans j) N e<|R.up<|(h.trans i).trans j⟩
end
section
variable{ι:Type}
structure MK(K:Fg)(X:ι->Cx)(e:Ug)(f:KF):Prop where
 ex:∃t,(∀i,PE (X i) e t)/\SK K t f
variable{K:Fg}{X:ι->Cx}{e o i a b:Ug}{es:Tb}{f g fx:EF}{fk:KF}{fa:AF}{pos:Pos}
def mk_one(x:ME K X e f):MK K X e (FW f):=by
 obtain⟨t,c,d⟩:=x.ex;exact⟨_,c,aJd d⟩
def hJ(x:MA K X es fa):MK K X (.Tuple es k pos) (gT fa):=by
 obtain⟨t,c,d⟩:=x.ex;exact⟨_,fun i=>RN<|c i,aKf d⟩
def aCr:ME K X (.Dict [] [] pos) JM:=⟨_,fun _=>OB,aBB⟩
def DO:ME K X (.Dict [] [] pos) rO:=⟨_,fun _=>aDX,aCO⟩
def vJ(c:∀j,(X j).A.units+1<cLine)(x:ME K X o f)(y:MK K X i fk)(hs:aKY i:=by intro _ _;rfl):ME K X (.Subscript o i pos) (qL f fk):=by
 obtain⟨t,d,h⟩:=x.ex;obtain⟨u,k,l⟩:=y.ex;exact⟨_,fun j=>aEI (c j) (d j) (k j) hs,aER h l⟩
def aMl(c:∀j,(X j).A.units+1<cLine)(y:MK K X i fk)(x:ME K X o f)(hm:behindInMarks .In o=false:=by rfl):MT K X (.Compare i [.In] [o] pos) (gB<|RY false fk f):=by
 obtain⟨t,d,h⟩:=x.ex;obtain⟨u,k,l⟩:=y.ex;exact⟨_,fun j=>UJ (aKS (c j) (k j)<|d j) hm,aBa<|aJt l h⟩
def aAD(c:∀j,(X j).A.units+1<cLine)(y:MK K X i fk)(x:ME K X o f)(hm:behindInMarks .NotIn o=false:=by rfl):MT K X (.Compare i [.NotIn] [o] pos) (gB<|RY true fk f):=by
 obtain⟨t,d,h⟩:=x.ex;obtain⟨u,k,l⟩:=y.ex;exact⟨_,fun j=>UJ (aAh (c j) (k j)<|d j) hm,aBa<|YB l h⟩
def lQ(c:∀j,(X j).A.units+1<cLine)(x:ME K X o f)(y:MK K X i fk)(z:ME K X e g)(hs:∀j,swapsWith e (Z (.Subscript o i pos')) pos.line (X j).env=pure false:=by intro _;rfl):MS K X (.Assign [.Subscript o i pos'] e pos) (gC f fk g):=by
 obtain⟨t,d,h⟩:=x.ex;obtain⟨u,k,l⟩:=y.ex;obtain⟨v,m,n⟩:=z.ex;exact⟨_,fun j=>aFn (c j) (d j) (k j) (m j)<|hs j,aEU h l n⟩
def OJ{apos cpos:Pos}(h:∀j,(X j).A.units+1<cLine)(x:ME K X o f)(y:MK K X e fk)(z:ME K X b g)(c:UE e [b])(d:UE b [])(k:∀env:Env,attributeBase o "get" env (eval o env)=eval o env:=by intro _;rfl)(l:(apos.endLine==cpos.line)=true:=by rfl) :
 ME K X (.Call (.Attribute o "get" apos) [e,b] [] cpos) (pK f fk g):=by
 obtain⟨t,m,n⟩:=x.ex;obtain⟨u,p,q⟩:=y.ex;obtain⟨v,r,s⟩:=z.ex;exact⟨_,fun j=>aBV (h j) (m j) (p j) (r j) ⟨k _,by rw[c,d];rfl,l,by rw[c,d];rfl⟩,aDw n q s⟩
end
end L2
namespace PySem
open Sem (wp)
open AutoSeq1 (wpAny_loadPart')
section
variable{prog:Uh}{w:World}{A:Ui}{E:T2}{s:Ue}
def FO{items}{x:Uc}{Q:T2}(a:s.heap.IsTupleIter it l i)(e:s.heap.IsTuple l items)(f:items[i]?=Z x)
 (g:∀h',h'.IsTupleIter it l (i+1)->Heap.SameBut it s.heap h'->Q x { s with heap:=h' }):wpAny (model prog w) A (Builtin.SmallTypes.nextOf (.ref it)) Q E s:=by
 obtain⟨o,b,h,hd⟩:=id a;obtain⟨j,c,_,k,d⟩:=e;refine A0<|S8 a.typeIs A1g<|S9 A1g a.typeIs F.entry_tuple_iterator_next ?_<|F.args_tuple_iterator_next_1 _;show wpAny _ _ (field (.ref it) 0 >>= _) _ _ s;refine A0<|F8 b hd rfl ?_;refine A0<|F8 b hd rfl ?_;refine A0<|Z5 c d ?_;simp only[A0l,f];refine A0<|A0v b hd 53<|A3 ⟨x,rfl,A3<|g _ ?_<|A0c ..⟩;exact⟨_,U8 _ b<|A2c<|Z0 hd _,(Obj.cls_mapFields ..).trans h,by rw[Z0 hd];simp[rawInt]⟩
def xP{items}{Q:T2}(f:A.handled=Y)(a:s.heap.IsTupleIter it l i)(g:s.heap.IsTuple l items)(h:items[i]?=Y)
 (j:∀h' e,Heap.ExtBut it s.heap h'->(∃o,h'.get? e=Z o/\o.cls=.type "StopIteration")->E (.ref e) { s with heap:=h' }):wpAny (model prog w) A (Builtin.SmallTypes.nextOf (.ref it)) Q E s:=by
 obtain⟨o,b,k,hd⟩:=id a;obtain⟨m,c,_,n,d⟩:=g;refine A0<|S8 a.typeIs A1g<|S9 A1g a.typeIs F.entry_tuple_iterator_next ?_<|F.args_tuple_iterator_next_1 _;show wpAny _ _ (field (.ref it) 0 >>= _) _ _ s;refine A0<|F8 b hd rfl ?_;refine A0<|F8 b hd rfl ?_;refine A0<|Z5 c d ?_;simp only[A0l,h];refine A0<|A2e<|A0<|A0v b hd 53 ?_;refine A0 ?_;refine A0<|E4 ?_ (by size_fits);refine A0<|wpAny_of_eq rfl ?_;refine E4 ?_ (by size_fits);refine A0<|wpAny_handled ?_
 first|rw[show A.in1.handled=Y from f]|rw[f]
 refine A0<|A3<|wpAny_throw ?_;exact j _ _ (((A0c ..).extBut.push _).push _) ⟨_,C2 _ rfl,rfl⟩
end
def nP{A:Ui}(hh:A.handled=Y)(it l:Uf)(hne:l≠it)(items:Tl):
 Draws prog w A it [it,l] items.size (fun i v=>items[i]?=Z v) (fun i h=>h.IsTupleIter it l i/\h.IsTuple l items) where
 live:=fun _ _ st=>let⟨o,ho,_⟩:=st.1;⟨o,ho⟩
 frame:=fun _ _ _ st hk=>⟨st.1.at fun o e=>hk it 53 o e,let⟨o,ho,r⟩:=st.2;⟨o,hk l 53 o ho,r⟩⟩
 item:=fun i s Q E hi st hQ=>by
  refine FO st.1 st.2 (x:=items[i]) (by simp[hi]) fun h' hit' hs'=>?_;exact hQ _ h' s.toks (by simp[hi]) ⟨hit',let⟨o,ho,r⟩:=st.2;⟨o,(hs'.2 l hne).trans ho,r⟩⟩ hs'
 done:=fun s Q E st hE=>xP hh st.1 st.2 53 hE
def CP(l:Uf)(items:Tl)(n:Nat)(b:Tk)(sl:Array (Ti)):
 Meets (Builtin.«enumerate.__new__» ⟨[.type "enumerate",.ref l],[]⟩) (fun _ R s=>s.heap.get? l=Z { cls:=.type "tuple",dict:=b,data:=.seq items n,slots:=sl } /\
  R (.ok (.ret (.ref (s.heap.push { cls:=.type "tuple_iterator",data:=.fields #[.ref l,.int 0 0] }).objs.size)))
   { s with heap:=(s.heap.push { cls:=.type "tuple_iterator",data:=.fields #[.ref l,.int 0 0] }).push { cls:=.type "enumerate",data:=.fields #[.none,.bool false,.ref s.heap.objs.size,rawInt 0,.none,.none] } }):=
 .of_wp fun prog w A R s h=>by
  obtain⟨i,g,d,tk,os⟩:=s;obtain⟨a,h⟩:=h;have f:=sub_enumerate;have e:Heap.IsTuple (Shared.heap ⟨i,g,d,tk,os⟩) l items:=⟨_,a,rfl,n,rfl⟩
  wp_walk using A1n a
  refine wpAny_stack_any fun st=>A3 ?_;split
  .rename_i c _ _ _ _ _;cases (c==Value.type "enumerate")
   .wp_walk using A1n a,A0k e
    exact⟨_,rfl,h⟩
   .wp_walk using A1n a,A0k e
    exact⟨_,rfl,h⟩
  .wp_walk using A1n a,A0k e
   exact⟨_,rfl,h⟩
section
variable{prog:Uh}{w:World}{A:Ui}{E:T2}{s:Ue}
def FK{Q:T2}(g:s.heap.IsTuple l items)
 (h:∀h',IsEnum h' (s.heap.objs.size+1) s.heap.objs.size 0 .none->h'.IsTupleIter s.heap.objs.size l 0->h'.objs.size=s.heap.objs.size+2->
  (∀b o,s.heap.get? b=Z o->h'.get? b=Z o)->Q (.ref (s.heap.objs.size+1)) { s with heap:=h' }):
 wpAny (model prog w) A (call (.type "enumerate") [.ref l]) Q E s:=by
 obtain⟨⟨c,a,dt,sl⟩,i,d,n,hd⟩:=g
 replace d:c=.type "tuple":=d
 replace hd:dt=.seq items n:=hd
 subst d hd
 refine callType_new F.called_enumerate 52 (F.typeCall_enumerate_1 _) (F.newCall_enumerate_1 _) (fun obj=>F.args_object_init_2 obj _) F.entry_enumerate_new
  (CP l items n a sl) ⟨i,?_⟩
 have e:(s.heap.push { cls:=.type "tuple_iterator",data:=.fields #[.ref l,.int 0 0] }).objs.size=s.heap.objs.size+1:=Y7 ..;rw[e]
 have f:IsEnum ((s.heap.push { cls:=.type "tuple_iterator",data:=.fields #[.ref l,.int 0 0] }).push
  { cls:=.type "enumerate",data:=.fields #[.none,.bool false,.ref s.heap.objs.size,rawInt 0,.none,.none] }) (s.heap.objs.size+1) s.heap.objs.size 0 .none:=by
  have:=C2 (s.heap.push { cls:=.type "tuple_iterator",data:=.fields #[.ref l,.int 0 0] })
   (o:={ cls:=.type "enumerate",data:=.fields #[.none,.bool false,.ref s.heap.objs.size,rawInt 0,.none,.none] }) rfl
  rw[e]at this;exact this
 refine⟨⟨_,f,rfl⟩,h _ f ⟨_,A2 _<|C2 _ rfl,rfl,rfl⟩ 53 fun b o x=>A2 _<|A2 _ x⟩
end
end PySem
namespace L2
open PySem PySem.Spec PyProof.Rows
section
variable{X:Cx}{pins:T3}{σ:St}{H:Hp}{s:Ue}{h':Heap}
def Inv.turnLay{fp:Td}{a:Uf}{t':Nat}(I:Inv X pins σ H s)(g:∀b∈fp,lD X pins H b)(k:∀b u,b∉fp->s.heap.get? b=Z u->h'.get? b=Z u)(h:s.heap.objs.size<=a)(new:eG X.prog X.w (upd H a o) h' a o):
 Inv X pins σ (upd H a o) { s with heap:=h',toks:=t' }:=by
 have hn:=I.hok.fresh h;have i:∀b u,H b=Z u->b∉fp:=fun b u e z=>by rw[(g b z).1]at e;cases e
 refine I.step (fun b f=>?_) (fun b o _ _ d e _=>k b o d e) (fun b o _ _ d e _=>⟨o.slots,k b o d e⟩) (fun b o _ e n=>?_) (fun b o d e=>⟨o,k b o d e⟩)
  (fun b xs e=>?_) (fun b o u e=>?_) (fun b ps e=>⟨#[],?_⟩) (fun m hm=>?_) ?_ I.bare
 .obtain⟨_,f1,_,j,l,p⟩:=g b f;exact⟨j,f1,l,p⟩
 .rw[aL (fun z=>by subst z;exact absurd (B6 e)<|Nat.not_lt.mpr h)];exact n
 .rw[aL (aQ e hn)];exact e
 .rw[aL (aQ e hn)];exact e
 .rw[aL (aQ e hn)];simpa using e
 .obtain⟨o,es,ep,t,r⟩:=hm;exact⟨o,es,ep,k _ o (fun z=>(g _ z).2.1 rfl) t,r⟩
 .intro b u e;by_cases f:b=a
  .subst f;rw[aT]at e;cases e;exact new
  .rw[aL f]at e;refine(I.hok b u e).stay (fun c v d q=>k c v ?_ q) (fun c q=>by rw[aL (aQ q hn)];exact q) fun c xs q=>by rw[aL (aQ q hn)];exact q
   rcases d with z|z
   .rw[z];exact i b _ e
   .exact i c _ z
def Inv.turnF{fp:Td}{t':Nat}(I:Inv X pins σ H s)(d:∀b∈fp,lD X pins H b)(k:∀b u,b∉fp->s.heap.get? b=Z u->h'.get? b=Z u):Inv X pins σ H { s with heap:=h',toks:=t' }:=by
 have f:∀b u,H b=Z u->b∉fp:=fun b u e z=>by rw[(d b z).1]at e;cases e
 refine I.step (fun b g=>?_) (fun b o _ _ a e _=>k b o a e) (fun b o _ _ a e _=>⟨o.slots,k b o a e⟩) (fun _ _ _ _ n=>n) (fun b o a e=>⟨o,k b o a e⟩)
  (fun _ _ e=>e) (fun _ _ _ e=>e) (fun b ps e=>⟨#[],by simpa using e⟩) (fun m hm=>?_) (fun b u e=>?_) I.bare
 .obtain⟨_,f1,_,h,i,j⟩:=d b g;exact⟨h,f1,i,j⟩
 .obtain⟨o,es,ep,l,r⟩:=hm;exact⟨o,es,ep,k _ o (fun z=>(d _ z).2.1 rfl) l,r⟩
 .refine(I.hok b u e).stay (fun c v a q=>k c v ?_ q) (fun _ q=>q) fun _ _ q=>q;rcases a with z|z
  .rw[z];exact f b _ e
  .exact f c _ z
end
def Ite(Sq:Hp->Tf->Prop):It:=
 ⟨fun i H=>∃xs x,Sq H xs/\xs[i]?=Z x,fun i H v H'=>∃p x,H p=Y/\v=.ref p/\H'=upd H p (.tup [.int i,x])/\∀xs,Sq H xs->xs[i]?=Z x,fun i H=>∃xs,Sq H xs/\xs.length=i⟩
def tnE(e it:Uf)(It:Heap->Nat->Prop)(i:Nat)(h:Heap):Prop:=(∃a,IsEnum h e it i a)/\It h i
section
variable{P:Uh}{w:World}{K:Fg}{elts:Tb}{x1:Nat}{tpos:Pos}
def HU{e it a:Uf}{Sq:Hp->Tf->Prop}{It:Heap->Nat->Prop}(hei:e≠it)
 (hobj:∀h i,It h i->∃o vs,h.get? it=Z o/\o.data=.fields vs) (hkeep:∀h h' i,It h i->(∀o,h.get? it=Z o->h'.get? it=Z o)->It h' i)
 (hinj:∀(X:Cx),X.K=K->∀pins σ H s,Inv X pins σ H s->∀xs ys,Sq H xs->Sq H ys->xs=ys)
 (draw:∀(X:Cx),X.prog=P->X.w=w->X.K=K->X.calm=true->∀pins σ H s,Inv X pins σ H s->∀xs,Sq H xs->(∃o vs,s.heap.get? it=Z o/\o.data=.fields vs)->(∃o vs,s.heap.get? e=Z o/\o.data=.fields vs)->∃(its:T6)(fp:Td)(S:Nat->Heap->Prop),bE xs its/\e∉fp /\
  Draws P w X.A.in1 it fp its.length (fun i v=>its[i]?=Z v) S/\(∀i,It s.heap i->S i s.heap)/\∀i h,S i h->It h i):
 Turn P w K (.Tuple elts x1 tpos) (Ite Sq) [e,it] e (tnE e it It) where
 mem:=53
 obj:=fun i h st b hb=>by
  obtain⟨⟨old,h1⟩,h2⟩:=st;rcases B8.mp hb with rfl|hb
  .exact⟨_,h1,fun v z=>by cases z⟩
  .obtain⟨o,vs,q1,q2⟩:=hobj _ _ h2;rw[A6.mp hb];exact⟨o,q1,fun v z=>by rw[q2]at z;cases z⟩
 keep:=fun i h h' st k=>by
  obtain⟨⟨old,h1⟩,h2⟩:=st;exact⟨⟨old,k e 53 _ h1⟩,hkeep _ _ _ h2 fun o q=>k it 53 o q⟩
 item:=by
  intro X hP hw hK hc i pins s σ H E I hf st hg;obtain⟨xs,x,hq,hx⟩:=hg;obtain⟨⟨old,he⟩,hit⟩:=st;obtain⟨its,fp,S,rv,hef,D,s1,s2⟩:=draw X hP hw hK hc pins σ H s I xs hq (hobj _ _ hit) ⟨_,_,he,rfl⟩;subst hP hw hK;obtain⟨u,hu,ru⟩:=rv.get hx;have hlt:=(B3.mp hu).1;refine wpAny_pyNext_enum_itemD D he (s1 _ hit) hlt hei hef fun v h1 tk hv ho st1 ht hsz hk=>⟨_,rfl,?_⟩;rw[hu]at hv;cases hv;refine wpAny_letOwnedTupleGo_enum ho fun h2 he2 sb=>?_;have ne:=O7<|B6 he;have ht2:=(sb.2 _ ne).trans ht
  have I2:Inv X pins σ (upd H s.heap.objs.size (.tup [.int i,x])) { s with heap:=h2,toks:=tk+1 }:=by
   refine I.turnLay hf (fun b o hb q=>(sb.2 b fun z=>hb (by simp[z])).trans (hk b o (fun z=>hb (by simp[z])) (fun z=>hb (by simp[z])) q)) (A8 _) ⟨by show 2<=sizeLine;rw[J9];decide,[.int i tk,u],.cons ⟨tk,rfl⟩ (.cons ru .nil),⟨_,ht2,rfl,_,rfl⟩⟩
  refine⟨.ref s.heap.objs.size,_,I2,rfl,⟨_,x,I.hok.fresh<|A8 _,rfl,rfl,fun ys hy=>by rw[hinj X rfl _ _ _ _ I ys xs hy hq];exact hx⟩,⟨⟨_,by have:=he2;push_cast;exact this⟩,?_⟩,fun b hb=>?_⟩
  .exact hkeep _ _ _ (s2 _ _ st1) fun o q=>(sb.2 it<|S7 hei).trans q
  .have hb0:=(hf b hb).1;rw[aL fun z=>?_]
   .exact hb0
   .subst z;rcases B8.mp hb with q|q
    .exact ne q
    .obtain⟨o,vs,q1,_⟩:=hobj _ _ hit;rw[<- A6.mp q]at q1;exact absurd (B6 q1)<|Y2 _
 done:=by
  intro X hP hw hK hc i pins s σ H E I hf st hg;obtain⟨xs,hq,hx⟩:=hg;obtain⟨⟨old,he⟩,hit⟩:=st;obtain⟨its,fp,S,rv,hef,D,s1,s2⟩:=draw X hP hw hK hc pins σ H s I xs hq (hobj _ _ hit) ⟨_,_,he,rfl⟩;subst hP hw hK;have hl:=rv.length;rw[hl]at hx;subst hx;exact wpAny_pyNext_enum_endD D he (s1 _ hit) fun h1 hx=>⟨rfl,I.turnF hf fun b o hb q=>hx b o (fun z=>hb (by simp[z])) q⟩
 self:=fun A i s Q E st h=>by
  obtain⟨⟨old,he⟩,_⟩:=st;exact wpAny_pyIter_enum he h
def SL{e it:Uf}(f:e≠it):Turn P w K (.Tuple elts x1 tpos) (Ite fun H xs=>SqL K H a xs) [e,it] e (tnE e it fun h i=>h.IsListIter it a i):=by
 refine HU (a:=a) f (fun h i st=>?_) (fun h h' i st k=>st.at k) (fun X g pins l H s I xs C m r=>?_) fun X t u g v pins l H s I xs x hi y=>?_
 .obtain⟨o,q,_,d⟩:=st;exact⟨o,_,q,d⟩
 .subst g;exact I.list_inj m r
 .subst t u g;obtain⟨c,B,p,D⟩:=I.list x
  have ne:∀b,(∃o vs,s.heap.get? b=Z o/\o.data=.fields vs)->a≠b:=fun b ⟨o,vs,q,d⟩ z=>by
   subst z;obtain⟨o',q',_,n,j⟩:=p.isList;rw[q]at q';cases q';rw[d]at j;cases j
  refine⟨c,[it,a],fun i h=>h.IsListIter it a i/\h.IsList a c.toArray,B,?_,?_,fun i st=>⟨st,p.isList⟩,fun i h st=>st.1⟩
  .intro z;rcases B8.mp z with z|z
   .exact f z
   .exact ne e y (A6.mp z).symm
  .have:=Draws.list (prog:=X.prog) (w:=X.w) (A:=X.A.in1) (I.ok.hd v) it a (ne it hi) c.toArray;simpa using this
def SN{e it:Uf}(f:e≠it):Turn P w K (.Tuple elts x1 tpos) (Ite fun H xs=>SqT K H a xs) [e,it] e (tnE e it fun h i=>h.IsTupleIter it a i):=by
 refine HU (a:=a) f (fun h i st=>?_) (fun h h' i st k=>st.at k) (fun X g pins l H s I xs C m r=>?_) fun X t u g v pins l H s I xs x hi y=>?_
 .obtain⟨o,q,_,d⟩:=st;exact⟨o,_,q,d⟩
 .subst g;exact I.tuple_inj m r
 .subst t u g;obtain⟨c,B,p,D⟩:=I.tuple x;have pt:=p
  have ne:∀b,(∃o vs,s.heap.get? b=Z o/\o.data=.fields vs)->a≠b:=fun b ⟨o,vs,q,d⟩ z=>by
   subst z;obtain⟨o',q',_,n,j⟩:=pt;rw[q]at q';cases q';rw[d]at j;cases j
  refine⟨c,[it,a],fun i h=>h.IsTupleIter it a i/\h.IsTuple a c.toArray,B,?_,?_,fun i st=>⟨st,pt⟩,fun i h st=>st.1⟩
  .intro z;rcases B8.mp z with z|z
   .exact f z
   .exact ne e y (A6.mp z).symm
  .have:=nP (prog:=X.prog) (w:=X.w) (A:=X.A.in1) (I.ok.hd v) it a (ne it hi) c.toArray;simpa using this
end
section
variable{X:Cx}{elts:Tb}{x1:Nat}{tpos:Pos}
def aIo(K:Fg)(c:TA):TI:=fun d H R=>c d H fun vs b=>∃a,vs=[.ref a]/\((∃xs,SqL K b a xs/\R (Ite fun H xs=>SqL K H a xs) b)\/(∃xs,SqT K b a xs/\R (Ite fun H xs=>SqT K H a xs) b))
def aFT{a:Ug}{n:TA}{p pos:Pos}(o:Gl X "enumerate")(hm:X.mg "enumerate"=Y)(ha:PA X [a] n)(hs:starEach [a] X.env=[(false,eval a X.env)]:=by rfl):PI X (.Tuple elts x1 tpos) (.Call (.Name "enumerate" p) [a] [] pos) (aIo X.K n):=by
 intro pins s t H R I h;refine Call_<|iH I o hm boot_enumerate<|U6 (thn (ha pos pins s t H _ I h) fun us s1 ⟨vs,g,c,u,v⟩=>?_) hs rfl;obtain⟨l,e,q⟩:=v;subst e;cases u with
 |cons r w=>
  cases w;cases r
  have fp:∀b∈[s1.heap.objs.size+1,s1.heap.objs.size],lD X pins g b:=fun b hb=>by
   rcases B8.mp hb with rfl|hb
   .exact c.fpOk (A1t _)<|c.hok.fresh<|A1t _
   .rw[A6.mp hb];exact c.fpOk (A8 _)<|c.hok.fresh<|A8 _
  rcases q with⟨xs,i,q⟩|⟨xs,i,q⟩
  .obtain⟨j,x,p,y⟩:=c.list i;refine call_enumerate_list p.isList fun h' f d k m=>?_;refine wpAny_pyIter_enum f ?_;exact⟨_,_,_,_,g,rfl,c.kept m,SL<|Nat.succ_ne_self _,⟨⟨_,f⟩,d⟩,fp,q⟩
  .obtain⟨j,x,p,y⟩:=c.tuple i;refine FK p fun h' f d k m=>?_;refine wpAny_pyIter_enum f ?_;exact⟨_,_,_,_,g,rfl,c.kept m,SN<|Nat.succ_ne_self _,⟨⟨_,f⟩,d⟩,fp,q⟩
end
noncomputable def GE(ds:T5):T8:=ds.zipIdx.map fun p=>.d (.tuple [.int (p.2:Nat),p.1])
def MV(f:AF):AF:=fun a M=>(f a M).bind fun r=>match r.1 with
 |[.d x]=>(bC x).bind fun ds=>Z (GE ds,r.2)
 |_=>Y
def aAy{i:Nat}{x:CD}(h:(GE ds)[i]?=Z x):∃d,ds[i]?=Z d/\x=.d (.tuple [.int (i:Nat),d]):=by
 unfold GE at h;rw[D6,List.getElem?_zipIdx]at h;cases e:ds[i]? with
 |none=>rw[e]at h;cases h
 |some d=>
  rw[e]at h;exact⟨d,rfl,by simpa using h.symm⟩
def aGI{K:Fg}{m:TA}{fa:AF}(b:SA K m fa):SI K (aIo K m) (MV fa):=by
 intro N M xs M' a W H z R G Rs k;obtain⟨⟨O,M1⟩,A,a⟩:=aI a;refine b _ _ _ _ A W H z _ G Rs fun vs g n o h B=>?_;revert a;dsimp only;split
 .rename_i y;intro a;obtain⟨ds,C,a⟩:=aI a;cases a;cases B with
  |cons r D=>
   cases D;obtain⟨p,us,rfl,hs,q⟩:=pG r C
   have s:∀Sq:Hp->Tf->Prop,(∀c M2 e,g.Ext c->Good K c M2 e->Sq e us)->RK K (Ite Sq) (GE ds) g:=fun Sq hS c M2 e f G2=>by
    have j:=hS c M2 e f G2;refine⟨fun i x E=>?_,us,j,by rw[show(GE ds).length=ds.length by simp[GE],q.length]⟩;obtain⟨d,hd,rfl⟩:=aAy E;obtain⟨u,t,F⟩:=Paired.get (eV q) (by rw[D6,hd];rfl);refine⟨⟨us,u,j,t⟩,fun v P I=>?_⟩;obtain⟨J,Q,hn,rfl,rfl,l⟩:=I;have:=l us j;rw[t]at this;cases this;obtain⟨w,L⟩:=G2.lay hn;refine⟨_,w,L,⟨J,_,rfl,SqT.of aT,?_⟩⟩;exact⟨_,_,rfl,rfl,_,_,rfl,Rep.same w.ff _ _<|(F.up f),rfl⟩
   refine⟨p,rfl,?_⟩;rcases hs with hs|hs
   .exact .inl ⟨us,h.fh.seq hs,k _ g n o h (s _ fun c M2 e f G2=>G2.fh.seq<|f.ff.seq hs)⟩
   .exact .inr ⟨us,h.fh.seqT hs,k _ g n o h (s _ fun c M2 e f G2=>G2.fh.seqT<|f.ff.seqT hs)⟩
 .intro a;cases a
def aFc{ι:Type}{K:Fg}{X:ι->Cx}{a:Ug}{fa:AF}{pos:Pos}{p:Pos}(c:∀i,(X i).K=K)(hm:∀i,(X i).mg "enumerate"=Y)(x:MA K X [a] fa)(d:∀i,Gl (X i) "enumerate":=by intro _;rfl):MI K X (.Tuple elts x1 tpos) (.Call (.Name "enumerate" p) [a] [] pos) (MV fa):=by
 obtain⟨t,b,e⟩:=x.ex;exact⟨_,fun i=>by have:=aFT (elts:=elts) (x1:=x1) (tpos:=tpos) (p:=p) (pos:=pos) (d i) (hm i) (b i)<|x.st.1 _;rw[c i]at this;exact this,aGI e⟩
end L2
namespace PySem
open PySem.Calls PyProof.Rows
abbrev xU(x:Uc)(f:Bool)(d:Uf)(i n ep:Nat)(p q:Uc):Obj:=
 { cls:=.type "dict_itemiterator",dict:=Y,data:=.fields #[x,.bool f,.ref d,.int i 0,.int n 0,.int ep 0,p,q],slots:=#[] }
noncomputable abbrev duo(e:DictEntry):Obj:={ cls:=.type "tuple",data:=.seq #[e.key,e.val] }
def HZ(h:Heap)(it d:Uf)(i n ep:Nat):Prop:=
 ∃x f p q,h.get? it=Z (xU x f d i n ep p q)/\(x=.none\/∃a o,x=rawInt (a:Nat)/\h.get? a=Z o)
def Raw(h:Heap)(d:Uf)(es:Array DictEntry)(ep:Nat):Prop:=∃o,h.get? d=Z o/\o.data=.dict es ep
def Raw.to{h':Heap}(r:Raw h d es ep)(k:∀o,h.get? d=Z o->h'.get? d=Z o):Raw h' d es ep:=let⟨o,e,x⟩:=r;⟨o,k o e,x⟩
section
variable{prog:Uh}{w:World}{A:Ui}{E:T2}{s:Ue}{it d v:Uf}{es:Array DictEntry}{i n ep:Nat}
def RV(d:Uf)(hd:(d==sysModules)=false):MeetsIn prog w (Builtin.«dict.items» ⟨[.ref d],[]⟩) fun _ R s=>s.TypeIs (.ref d) "dict" /\
 R (.ok (.ret (.ref s.heap.objs.size))) { s with heap:=s.heap.push { cls:=.type "dict_items",data:=.fields #[.ref d] } }:=
 .of_wp fun A R s ⟨ty,h⟩=>by
  have q:Builtin.Dict.showsAll d=pure ():=by unfold Builtin.Dict.showsAll;rw[hd];rfl
  show wpAny _ _ (Builtin.Dict.noArgs _ _ >>= fun _=>_) _ _ s;refine A0<|A0<|wpAny_notOrdered_dict ty<|A3 (?_:wpAny _ _ (Builtin.Dict.showsAll d >>= _) _ _ s);rw[q];exact A0<|A3<|A0<|E4<|A3 ⟨_,rfl,h⟩
def TX{Q:T2}(a:s.heap.IsItemsView v d)(r:Raw s.heap d es ep)
 (h:Q (.ref s.heap.objs.size) { s with heap:=s.heap.push (xU .none false d 0 es.size ep .none .none) }):wpAny (model prog w) A (pyIter (.ref v)) Q E s:=by
 obtain⟨g,e,j,f⟩:=id a;obtain⟨o,b,c⟩:=r;refine wpAny_pyIter_slot a.typeIs F.slot_dict_items_iter<|S9 F.slot_dict_items_iter a.typeIs F.entry_dict_items_iter (A0<|A3<|A0 (?_:wpAny _ _ (field (.ref v) 0 >>= _) _ _ s))<|F.args_dict_items_iter_1 _;refine A0<|F8 e f rfl<|A3<|A0 (?_:wpAny _ _ (Builtin.Dict_items.newIterator _ d) _ _ s);refine A0<|wpAny_dictEntries b c<|A0<|wpAny_dictEpoch b c ?_;rw[show Builtin.Dict_items.ownsTuple "dict_itemiterator"=true from by decide];refine E4 (A3 ⟨_,rfl,_,_,⟨_,C2 _ rfl,rfl⟩,F.slot_dict_itemiterator_next.lookup,?_⟩) (by simp[sizeOk,Builtin.Dict_items.ownedTupleFields,J9]);exact h
def aCl{Q:T2}(st:HZ s.heap it d i n ep)
 (h:∀h',HZ h' it d i n ep->h'.get? s.heap.objs.size=Z (duo e)->(∀b o,b≠it->s.heap.get? b=Z o->h'.get? b=Z o)->Q (.ref s.heap.objs.size) { s with heap:=h' }):
 wpAny (model prog w) A (Builtin.Dict_items.pairFromOwner (.ref it) 6 e.key e.val) Q E s:=by
 obtain⟨H,g,I,tk,os⟩:=s;obtain⟨x,f,p,q,C,J⟩:=st;have lt:=B6 C;have new:(H.push<|duo e).get? H.objs.size=Z (duo e):=C2 _ rfl;have j:∀b o,H.get? b=Z o->(H.push<|duo e).get? b=Z o:=fun b o=>A2 _;refine A0<|wpAny_newTuple ?_;generalize H.push (duo e)=G at new j ⊢;have k:=j it _ C
 have l:∀h' r y z q',h'.get? it=Z (xU r y d i n ep z q')->(r=.none\/∃a o,r=rawInt (a:Nat)/\G.get? a=Z o)->Heap.SameBut it G h'->Q (.ref H.objs.size) ⟨h',g,I,tk,os⟩:=by
  intro h' r y z q' D t u;refine h h' ⟨r,y,z,q',D,t.imp id ?_⟩ (u.extBut _ _ (O7 lt) new) fun b o K e=>u.extBut b o K<|j b o e;rintro⟨a,o,m,L⟩;by_cases c:a=it
  .exact⟨a,_,m,c▸D⟩
  .exact⟨a,o,m,u.extBut a o c L⟩
 refine A0<|A0<|F8 k rfl rfl ?_;rcases J with rfl|⟨a,o,rfl,m⟩
 .refine A3<|A0<|F8 k rfl rfl<|A0<|F8 k rfl rfl<|A0 (O9 k 53 fun F B t=>?_);refine A0 (O9 B 53 fun T M u=>A0 (O9 M 53 fun U N O=>A0 (O9 N 53 fun P R S=>?_)));exact A0<|wpAny_letGo<|A3<|l P _ _ _ _ R (.inr ⟨_,_,rfl,new⟩)<|((t.trans u).trans O).trans S
 .have al:(loadIfAlive ((a:Int).toNat):Sem (Ub Obj))=loadIfAlive a:=by rfl
  show wpAny _ _ (loadIfAlive ((a:Int).toNat) >>= _) _ _ _;refine A0<|W.kdx_alive (j a o m) ?_;refine A0<|F8 k rfl rfl ?_;cases f
  .exact A0 (O9 k 53 fun F B t=>A3<|A3<|l F _ _ _ _ B (.inr ⟨a,o,rfl,j a o m⟩) t)
  .exact A3<|A3<|l G _ _ _ _ k (.inr ⟨a,o,rfl,j a o m⟩)<|A1u _ _
def RZ{Q:Ti->Ue->Prop}(I:A.handled=Y)(st:HZ s.heap it d i es.size ep)(r:Raw s.heap d es ep)(ne:d≠it)
 (J:∀e,es[i]?=Z e->∀h',HZ h' it d (i+1) es.size ep->h'.get? s.heap.objs.size=Z (duo e)->(∀b o,b≠it->s.heap.get? b=Z o->h'.get? b=Z o)->Q (Z (.ref s.heap.objs.size)) { s with heap:=h' })
 (K:es[i]?=Y->∀h',Heap.ExtBut it s.heap h'->Q Y { s with heap:=h' }):wpAny (model prog w) A (pyNext (.ref it)) Q E s:=by
 obtain⟨H,g,z,tk,os⟩:=s;obtain⟨x,f,p,q,j,L⟩:=st;obtain⟨od,B,C⟩:=r;have ty:Shared.TypeIs ⟨H,g,z,tk,os⟩ (.ref it) "dict_itemiterator":=⟨_,j,rfl⟩;have own:Builtin.Dict_items.ownsTuple "dict_itemiterator"=true:=52
 refine A0<|A2h<|S8 ty F.slot_dict_itemiterator_next<|S9 F.slot_dict_itemiterator_next ty F.entry_dict_itemiterator_next (A0<|A3<|A0<|A0 ?_)<|F.args_dict_itemiterator_next_1 _;refine A0<|A2f ty<|A3<|A0<|wpAny_fieldsOf j rfl ?_;refine A0<|A3<|A0<|wpAny_dictEntries B C ?_;rw[B7 53];refine A0<|A3<|A0<|wpAny_dictEpoch B C ?_;rw[B7 53];refine A3 ?_;have M:(if (i:Int)<0 then Y else es[(i:Int).toNat]?)=es[i]?:=by rfl
 simp only[M];cases c:es[i]? with
 |some e=>
  refine A0<|A0<|A2f ty<|A3<|A0<|wpAny_isOneOf_itemiter ty ?_;refine A0 (O9 j (k:=3) 53 fun h' l m=>A0<|J8 ?_)
  have t:HZ h' it d (i+1) es.size ep:=by
   refine⟨x,f,p,q,l,L.imp id fun⟨a,o,D,N⟩=>?_⟩;by_cases c:a=it
   .exact⟨a,_,D,c▸l⟩
   .exact⟨a,o,D,m.extBut a o c N⟩
  have h:Shared.TypeIs ⟨h',g,z,tk,os⟩ (.ref it) "dict_itemiterator":=⟨_,l,rfl⟩;refine A0<|wpAny_isOneOf_itemiter h<|A0<|wpAny_isOneOf_itemiter h (aCl t fun u y t2 O=>?_);have sz:=m.1;refine A3 ⟨_,rfl,A3 ?_⟩;rw[sz]at t2 ⊢;exact J e c u y t2 fun b o G P=>O b o G<|m.extBut b o G P
 |none=>
  refine A0<|A0<|A2f ty<|A3<|A0<|A0v j (i:=2) rfl 53<|A0 ?_;refine A0<|E4 (A0<|wpAny_of_eq rfl<|E4 ?_ (by size_fits)) (by size_fits);refine A0<|wpAny_handled ?_;rw[show A.in1.handled=Y from I];refine A0<|A3<|wpAny_throw ?_;refine A0<|A0w ⟨_,C2 _ rfl,rfl⟩ isSubtype_stop ?_;exact A3<|K c _<|((A0c ..).extBut.push _).push _
end
structure Handed(es:Array DictEntry)(lo:Uf)(h:Heap)(as:Td):Prop where
 rise:as.Pairwise (·<·)
 above:∀a∈as,lo<a
 duos:∀(j:Nat)(a:Uf),as[j]?=Z a->∃e,es[j]?=Z e/\h.get? a=Z (duo e)
def Handed.to{lo b:Uf}{h':Heap}(g:Handed es lo h as)(l:b<=lo)(k:∀a o,lo<a->h.get? a=Z o->h'.get? a=Z o):Handed es b h' as:=
 ⟨g.rise,fun a ha=>Nat.lt_of_le_of_lt l<|g.above a ha,fun j a ha=>let⟨e,x,y⟩:=g.duos j a ha;⟨e,x,k a _ (g.above a<|O6 ha) y⟩⟩
def Handed.more{lo a:Uf}{e:DictEntry}(g:Handed es lo h as)(up:∀b∈as,b<a)(i:lo<a)(k:es[as.length]?=Z e)(ha:h.get? a=Z (duo e)):Handed es lo h (as++[a]):=by
 refine⟨List.pairwise_append.mpr ⟨g.rise,List.pairwise_singleton _ _,fun b f c l=>by rw[A6.mp l];exact up b f⟩,fun b f=>?_,fun j b d=>?_⟩
 .exact(C9.mp f).elim (g.above b) fun q=>A6.mp q▸i
 .rw[List.getElem?_append]at d;split at d
  .exact g.duos j b d
  .have z:j-as.length=0:=by
    have:=(B3.mp d).1;simp at this;omega
   rw[z]at d;cases d;exact⟨e,by rw[show j=as.length by omega];exact k,ha⟩
abbrev rowOf(acc:Tl)(c:Nat):Obj:={ cls:=.type "list",dict:=Y,data:=.seq acc c,slots:=#[] }
section
variable{prog:Uh}{w:World}{A:Ui}{E:T2}{s:Ue}{S I d v:Uf}{es:Array DictEntry}{ep:Nat}{R:Result->Ue->Prop}{res:Uc}
def TB(V:A.handled=Y)(M:S<I)(W:d≠S)(N:d≠I)(hn:es.size<=sizeLine):
 ∀(m i:Nat)(h:Heap)(tk c:Nat)(acc:Tl)(as:Td),i+m=es.size->HZ h I d i es.size ep->Raw h d es ep->h.get? S=Z (rowOf acc c)->acc.toList=as.map Value.ref->as.length=i->Handed es I h as->I<h.objs.size->
  (∀h' tk acc c as,(∀b o,b≠S->b≠I->h.get? b=Z o->h'.get? b=Z o)->h'.get? S=Z (rowOf acc c)->as.length=es.size->Handed es I h' as->acc.toList=as.map Value.ref->R (.ok (.ret res)) { s with heap:=h',toks:=tk })->
  codeAny (model prog w) A (.builtin "list.extend.loop" ⟨[.ref S,.ref I,res],[]⟩) R { s with heap:=h,toks:=tk }:=by
 intro m
 induction m using Nat.strongRecOn with
 |_ m ih=>
  intro i h tk c acc as em st r hS O el D P n;have G:=C3 M;refine A1o F.entry_extend_loop ?_;refine A0 (RZ V st r N (fun e H B J t1 g=>?_) fun H B g=>?_)
  .have X:=(E9.mp H).1;have za:acc.size=i:=by rw[<- E8,O,A4,el]
   have lS:=B6 hS;have t:=g S _ G hS;have l:∀b o,b≠S->B.get? b=Z o->(B.update S (Obj.mapSeq (·.push (Value.ref h.objs.size)))).get? b=Z o:=fun b o nb e=>(U3 _ _<|S7 nb).trans e;have u:=U8 (Obj.mapSeq (·.push (Value.ref h.objs.size))) t rfl;have Q:=l _ _ (O7 lS) t1;refine A0<|wpAny_updateSeq t rfl (A3 ⟨plainId_quiet F.plain_extend_loop _,?_⟩) 50 54
   refine ih (m-1) 50 (i+1) _ tk _ (acc.push<|Value.ref h.objs.size) (as++[h.objs.size]) 50 ?_ (r.to fun o e=>l d o W<|g d o N e) u 54 54
    ((D.to (A8 _) fun a o la e=>l a o (O7<|A0i M la)<|g a o (O7 la) e).more (fun b hb=>?_) P 54 Q) (A0i P<|B6 Q)
    fun h' K z c' L k=>n h' K z c' L fun b o T C e=>k b o T C<|l b o T<|g b o C e
   .obtain⟨x,f,p,q,w1,hx⟩:=J;refine⟨x,f,p,q,l _ _ (S7 G) w1,hx.imp id fun⟨a,o,U,e2⟩=>?_⟩;by_cases q:a=S
    .subst q;exact⟨a,_,U,u⟩
    .exact⟨a,o,U,l a o q e2⟩
   .obtain⟨j,hj⟩:=A1p.mp hb;obtain⟨_,_,y⟩:=D.duos j b hj;exact B6 y
  .have X:=A2k.mp H;exact A3<|n B tk acc c as (fun b o _ C e=>g b o C e) (g S _ G hS) 50 (D.to (A8 _) fun a o la e=>g a o (O7 la) e) O
def YT{Q:T6->Ue->Prop}(K:A.handled=Y)(z:s.heap.IsItemsView v d)(r:Raw s.heap d es ep)(hn:es.size<=sizeLine)
 (L:∀(h':Heap)(tk:Nat)(as:Td),(∀b o,s.heap.get? b=Z o->h'.get? b=Z o)->as.length=es.size->Handed es s.heap.objs.size h' as->Q (as.map Value.ref) { s with heap:=h',toks:=tk }):
 wpAny (model prog w) A (collect (.ref v)) Q E s:=by
 obtain⟨H,g,n,tk,os⟩:=s;have M:=let⟨_,p,_⟩:=z;B6 p;have ld:=let⟨_,p,_⟩:=r;B6 p;refine A0<|wpAny_runValue<|A1o entry_proto_collect' ?_;refine A0<|E4<|A3 ⟨plainId_quiet PySem.F.plain_list_iadd _,A1o entry_list_iadd' ?_⟩;have l:∀b o,H.get? b=Z o->(H.push<|rowOf #[] 0).get? b=Z o:=fun b o e=>A2 _ e;have B:=(C2 H (o:=rowOf #[] 0) rfl);have N:(H.push<|rowOf #[] 0).objs.size=H.objs.size+1:=Y7 ..;show wpAny _ A.in1 (Builtin.List.listExtendWith (.ref H.objs.size) (.ref v) (.ref H.objs.size)) _ _ ⟨H.push<|rowOf #[] 0,g,n,tk,os⟩;generalize H.push (rowOf #[] 0)=G at l B N ⊢;have i:H.objs.size<G.objs.size:=50
 have f:G.IsItemsView v d:=let⟨o,a,b⟩:=z;⟨o,l _ _ a,b⟩;refine A0<|A1a (f.typeIs) ?_;rw[show Builtin.List.listSameRef (.ref H.objs.size) (.ref v)=false from by simp[Builtin.List.listSameRef,O7 M]];refine A0<|TX f (r.to fun o e=>l d o e)<|A0<|J8<|W.kdx_hint (let⟨o,a,b,_⟩:=f;⟨o,A2 _ a,b⟩) ?_;have m:∀b o,G.get? b=Z o->(G.push<|xU .none false d 0 es.size ep .none .none).get? b=Z o:=fun b o e=>A2 _ e;have t:=C2 G (o:=xU .none false d 0 es.size ep .none .none) rfl;generalize G.push (xU .none false d 0 es.size ep .none .none)=F at m t ⊢
 have go:∀h c,(∀b o,b≠H.objs.size->F.get? b=Z o->h.get? b=Z o)->h.get? H.objs.size=Z (rowOf #[] c)->
  codeAny (model prog w) A (.builtin "list.extend.loop" ⟨[.ref H.objs.size,.ref G.objs.size,.ref H.objs.size],[]⟩) (fun r C=>match r with|.ok (.ret v)=>wpAny (model prog w) A (match v with|.ref a=>load a >>= fun o=>(match o.data with|.seq xs _=>pure xs.toList|_=>unsupported "internal:collect")|_=>unsupported "internal:collect") Q E C|.ok _=>False|.error e=>E e C) ⟨h,g,n,tk,os⟩:=fun h c k hS=>
  TB (s:=⟨H,g,n,tk,os⟩) K i (C3 ld) (C3<|A0i ld i) hn es.size 0 h tk c #[] [] (Nat.zero_add _) ⟨_,_,_,_,k _ _ (O7 i) t,.inl rfl⟩ (r.to fun o e=>k _ _ (C3 ld)<|m _ _<|l _ _ e) hS rfl rfl
   ⟨.nil,(fun _ q=>nomatch q),fun j a q=>by simp at q⟩ (B6<|k _ _ (O7 i) t) fun h' u acc c as O x el P T=>A0 (wpAny_load x (A3 (by
    rw[T];exact L h' u as (fun b o e=>O b o (C3 (B6 e)) (C3 (A0i (B6 e) i)) (k b o (C3 (B6 e)) (m b o (l b o e)))) el (P.to (A1l i) fun _ _ _ e=>e))))
 have y:=m _ _ B;have D:=U8 (Obj.mapSeq (·.push Value.none)) y rfl;refine wpAny_ite_split (fun _=>A0 (A2e (A0 (A0 (wpAny_updateSeq y rfl (wpAny_updateSeq D rfl (A3 ⟨plainId_quiet PySem.F.plain_extend_loop _,go _ _ (fun b o J e=>?_) (U8 (Obj.mapSeq (·.pop)) D rfl)⟩))))))) fun _=>A3 ⟨plainId_quiet PySem.F.plain_extend_loop _,go _ _ (fun _ _ _ e=>e) y⟩;rw[U3 _ _ (S7 J),U3 _ _<|S7 J];exact e
end
end PySem
namespace PySem
open PySem.Calls PyProof.Rows
section
variable{prog:Uh}{w:World}{A:Ui}{E:T2}{s:Ue}{it d:Uf}{es:Array DictEntry}{i ep:Nat}
def HF{Q:T2}(hd:(d==sysModules)=false)(ty:s.TypeIs (.ref d) "dict")(r:Raw s.heap d es ep)
 (h:Q (.ref s.heap.objs.size) { s with heap:=s.heap.push { cls:=.type "dict_keyiterator",data:=.fields #[.ref d,.int 0 0,.int es.size 0,.int ep 0] } }):wpAny (model prog w) A (pyIter (.ref d)) Q E s:=by
 obtain⟨o,a,b⟩:=r;have q:Builtin.Dict.showsAll d=pure ():=by unfold Builtin.Dict.showsAll;rw[hd];rfl
 refine wpAny_pyIter_slot ty F.slot_dict_iter<|S9 F.slot_dict_iter ty F.entry_dict_iter (A0<|A0<|wpAny_notOrdered_dict ty<|A3 (?_:wpAny _ _ (Builtin.Dict.showsAll d >>= _) _ _ s))<|F.args_dict_iter_1 _;rw[q];refine A0<|A3<|A0<|wpAny_dictEntries a b<|A0<|wpAny_dictEpoch a b<|A0<|E4<|A3 ⟨_,rfl,_,_,⟨_,C2 _ rfl,rfl⟩,F.slot_dict_keyiterator_next.lookup,?_⟩;exact h
def tD{Q:Ti->Ue->Prop}(h:A.handled=Y)(st:s.heap.IsKeyIter it d i es.size ep)(r:Raw s.heap d es ep)
 (j:∀e,es[i]?=Z e->∀h',h'.IsKeyIter it d (i+1) es.size ep->Heap.SameBut it s.heap h'->Q (Z e.key) { s with heap:=h' })
 (k:es[i]?=Y->∀h',Heap.ExtBut it s.heap h'->Q Y { s with heap:=h' }):wpAny (model prog w) A (pyNext (.ref it)) Q E s:=by
 obtain⟨o,b,l,f0⟩:=id st;obtain⟨od,f,g⟩:=r;have ty:=st.typeIs;have own:Builtin.Dict_items.ownsTuple "dict_keyiterator"=false:=52
 refine A0<|A2h<|S8 ty F.slot_dict_keyiterator_next<|S9 F.slot_dict_keyiterator_next ty F.entry_dict_keyiterator_next (A0<|A3<|A0<|A0 ?_)<|F.args_dict_keyiterator_next_1 _;refine A0<|A2l ty<|A3<|A0<|wpAny_fieldsOf b f0 ?_;refine A0<|A3<|A0<|wpAny_dictEntries f g ?_;rw[B7 53];refine A0<|A3<|A0<|wpAny_dictEpoch f g ?_;rw[B7 53];refine A3 ?_;have m:(if (i:Int)<0 then Y else es[(i:Int).toNat]?)=es[i]?:=by rfl
 simp only[m];cases c:es[i]? with
 |some e=>
  refine A0<|A0<|A2l ty<|A3<|A0<|wpAny_isOneOf_keyiter ty ?_;refine A0<|A0v b (i:=1) f0 53 ?_
  have a:(s.heap.update it (Obj.mapFields (·.setIfInBounds 1 (rawInt ((i:Int)+1))))).IsKeyIter it d (i+1) es.size ep:=
   ⟨_,U8 _ b<|A2c<|Z0 f0 _,(Obj.cls_mapFields ..).trans l,by rw[Z0 f0];simp[rawInt]⟩
  refine A0<|J8<|A0<|wpAny_isOneOf_keyiter a.typeIs ?_;exact A3<|A3 ⟨_,rfl,A3<|j e c _ a<|A0c ..⟩
 |none=>
  refine A0<|A0<|A2l ty<|A3<|A0<|A0v b (i:=0) f0 53<|A0 ?_;refine A0<|E4 (A0<|wpAny_of_eq rfl<|E4 ?_ (by size_fits)) (by size_fits);refine A0<|wpAny_handled ?_;rw[show A.in1.handled=Y from h];refine A0<|A3<|wpAny_throw ?_;refine A0<|A0w ⟨_,C2 _ rfl,rfl⟩ isSubtype_stop ?_;exact A3<|k c _<|((A0c ..).extBut.push _).push _
def IQ{h h':Heap}{it d:Uf}{i ep:Nat}(x:h.IsKeyIter it d i n ep)(k:∀o,h.get? it=Z o->h'.get? it=Z o):h'.IsKeyIter it d i n ep:=let⟨o,a,r⟩:=x;⟨o,k o a,r⟩
def YY(hh:A.handled=Y)(ne:d≠it):
 Walks prog w A it [it,d] [it] es.size (fun i v=>(es[i]?).map (·.key)=Z v) (fun i h=>h.IsKeyIter it d i es.size ep/\Raw h d es ep) where
 sub:=fun b hb=>by simp at hb;simp[hb]
 frame:=fun _ _ _ st hk=>⟨IQ st.1 fun o e=>hk it 53 o e,st.2.to fun o e=>hk d 53 o e⟩
 item:=fun i s Q E hi st hQ=>by
  have hx:=A0f hi;refine tD hh st.1 st.2 (fun e he h' st' sb=>?_) fun hn=>by rw[hx]at hn;cases hn
  exact hQ _ h' s.toks 54 ⟨st',st.2.to fun o e=>sb.extBut d o ne e⟩ fun b o hb e=>sb.extBut b o (fun h=>hb (by simp[h])) e
 done:=fun s Q E st hQ=>by
  have hx:es[es.size]?=Y:=A0t<|A8 _;refine tD hh st.1 st.2 (fun e he=>by rw[hx]at he;cases he) fun _ h' sb=>hQ h' s.toks fun b o hb e=>sb b o (fun h=>hb (by simp[h])) e
 self:=fun _ _ _ _ st hQ=>wpAny_pyIter_keyiter st.1 hQ
def aBc{o:Obj}(hd:(d==sysModules)=false)(cl:o.cls=.type "dict")(dt:o.data=.dict es ep):W.KdlSrc prog w "dict" d d es.size (fun i v=>(es[i]?).map (·.key)=Z v) (fun h=>h.get? d=Z o) where
 type:=fun s ho=>⟨o,ho,cl⟩
 there:=fun h ho=>⟨B6 ho,B6 ho⟩
 keep:=fun h h' ho k=>k d (.inl rfl) o ho
 notList:=52
 notTuple:=52
 hint:=fun A E s Q ho q=>W.kdl_hint_dict ⟨o,ho,cl⟩ q
 iter:=fun A s hh ho=>⟨_,fun i h=>h.IsKeyIter s.heap.objs.size d i es.size ep/\Raw h d es ep,(fun E Q q=>HF hd ⟨o,ho,cl⟩ ⟨o,ho,dt⟩ q),YY hh<|C3<|B6 ho,⟨_,C2 _ rfl,rfl,rfl⟩,o,A2 _ ho,dt⟩
end
end PySem
namespace PySem.W
open PySem PySem.Calls PyProof.Rows PyProof.V PySem.Spec
section
variable{prog:Uh}{w:World}{A:Ui}{E:T2}{s:Ue}{h₀:Heap}{L:Uf}{m:Str->Ti}{news:T3}{vs:T6}
def l2_tail{Q:T2}(F:Fr h₀ L s.heap m)(N:News h₀ L s.heap news)(u:2<=vs.length)(f:vs.length<64)
 (h:∀D d h',Fr h₀ L h' m->News h₀ L h' ((D,seqObj "list" #[] d)::news)->(∀q∈news,q.1<D)->
  wpAny (model prog w) A.in1 (keyKind' vs.toArray) (fun n e=>(kas_sort vs.length).kasWp (kas_ask prog w A.in1 n vs) (fun p a=>KasFin h₀ L m D d (p.toList.map fun i=>vs.getD i Value.none) (fun s3=>Q (.ref D) s3) a) e) 58 { s with heap:=h' }):
 wpAny (model prog w) A (do let l <- newList vs;let _ <- holding [l] (call (.builtin "list.sort") [l]);ret l) (fun g e=>∃v,g=.done (.ret v)/\Q v e) E s:=by
 refine A0<|wpAny_newList ?_ (by rw[J9];omega);have c:(s.heap.push<|seqObj "list" vs.toArray 0).get? s.heap.objs.size=Z (seqObj "list" vs.toArray 0):=C2 _ rfl;have keep:∀b o,s.heap.get? b=Z o->(s.heap.push<|seqObj "list" vs.toArray 0).get? b=Z o:=fun b o q=>A2 _ q;have r:=F.ns.lt;refine A0<|J8<|S9 slot_list_sort ⟨_,c,rfl⟩ entry_list_sort ?body<|args_list_sort _
 case body=>
  refine kat_list_sort (F.kept keep) (N.grown keep) c (O7 r) (Heap.get?_none_of_le<|E6 F.above<|A1l r)
   (fun p y=>C3<|B6 (N p y).1) u f fun d h' z N'=>?_
  refine E5 (h _ d h' z N' fun q j=>B6 (N q j).1) (fun n e t=>?_) fun _ _ x=>x;rw[kat_ask_eq rfl]at t ⊢;exact kas_wp_mono t fun p a k=>k.mono fun s3 j=>⟨_,rfl,A3 ⟨_,rfl,j⟩⟩
end
end PySem.W
namespace L2
variable{A:Ui}
open PySem PySem.Spec PyProof.Rows
section
variable{X:Cx}{pins:T3}{σ:St}{H:Hp}{s:Ue}{E:T2}
noncomputable def BJ(a:T6):Sem PySem.Fin:=do let l <- newList a;let _ <- holding [l] (call (.builtin "list.sort") [l]);ret l
def RL(K:Fg)(vs:Tf)(H:Hp)(Q:VK):Prop:=
 (∃a:Ua (T5),aM K H (a.map .tuple) vs/\2<=a.length/\a.length<64/\(∀r∈a,r.all SeqAt.shaped=true/\kW r=true)/\(mX a=true\/pO a=true)/\(∀i j,i<a.length->j<a.length->(lP (a.getD i [])<|a.getD j []).isSome=true) /\
  ∀l,H l=Y->Q (.ref l) (upd H l (.lst ((hX (tL a) a.length).map fun i=>vs.getD i .non))))\/(vs.length<2/\∀l,H l=Y->Q (.ref l) (upd H l (.lst vs)))
def aJw{a:Ua (T5)}{Q:VK}(hu:A.in1.units+64<cLine)(I:Inv X pins σ H s)(rv:bE vs f)(h:aM X.K H (a.map .tuple) vs)(h2:2<=a.length)(U:a.length<64)
 (g:∀r∈a,r.all SeqAt.shaped=true/\kW r=true) (k:mX a=true\/pO a=true) (u:∀i j,i<a.length->j<a.length->(lP (a.getD i [])<|a.getD j []).isSome=true)
 (q:∀l,H l=Y->Q (.ref l) (upd H l (.lst ((hX (tL a) a.length).map fun i=>vs.getD i .non)))):
 wpAny (model X.prog X.w) A (BJ f) (fun a0 s'=>∃v,a0=.done (.ret v)/\∃x H',Inv X pins σ H' s'/\RelV x v/\Q x H') E s:=by
 obtain⟨as,B⟩:=aM.reads I _ vs f h rv;have t:f.length=a.length:=by rw[ReadsAll.len B,A4]
 obtain⟨m,F⟩:=I.fr;have N:News X.base X.env.locals s.heap (sZ X.base s.heap X.env.locals):=aCY;refine W.l2_tail F N 50 50 fun D e1 h' F' N' hD=>?_
 have kp:∀(S:Heap),Fr X.base X.env.locals S m->(∀q∈sZ X.base s.heap X.env.locals,S.get? q.1=Z q.2)->∀b o,b≠X.env.locals->s.heap.get? b=Z o->S.get? b=Z o:=fun S G1 M1 b o hb e=>by
  cases z:X.base.get? b with
  |some v=>
   have:=I.bk b v z;rw[e]at this;cases this;exact G1.keep b _ z
  |none=>exact M1 (b,o)<|yR hb z e
 have k':=kp h' F' fun q G=>(N' q<|A9 _ G).1
 have J:s.heap.get? D=Y:=by
  have hN:=N' _ B9;cases e:s.heap.get? D with
  |none=>rfl
  |some o=>exact absurd (hD (D,o)<|yR hN.2.1 hN.2.2 e)<|Y2 _
 have L:∀b o vs n,s.heap.get? b=Z o->o.data=.seq vs n->b≠X.env.locals:=fun b o vs n e d z=>by
  obtain⟨o',es,ep,x1,x2,_⟩:=F.ns;subst z;rw[e]at x1;cases x1;rw[d]at x2;cases x2
 have a1:kW (a.map .tuple)=true:=by
  clear h B t q k u h2 U
  induction a with
  |nil=>rfl
  |cons x r ih=>
   show(kW x&&kW (r.map .tuple))=true;rw[(g x B9).2,ih fun y hy=>g y<|A9 _ hy];rfl
 have M:=aDc (fun b o vs n e d=>k' b o (L b o vs n e d) e) _ _ _ a1 B;refine ZD M 50 k ?_;rw[t];refine KS.wp (fun i j C hi T c=>?_) (fun p a2=>?_)<|(XW 50).ks (lt:=tL a)
 .have at_:∀i,i<a.length->∃bs,Reads h' (f.getD i .none) (.tuple (a.getD i [])) bs:=fun i hi=>by
   obtain⟨bs,x⟩:=ReadsAll.at i M 54
   have:(a.map PyData.tuple).getD i .none=.tuple (a.getD i []):=by
    rw[E3,D6,E3,C0 hi];rfl
   rw[this]at x;exact⟨bs,x⟩
  obtain⟨b1,r1⟩:=at_ i hi;obtain⟨b2,r2⟩:=at_ j T
  have mem:∀i,i<a.length->a.getD i []∈a:=fun i hi=>by
   rw[E3,C0 hi];exact A0q hi
  have hd:mX a=true->∀r∈a,r.head?.all isI=true:=fun z r B=>by
   have:=D5.mp z r B;cases r with
   |nil=>rfl
   |cons d ds=>cases d<;>first|rfl|exact absurd this 53
  obtain⟨c0,O⟩:=A1e.mp<|u i j hi T;have hc:tL a i j=c0:=by unfold tL;rw[O];rfl
  rw[hc]at c;exact aLC hu r1 r2 (g _<|mem i hi).1 (g _<|mem j T).1 O (fun z=>⟨hd z _<|mem i hi,hd z _<|mem j T⟩) c
 .obtain⟨e,_⟩:=a2;subst e;refine W.KasFin.intro F' N' (.head fun q G=>C3<|hD q G) fun a3 c P R=>?_;have a4:=kp a3 P (fun q G=>(R q<|A9 _ G).1);refine⟨.ref D,upd H D (.lst ((hX (tL a) a.length).map fun i=>vs.getD i .non)),?_,rfl,q D<|I.hok.none J⟩;refine I.laidL a4 (fun m' a5=>?_) J ⟨?_,_,c,IC rv _,(R _ B9).1⟩
  .rw[<- aFV F.ns a5];exact P.ns
  .rw[A4,(lU (tL a) 50).length_eq,List.length_range];have:64<=sizeLine:=52
   omega
def aJe{A:Ui}{Q:VK}(I:Inv X pins σ H s)(g:bE vs a)(r:vs.length<2)(q:∀l,H l=Y->Q (.ref l) (upd H l (.lst vs))):
 wpAny (model X.prog X.w) A (BJ a) (fun d i=>∃v,d=.done (.ret v)/\∃x H',Inv X pins σ H' i/\RelV x v/\Q x H') E s:=by
 have t:=g.length;have j:a.length<=sizeLine:=by rw[J9];omega
 refine A0<|wpAny_newList ?_ j;refine A0<|J8 ?_;have f:(s.heap.push { cls:=.type "list",data:=.seq a.toArray }).get? s.heap.objs.size=Z (seqObj "list" a.toArray 0):=C2 _ rfl;refine S9 slot_list_sort ⟨_,f,rfl⟩ entry_list_sort (zO f 50 ⟨_,rfl,?_⟩)<|args_list_sort _
 obtain⟨c,k⟩:∃c,(sortedHeap (s.heap.push { cls:=.type "list",data:=.seq a.toArray }) s.heap.objs.size a a.toArray).get? s.heap.objs.size=Z (seqObj "list" a.toArray c):=by
  have m:=get?_update_seq f (fun _=>#[]);have n:=A2 (seqObj "tuple" a.toArray 0) m;have p:=A2 (seqObj "list" #[] 0) n;exact⟨_,get?_update_seq p fun _=>a.toArray⟩
 refine A3 ⟨_,rfl,.ref s.heap.objs.size,upd H s.heap.objs.size (.lst vs),I.laid (fun b o e=>?_) (A8 _) ⟨50,a,c,g,k⟩,rfl,q _<|I.hok.fresh<|A8 _⟩
 .have h:=C3<|B6 e;unfold sortedHeap;rw[Heap.get?_update_ne _ _ _ _ h];refine A2 _<|A2 _ ?_;rw[Heap.get?_update_ne _ _ _ _ h];exact A2 _ e
def aDL(m:A.in1.units+64<cLine)(I:Inv X pins σ H s)(k:bE vs i)(h:RL X.K vs H Q):
 wpAny (model X.prog X.w) A (BJ i) (fun j n=>∃v,j=.done (.ret v)/\∃x H',Inv X pins σ H' n/\RelV x v/\Q x H') E s:=by
 rcases h with⟨l,a,b,c,d,e,f,g⟩|⟨a,b⟩
 .exact aJw m I k a b c d e f g
 .exact aJe I k a b
def wH:Ua (V×V)->Hp->(Tf->Hp->Prop)->Prop
 |[],H,k=>k [] H
 |(x,y)::r,H,k=>∀p,H p=Y->wH r (upd H p (.tup [x,y])) fun vs a=>k (.ref p::vs) a
def Inv.trackT{e:Uf}{a:T6}(I:Inv X pins σ H s)(f:s.heap.get? e=Z { cls:=.type "tuple",data:=.seq a.toArray n })(i:bE vs a)(j:vs.length<=sizeLine)(hn:H e=Y)(k:X.s₀.heap.get? e=Y)(l:∀p∈X.pn++pins,p.1≠e):
 Inv X pins σ (upd H e (.tup vs)) s:=by
 have ne:∀b u,H b=Z u->b≠e:=fun b u z=>aQ z hn
 have nd:∀b (o:Obj),s.heap.get? b=Z o->(∀vs n,o.data≠.seq vs n)->b≠e:=fun b o q z w=>by
  subst w;rw[f]at q;cases q;exact z _ _ rfl
 refine⟨I.ok,I.os,I.bare,⟨I.base.keep,I.base.slot,fun b o q n r=>?_,I.base.there,fun b xs q=>?_,fun b o u q=>?_,fun b ps q=>?_⟩,I.loc,I.cell,?_,fun x c q=>?_,fun p h=>?_,fun b u q=>?_,I.len⟩
 .rw[aL (fun z=>by rw[z,k]at q;cases q)];exact I.base.free b o q n r
 .have:=I.base.tups b xs q;rw[aL (ne _ _ this)];exact this
 .have:=I.base.frzs b o u q;rw[aL (ne _ _ this)];exact this
 .obtain⟨more,this⟩:=I.base.tbls b ps q;exact⟨more,by rw[aL (ne _ _ this)];exact this⟩
 .obtain⟨m,⟨o,es,ep,d,hd,_⟩,_⟩:=I.loc;rw[aL (nd _ o d fun vs n z=>by rw[hd]at z;cases z)];exact I.free
 .obtain⟨v,o,d,hd⟩:=I.cell x c q;rw[aL (nd _ o d fun vs n z=>by rw[hd]at z;cases z)];exact I.freeC x c q
 .obtain⟨t,y,B⟩:=I.pin p h;exact⟨t,by rw[aL (l p h)];exact y,B⟩
 .by_cases g:b=e
  .subst g;rw[aT]at q;cases q;exact⟨j,a,i,⟨_,f,rfl,n,rfl⟩⟩
  .rw[aL g]at q;exact(I.hok b u q).stay (fun _ _ _ z=>z) (fun c z=>by rw[aL (ne _ _ z)];exact z) fun c xs z=>by rw[aL (ne _ _ z)];exact z
theorem VZ:∀{ps:Ua (V×V)}{us:Ua (Uc×Uc)}{as:Td}{H:Hp}{k:Tf->Hp->Prop},Inv X pins σ H s->Paired (fun p q=>RelV p.1 q.1/\RelV p.2 q.2) ps us->as.length=us.length->as.Pairwise (·<·)->(∀a∈as,H a=Y)->
 (∀(j:Nat)(a:Uf),as[j]?=Z a->∃p,us[j]?=Z p/\s.heap.get? a=Z { cls:=.type "tuple",data:=.seq #[p.1,p.2] })->(∀a∈as,X.s₀.heap.get? a=Y/\∀p∈X.pn++pins,p.1≠a)->wH ps H k->∃f,Inv X pins σ f s/\k (as.map .ref) f
 |[],us,as,H,k=>fun I r d _ _ _ _ h=>by
  cases r;have:as=[]:=List.eq_nil_of_length_eq_zero d;subst this;exact⟨H,I,h⟩
 |(x,y)::ps,us,as,H,k=>fun I r d i hn g e h=>by
  cases r with
  |@cons _ q _ n m o=>
   match as,d,i,hn,g,e with
   |a::t,d,i,hn,g,e=>
    obtain⟨p,u,v⟩:=g 0 a rfl;cases u;obtain⟨w,z⟩:=List.pairwise_cons.mp i;have B:=I.trackT v (.cons m.1 (.cons m.2 .nil)) (by show 2<=sizeLine;rw[J9];decide) (hn a B9) (e a B9).1 (e a B9).2;have l:=Nat.succ.inj d;obtain⟨f,C,D⟩:=VZ B o l z (fun b c=>by rw[aL (O7<|w b c)];exact hn b<|A9 _ c) (fun j b c=>g (j+1) b c) (fun b c=>e b<|A9 _ c)<|h a<|hn a B9;exact⟨f,C,D⟩
def aCi(K:Fg)(d:TE):TE:=fun σ H Q=>d σ H fun x c=>∃a kvs,x=.ref a/\c a=Z (.dT kvs) /\
 ∀bs:Td,Paired (fun(b:Uf)(e:Ua Key×V)=>c b=Z (.tup (e.1.map kV))) bs kvs->wH ((bs.zip kvs).map fun p=>(.ref p.1,p.2.2)) c fun vs f=>RL K vs f Q
end
section
variable{X:Cx}{o:Ug}{td:TE}{pos apos cpos p:Pos}
theorem KT.addrs:∀{kvs:Ua (Ua Key×V)}{xs:Ua (Ua Key×Uf×Uc)},KT H kvs xs->Paired (fun(b:Uf)(d:Ua Key×V)=>H b=Z (.tup (d.1.map kV))) (xs.map fun x=>x.2.1) kvs /\
 Paired (fun(p:V×V)(q:Uc×Uc)=>RelV p.1 q.1/\RelV p.2 q.2) (((xs.map fun x=>x.2.1).zip kvs).map fun p=>(V.ref p.1,p.2.2)) (xs.map fun x=>(Value.ref x.2.1,x.2.2))
 |_,_,.nil=>⟨.nil,.nil⟩
 |_,_,.cons a c=>⟨.cons a.2.1 (KT.addrs c).1,.cons ⟨rfl,a.2.2⟩ (KT.addrs c).2⟩
def aEB(G:X.A.in1.in1.units+64<cLine)(J:X.calm=true)(L:Gl X "sorted")(hm:X.mg "sorted"=Y)(M:PE X o td)(f:attributeBase o "items" X.env (eval o X.env)=eval o X.env)(g:(apos.endLine==cpos.line)=true):
 PE X (.Call (.Name "sorted" p) [.Call (.Attribute o "items" apos) [] [] cpos] [] pos) (aCi X.K td):=by
 intro pins s m H Q I h;refine Y9<|iH I L hm boot_sorted ?_ 52 52;refine A0n ?_ rfl rfl;refine A0y ?_;refine wpAny_Call_method f rfl g F.plainAttrs_dict F.slot_dict_items F.type_dict_items (thn (M pins s m H _ I h) fun u s1 ⟨x,C,i,N,a,kvs,ex,O,q⟩=>?_);subst ex;obtain rfl:=N;obtain⟨z,hs,xs,r,od,es,ep,n,D,P,E,h5⟩:=(i.hok a _ O);have hT:s1.TypeIs (.ref a) "dict":=⟨od,n,D.1⟩;refine⟨hT,fun b e=>by cases e;exact⟨od,n,D.2.1⟩,?_⟩;refine method_meetsIn F.slot_dict_items F.entry_dict_items rfl<|PySem.evalArgs_none ⟨rfl,hT,F.args_dict_items_1 _,_,RV a hs,hT,?_⟩;refine A1s ?_;have R:Inv X pins m C { s1 with heap:=s1.heap.push { cls:=.type "dict_items",data:=.fields #[.ref a] } }:=i.kept fun b o e=>A2 _ e;have S:(s1.heap.push { cls:=.type "dict_items",data:=.fields #[.ref a] }).IsItemsView s1.heap.objs.size a:=⟨_,C2 _ rfl,rfl,rfl⟩;have t:Raw (s1.heap.push { cls:=.type "dict_items",data:=.fields #[.ref a] }) a es ep:=⟨od,A2 _ n,P⟩;have T:es.size=xs.length:=by rw[<- E8,E,A4]
 have hl:=Paired.len r;refine Calls.call_function_entry kind_sorted plain_sorted entry_sorted (args_sorted1 _) ?_;refine A0<|A3 ?_;refine A0 (YT (I.ok.hd J) S t 50 fun h' tk as U v l=>?_);have V:Inv X pins m C { s1 with heap:=h',toks:=tk }:=R.kept U;obtain⟨w,y⟩:=KT.addrs r;have d:=fun b f=>A0i (by rw[Y7];exact S6 _)<|l.above b f
 obtain⟨H2,W,k⟩:=VZ V y 54 l.rise (fun b f=>i.hok.fresh<|A1l<|d b f) (fun j b hj=>by
  obtain⟨e,B,e2⟩:=l.duos j b hj;refine⟨(e.key,e.val),?_,e2⟩;rw[<- E7,E,D6]at B;rw[D6];cases c:xs[j]?<;>rw[c]at B<;>cases B;rfl) (fun b f=>⟨Heap.get?_none_of_le (E6 i.sz (A1l (d b f))),fun p hp=>C3 (A0i (B6 (i.pin p hp).1) (d b f))⟩) (q _ w)
 exact aDL G W (by
  clear k l v d
  induction as with
  |nil=>exact .nil
  |cons b as ih=>exact .cons rfl ih) k
end
section
variable{K:Fg}{td:TE}{fo:EF}
def Good.adopt{W:Wd}(G:Good K W M H)(d:H b=Z (.tup us)):W.Ext { W with F:=upd W.F b (.tup us) }/\Good K { W with F:=upd W.F b (.tup us) } M H:=by
 have ff:iC W.F (upd W.F b (.tup us)):=fun c o a=>by
  by_cases q:c=b
  .subst q;have:=G.fh _ _ a;rw[d]at this;cases this;exact aT
  .rw[aL q];exact a
 have e:W.Ext { W with F:=upd W.F b (.tup us) }:=⟨ff,A8 _,fun _ _=>rfl⟩;refine⟨e,fun c o a=>?_,G.n,fun i c hi a=>?_,G.inj,G.tb.updF fun ps e=>by rw[d]at e;cases e⟩
 .have a:upd W.F b (.tup us) c=Z o:=a;by_cases q:c=b
  .subst q;rw[aT]at a;cases a;exact d
  .rw[aL q]at a;exact G.fh c o a
 .obtain⟨h,o,f,g⟩:=G.cs i c hi a
  have ne:W.α i≠b:=fun q=>by
   rw[q,d]at f;cases f;cases c<;>exact False.elim g
  exact⟨by show upd W.F b (.tup us) (W.α i)=Y;rw[aL ne];exact h,o,f,g.up e⟩
def YW(a:Ua Key×Ud):T5:=[.tuple (a.1.map wW),a.2]
def tV:Ua (Ua Key×CD)->Ub (Ua (Ua Key×Ud))
 |[]=>Z []
 |(k,.d x)::r=>(tV r).bind fun q=>Z ((k,x)::q)
 |_=>Y
def fS(a:Ua (T5)):Ub (T5):=if sortable a=true then Z (QY a)else if a.length<2 then Z (a.map .tuple)else Y
def yB(fo:EF):EF:=fun a M=>(fo a M).bind fun o=>match o.1 with
 |.c i=>match o.2[i]? with
  |some (.dt kvs)=>(tV kvs).bind fun ds=>(fS<|ds.map YW).bind fun r=>Z (.d (.list r),o.2)
  |_=>Y
 |_=>Y
theorem KL:∀ks:Ua Key,aM K H (ks.map wW) (ks.map kV)
 |[]=>rfl
 |k::ks=>⟨_,_,rfl,by cases k<;>rfl,KL ks⟩
theorem xF:∀{bs:Td}{kvs:Ua (Ua Key×V)}{W:Wd},Good K W M H->Paired (fun(b:Uf)(a:Ua Key×V)=>H b=Z (.tup (a.1.map kV))) bs kvs->∃W',W.Ext W'/\Good K W' M H/\Paired (fun(b:Uf)(a:Ua Key×V)=>W'.F b=Z (.tup (a.1.map kV))) bs kvs
 |_,_,W,G,.nil=>⟨W,.refl _,G,.nil⟩
 |_,_,W,G,.cons d e=>by
  obtain⟨f,g⟩:=G.adopt d;obtain⟨h,c,G2,i⟩:=xF g e;exact⟨h,f.trans c,G2,.cons (c.ff _ _ aT) i⟩
theorem PH:∀{bs:Td}{ds:Ua (Ua Key×Ud)}{kvs:Ua (Ua Key×V)}{W:Wd}{H:Hp}{k:Tf->Hp->Prop},Good K W M H->Paired (fun(b:Uf)(f:Ua Key×V)=>W.F b=Z (.tup (f.1.map kV))) bs kvs->Paired (fun(p:Ua Key×Ud)(q:Ua Key×V)=>p.1=q.1/\Rep K W.F p.2 q.2) ds kvs->
 (∀vs W' H',W.Ext W'->Good K W' M H'->aM K W'.F ((ds.map YW).map .tuple) vs->k vs H')->wH ((bs.zip kvs).map fun p=>(.ref p.1,p.2.2)) H k
 |_,_,_,W,H,k,G,.nil,.nil=>fun c=>c [] W H (.refl _) G rfl
 |b::bs,(ks,d)::ds,(g,v)::kvs,W,H,k,G,.cons h i,.cons j q2=>fun c=>by
  obtain⟨rfl,rd⟩:=j;intro p l;obtain⟨a,m⟩:=G.lay l;refine PH m (Paired.mapP i fun _ _ r=>a.ff _ _ r) (Paired.mapP q2 fun _ _ r=>⟨r.1,Rep.same a.ff _ _ r.2⟩) fun vs n o e G2 s=>?_;refine c _ n o (a.trans e) G2 ⟨_,_,rfl,⟨p,_,rfl,SqT.of<|e.ff _ _ aT,?_⟩,s⟩;exact⟨_,_,rfl,⟨b,_,rfl,SqT.of<|(a.trans e).ff _ _ h,KL ks⟩,_,_,rfl,Rep.same (a.trans e).ff _ _ rd,rfl⟩
theorem yE{W:Wd}:∀{kvs:Ua (Ua Key×CD)}{ds:Ua (Ua Key×Ud)}{us:Ua (Ua Key×V)},tV kvs=Z ds->PKV K W kvs us->Paired (fun(p:Ua Key×Ud)(q:Ua Key×V)=>p.1=q.1/\Rep K W.F p.2 q.2) ds us
 |[],_,_,h,.nil=>by cases h;exact .nil
 |(k,.d x)::r,_,_,h,.cons a b=>by
  obtain⟨q,e,h⟩:=aI h;cases h;exact .cons a (yE e b)
 |(k,.c _)::r,_,_,h,_=>by cases h
def aDs(a:SE K td fo):SE K (aCi K td) (yB fo):=by
 intro J M x M' b W H q Q G R k;obtain⟨⟨o,M1⟩,s,b⟩:=aI b;revert b;dsimp only;split
 .rename_i i;split
  .rename_i kvs t;intro b;obtain⟨ds,u,b⟩:=aI b;obtain⟨r,c,b⟩:=aI b;cases b;refine a _ _ _ _ s W H q _ G R fun v L N w n y=>?_;obtain⟨us,z,B⟩:=n.dtAt t;refine⟨_,us,y.2,z,fun bs C=>?_⟩;obtain⟨O,p,G2,D⟩:=xF n C;refine PH G2 D (Paired.mapP (yE u B) fun _ _ r=>⟨r.1,Rep.same p.ff _ _ r.2⟩) fun vs P S E h g=>?_;have e:=(w.trans p).trans E;unfold fS at c;by_cases hs:sortable (ds.map YW)=true
   .rw[A7 hs]at c;cases c;obtain⟨s1,s2,s3,F,I⟩:=yS hs;refine .inl ⟨ds.map YW,aM.same h.fh _ _ g,s1,s2,s3,F,I,fun l j=>?_⟩;obtain⟨f,m⟩:=h.lay j;exact k _ _ _ (e.trans f) m ⟨l,_,rfl,SqL.of aT,aM.same f.ff _ _<|EU g _<|aIG 50⟩
   .rw[B7 hs]at c;by_cases d:(ds.map YW).length<2
    .rw[A7 d]at c;cases c;refine .inr ⟨by rw[<- g.length,A4];exact d,fun l j=>?_⟩;obtain⟨f,m⟩:=h.lay j;exact k _ _ _ (e.trans f) m ⟨l,_,rfl,SqL.of aT,aM.same f.ff _ _ g⟩
    .rw[B7 d]at c;cases c
  .intro b;cases b
 .intro b;cases b
def aBq{ι:Type}{X:ι->Cx}{pos apos cpos p:Pos}(b:∀i,(X i).K=K)(c:∀i,(X i).A.in1.in1.units+64<cLine)(d:∀i,(X i).calm=true)(hm:∀i,(X i).mg "sorted"=Y)(x:ME K X o f)(e:∀i,Gl (X i) "sorted":=by intro _;rfl)
 (g:∀env:Env,attributeBase o "items" env (eval o env)=eval o env:=by intro _;rfl) (a:(apos.endLine==cpos.line)=true:=by rfl):ME K X (.Call (.Name "sorted" p) [.Call (.Attribute o "items" apos) [] [] cpos] [] pos) (yB f):=by
 obtain⟨t,h,j⟩:=x.ex;exact⟨_,fun i=>by have:=aEB (p:=p) (pos:=pos) (c i) (d i) (e i) (hm i) (h i) (g _) a;rw[b i]at this;exact this,aDs j⟩
end
section
variable{K:Fg}
def Good.freezeL{W:Wd}{i:Nat}{ds:T5}(G:Good K W M H)(hi:M[i]?=Z (.lst xs))(hd:jL xs=Z ds):
 ∃W',W.Ext W'/\Good K W' (M.set i .dead) H/\W'.α i=W.α i/\bW K W' (.d (.list ds)) (.ref (W.α i)):=by
 obtain⟨vs,f,r⟩:=G.lstAt hi;obtain⟨hn,_⟩:=G.cs i _ hi 53;have lt:=(B3.mp hi).1;have e:W.Ext { W with F:=upd W.F (W.α i) (.lst vs) }:=⟨iC.upd hn,A8 _,fun _ _=>rfl⟩
 have at_:∀j d,(M.set i .dead)[j]?=Z d->d≠.dead->j≠i/\M[j]?=Z d:=fun j d h hd=>by
  by_cases q:i=j
  .subst q;rw[E2 lt]at h;exact absurd (F0 h).symm hd
  .rw[E1 q]at h;exact⟨fun z=>q z.symm,h⟩
 refine⟨_,e,⟨fun c o a=>?_,by show W.n=_;rw[G.n,U2],fun j d b hd=>?_,fun j k g l b s m p t=>?_,G.tb.updF fun ps z=>by rw[f]at z;cases z⟩,rfl,⟨_,vs,rfl,SqL.of aT,aM.same e.ff _ _<|fG hd r⟩⟩
 .have a:upd W.F (W.α i) (.lst vs) c=Z o:=a;by_cases q:c=W.α i
  .subst q;rw[aT]at a;cases a;exact f
  .rw[aL q]at a;exact G.fh c o a
 .obtain⟨q,h⟩:=at_ j d b hd;obtain⟨v,u,w,x⟩:=G.cs j d h hd;have ne:=fun z=>q<|G.inj j i d _ h hi hd 53 z;exact⟨by show upd W.F (W.α i) (.lst vs) (W.α j)=Y;rw[aL ne];exact v,u,w,x.up e⟩
 .exact G.inj j k g l (at_ j g b m).2 (at_ k l s p).2 m p t
def sW(f:EF):EF:=fun a M=>(f a M).bind fun r=>match r.1 with
 |.c i=>match r.2[i]? with
  |some (.lst xs)=>(jL xs).bind fun ds=>Z (.d (.list ds),r.2.set i .dead)
  |_=>Y
 |.d x=>Z (.d x,r.2)
 |_=>Y
def aAe{t:TE}{f:EF}(a:SE K t f):SE K t (sW f):=by
 intro r M x M' b W H c Q G R k;obtain⟨⟨o,M1⟩,d,b⟩:=aI b;revert b;dsimp only;split
 .rename_i i;split
  .rename_i xs e;intro b;obtain⟨ds,g,b⟩:=aI b;cases b;refine a _ _ _ _ d W H c _ G R fun v s h j l m=>?_;obtain⟨n,p,G2,_,q⟩:=l.freezeL e g;rw[m.2];exact k _ n h (j.trans p) G2 q
  .intro b;cases b
 .intro b;cases b;exact a _ _ _ _ d W H c _ G R k
 .intro b;cases b
def GM{ι:Type}{X:ι->Cx}{e:Ug}{f:EF}(x:ME K X e f):ME K X e (sW f):=by
 obtain⟨t,a,b⟩:=x.ex;exact⟨t,a,aAe b⟩
def yQ:FN:=fun xs M=>match xs with
 |[.d a]=>(bC a).bind fun ds=>Z (.c M.length,M++[.lst (ds.map .d)])
 |[.c i]=>match M[i]? with
  |some (.lst b)=>Z (.c M.length,M++[.lst b])
  |_=>Y
 |_=>Y
def aEw:PN K (aEh K) yQ:=by
 intro xs M z M' h W H vs Q G r k;unfold yQ at h;split at h
 .rename_i a;obtain⟨ds,e,h⟩:=aI h;cases h;rcases r with _|⟨b,_|_⟩;obtain⟨p,us,rfl,hs,c⟩:=pG b e;refine⟨p,us,rfl,hs.elim (fun q=>.inl (G.fh.seq q)) fun q=>.inr (G.fh.seqT q),fun l d=>?_⟩;exact k _ (W.more l) _ (W.ext_more l) (G.new d<|eV c) G.newV
 .rename_i i;split at h
  .rename_i j f;cases h;rcases r with _|⟨b,_|_⟩;obtain⟨us,g,c⟩:=G.lstAt f;refine⟨_,us,by rw[b.2],.inl (SqL.of g),fun l d=>?_⟩;exact k _ (W.more l) _ (W.ext_more l) (G.new d c) G.newV
  .cases h
 .cases h
def WA{ι:Type}{X:ι->Cx}(a:∀i,(X i).K=K):QN K X (.type "list") yQ:=⟨_,fun i=>aMT<|a i,aEw⟩
def eqC(neg:Bool):F2:=fun x y M=>(snap 5 M x).bind fun a=>(snap 5 M y).bind fun b=>if (SeqAt.shaped a&&SeqAt.shaped b)=true then Z (.d (.bool (if neg then !PyData.eqv a b else PyData.eqv a b)),M)else Y
def aKE{neg:Bool}:P2 K (ZW K neg) (eqC neg):=by
 intro x y M z M' h W H v u Q G c d k;obtain⟨a,e,h⟩:=aI h;obtain⟨b,f,h⟩:=aI h;by_cases hs:(SeqAt.shaped a&&SeqAt.shaped b)=true
 .rw[A7 hs]at h;cases h;rw[B4]at hs;exact⟨a,b,vL G 5 x a v e c,vL G 5 y b u f d,hs.1,hs.2,k _ W H (.refl _) G rfl⟩
 .rw[B7 hs]at h;cases h
def eqY(neg:Bool):F2:=CH (eqX neg)<|eqC neg
def aOC{ι:Type}{X:ι->Cx}(a:∀i,(X i).K=K)(b:∀i,(X i).A.units+64<cLine):Q2 K X (compareOp .Eq) (eqY false):=⟨_,fun i=>(kEq (a i)<|b i).or (by have:=aDr<|b i;rw[a i]at this;exact this),P2.or aBl aKE⟩
end
section
variable{X:Cx}{pins:T3}{σ:St}{H:Hp}{s:Ue}{a:Uf}{y v:V}{u r:Uc}{A:Ui}{E:T2}
def aAv{Q:Unit->Ue->Prop}(D:A.units<cLine)(I:Inv X pins σ H s)(g:FA H a y v H')(p:RelV y u)(t:RelV v r)(h:∀x,Inv X pins σ H' x->Q () x):
 wpAny (model X.prog X.w) A (dictSet a u r) Q E s:=by
 rcases g with⟨kvs,k,e,j,l,m⟩|⟨kvs,k,b,e,j,B,l,m⟩
 .subst j m;obtain⟨z,hd,vs,d,n⟩:=aDi I.hok e;have F:vs.length<=sizeLine:=by rw[<- d.length];exact z
  have o:(putK kvs k v).length<=sizeLine:=by have:=jC kvs k v;omega
  refine wpAny_dictSet_pairs (zM p) n fun h' f hs=>h _ ?_;have G:∃q,h'.get? a=Z q:=let⟨q,_,_,i,_⟩:=f;⟨q,i⟩;exact sP I (by rw[e];exact True.intro) hs G<|RE o hd (d.put k t) f
 .subst j m;cases p;obtain⟨z,hd,xs,d,n⟩:=aIb I.hok e;have F:xs.length<=sizeLine:=by rw[<- A2g d];exact z
  have o:(putK kvs k v).length<=sizeLine:=by have:=jC kvs k v;omega
  refine wpAny_dictSet_heap D (uW I.hok B) n fun h' f hs=>h _ ?_;obtain⟨q,es,ep,i,J,K,L,_,M⟩:=f;refine sP I (by rw[e];exact True.intro) hs ⟨q,i⟩ ⟨o,hd,_,(d.put k B t).keeps fun c N C=>?_,q,es,ep,i,J,K,L,M⟩;rw[aL (aHZ C e fun z=>nomatch z)];exact C
end
section
variable{prog:Uh}{w:World}{A:Ui}{R:Result->Ue->Prop}{s:Ue}
def aEK{b:Ug}{scope:Scope}(I:Nat->Ue->Prop)
 (e:∀n s,I n s->wpAny (model prog w) A (pyNext it) (fun r s1=>(r=Y/\R (.ok .next) s1)\/∃v,r=Z v /\
  wpAny (model prog w) A (letOwnedTupleGo a it v) (fun _ s2=>wpAny (model prog w) A (assign a env v) (fun _ s3=>
   wpAny (model prog w) A (forIn d true fun c r=>if r=true then(do
    let ok <- isTrue c env (eval c env)
    pure (ForInStep.yield ok))else pure (ForInStep.yield r)) (fun ok l=>
     (ok=true/\wpAny (model prog w) A (eval j env) (fun o p=>wpAny (model prog w) A (eval k env) (fun q t=>wpAny (model prog w) A (dictSet D o q) (fun _ u=>∃m,m<n/\I m u) 58 t) 58 p) 58 l) \/
     (ok=false/\∃m,m<n/\I m l)) 58 s3) 58 s2) 58 s1) 58 s)
 (n:Nat) (h:I n s):codeAny (model prog w) A (.compLoop (.DictComp j k [⟨a,b,d,0⟩] scope pos) 0 it (.ref D) env) R s:=by
 refine codeAny_loop rfl I (fun n s y=>?_) n h
 show wpAny _ A ((compTurn (.DictComp j k [⟨a,b,d,0⟩] scope pos) 0 it (.ref D) env).onRaise fun x=>do
  noteFrame x env
  theTreesLotGoes x) _ _ s
 refine wpAny_noted ?_;refine A0<|Y6<|A0 (E5 (e n s y) (fun r s1 g=>?_) fun _ _ f=>f.elim);rcases g with⟨rfl,g⟩|⟨v,rfl,g⟩
 .exact A3 g
 .refine A0 (E5 g (fun _ s2 z=>?_) fun _ _ f=>f.elim);refine A0 (E5 z (fun _ s3 B=>?_) fun _ _ f=>f.elim);refine A0 (E5 B (fun ok l i=>?_) fun _ _ f=>f.elim);rcases i with⟨rfl,i⟩|⟨rfl,i⟩
  .refine A0<|A0 (E5 i (fun o p C=>?_) fun _ _ f=>f.elim);refine A0<|J8 (E5 C (fun q t E=>?_) fun _ _ f=>f.elim);refine A0<|Y6<|J8 (E5 E (fun _ u F=>A3 ⟨rfl,F⟩) fun _ _ f=>f.elim)
  .exact A3 ⟨rfl,i⟩
end
def tDc(l:HO)(cap:T4)(n:TI)(g:TG)(o:TT)(tk p:TE):TE:=fun e H Q=>n e H fun J f=>∀D,f D=Y->∃W:Nat->Nat->St->Hp->Prop,(∃m,W 0 m (uU cap e)<|upd f D l)/\∀i m c H',W i m c H'->
 (J.stop i H'/\Q (.ref D) H') \/
 (J.go i H'/\∃N:St->Hp->Prop,(∀a d,N a d->∃h,h<m/\W (i+1) h a d)/\∀x d,J.yld i H' x d->g x c d fun a q=>o a q fun b j=>(b=true/\tk a j fun y r=>p a r fun v s=>∃k,FA s D y v k/\N a k)\/(b=false/\N a j))
section
variable{X:Cx}{N':Te}{cap:T4}{scope:Scope}
def aKo{j:HO}(ho:j=.dT []\/j=.dK []){tk:TE}(hu:X.A.units<cLine)(hc:X.calm=true)(S:nI X N' cap scope)(hi:PI X tg d wi)
 (hg:∀C s H fp pn,PG (bO X N' scope C s H fp pn) tg g) (a7:∀C s H fp pn,uH (bO X N' scope C s H fp pn) k tc) (hk:∀C s H fp pn,PE (bO X N' scope C s H fp pn) kx tk) (hv:∀C s H fp pn,PE (bO X N' scope C s H fp pn) vx tv)
 (hs:∀x,foldedSetIterable d X.env x=pure x) (I:Inv X pins M H s) (h:tDc j cap wi g tc tk tv M H Q)
 (a0:∀(D C:Uf)(H':Hp)(O:Ue),(∃m,O.heap.Ns C m)->(∀h',Heap.SameBut C O.heap h'->Inv X pins M H' { O with heap:=h' })->lD X pins H' C->Q (.ref D) H'->compPost (model X.prog X.w) X.A X.xe use QQ (.ref D) C (.ok .next) O):
 wpAny (model X.prog X.w) X.A (comprehension (.DictComp kx vx [⟨tg,d,k,0⟩] scope pos) scope X.env (firstIterPos [⟨tg,d,k,0⟩] pos) newDict false (firstIter [⟨tg,d,k,0⟩] X.env) use) QQ X.xe s:=by
 refine wpAny_comprehension_free rfl hs (vA<|S.cells I.ok) S.kind S.names ?_;refine thn (hi pins s M H _ I h) fun v s1 h1=>thn h1 fun aw s2 h2=>?_;obtain⟨it,fp,tn,J,l,e,I2,T,a1,f2,hD⟩:=h2;subst e
 have P:∀b∈fp,b<s2.heap.objs.size:=fun b a=>by
  obtain⟨o,e,_⟩:=T.obj _ _ a1 b a;exact B6 e
 refine E4 ?_;obtain⟨W,⟨m0,w0⟩,a2⟩:=hD s2.heap.objs.size<|I2.hok.fresh<|A8 _;generalize R:s2.heap.objs.size=D at *
 have I3:Inv X pins M (upd l D j) { s2 with heap:=s2.heap.push { cls:=.type "dict",data:=.dict #[] } }:=by
  refine I2.laid (fun _ _ q=>A2 _ q) (Nat.le_of_eq R) ?_;rcases ho with rfl|rfl
  .rw[<- R];exact OZ _ I2.big
  .rw[<- R];exact CI _ I2.big
 have t:tn 0 (s2.heap.push { cls:=.type "dict",data:=.dict #[] }):=T.keep _ _ _ a1 fun b _ o e=>A2 _ e
 have F:∀b∈fp,lD X pins (upd l D j) b:=fun b a=>by
  obtain⟨q0,q1⟩:=f2 b a;exact⟨by rw[aL (C3<|P b a)];exact q0,q1⟩
 generalize a8:({ s2 with heap:=s2.heap.push { cls:=.type "dict",data:=.dict #[] } }:Ue)=s3 at I3 ⊢;have t:tn 0 s3.heap:=by rw[<- a8];exact t
 have G:∀b∈fp,b<s3.heap.objs.size:=fun b a=>by
  obtain⟨o,e,_⟩:=T.obj _ _ t b a;exact B6 e
 refine wpAny_newFunctionEnv S.nocell (fun y hy=>by simp at hy) (fun a3 a9 aa=>?_) S.kind;have U:=fun b o e=>aa.extBut b o (C3<|B6 e)<|A2 _ e
 have I4:Inv (bO X N' scope s3.heap.objs.size s3 (upd l D j) fp pins) [] (uU cap M) (upd l D j) { s3 with heap:=a3,toks:=s3.toks+([]:Tx).length }:=
  DK S I3 F G (A8 _) (by simpa using a9) U
 have K:∀s4:Ue,s4={ s3 with heap:=a3,toks:=s3.toks+([]:Tx).length }->
  codeAny (model X.prog X.w) X.A (.compLoop (.DictComp kx vx [⟨tg,d,k,0⟩] scope pos) 0 (.ref it) (.ref D) (compEnvC scope (eK X.env scope.names []) s3.heap.objs.size X.env)) (compPost (model X.prog X.w) X.A X.xe use QQ (.ref D) s3.heap.objs.size) s4:=by
  rintro s4 rfl
  have B:∀{Hx:Hp},(∀b∈fp,Hx b=Y)->∀b∈fp,lD (bO X N' scope s3.heap.objs.size s3 (upd l D j) fp pins) [] Hx b:=fun{Hx} hn b a=>by
   refine⟨hn b a,C3<|G b a,I3.stkAll (F b a).2.1 (F b a).2.2.1,.inl a,fun x c e=>(F b a).2.2.2.2.1 x c (S.sub I3.ok x c e),fun p hp=>?_⟩;rcases C9.mp hp with z|z
   .exact(F b a).2.2.2.2.2 p z
   .exact absurd z 53
  refine aEK (fun n O=>∃(i:Nat)(f:St)(H':Hp),Inv (bO X N' scope s3.heap.objs.size s3 (upd l D j) fp pins) [] f H' O/\tn i O.heap/\(∀b∈fp,H' b=Y)/\W i n f H') ?_ m0
   ⟨0,uU cap M,_,I4,T.keep _ _ _ t fun b _ o e=>U b o e,fun b a=>(F b a).1,w0⟩
  rintro n s5 ⟨i,f,H',I5,t5,a4,w5⟩;rcases a2 i n f H' w5 with⟨stop,q⟩|⟨go,N,hN,step⟩
  .refine thn (T.done (bO X N' scope s3.heap.objs.size s3 (upd l D j) fp pins) rfl rfl rfl hc i _ s5 f H' _ I5 (B a4) t5 stop) fun r s6 ⟨hr,I6⟩=>.inl ⟨hr,?_⟩;have nC:=I6.free;refine a0 D _ H' s6 (let⟨m,hn,_⟩:=I6.loc;⟨m,hn⟩) (fun h' ab=>?_) (I3.fpOk (A8 _) nC) q;have up:=fun b o a e=>ab.extBut b o a e;have V:∀b o,s3.heap.get? b=Z o->b≠s3.heap.objs.size:=fun b o e=>C3<|B6 e;have u6:=I6.base
   have u7:Un (frs X.stack) fp (upd l D j) H' s3.heap h':=by
    refine⟨fun b o e n a hx=>up b o (V b o e)<|u6.keep b o e n a hx,fun b o e n a hx=>?_,u6.free,fun b o e hx=>?_,u6.tups,u6.frzs,u6.tbls⟩
    .obtain⟨sl,q⟩:=u6.slot b o e n a hx;exact⟨sl,up b _ (V b o e) q⟩
    .obtain⟨o',q⟩:=u6.there b o e hx;exact⟨o',up b o' (V b o e) q⟩
   have ac:=fun b u e=>by
    refine(I6.hok b u e).stay (fun c v ae z=>up c v ?_ z) (fun c z=>z) fun c xs z=>z;rcases ae with rfl|z
    .exact aQ e nC
    .exact aQ z nC
   have af:=I6.os;have ag:=I6.bare;obtain⟨hh,gg,dd,tt,oo⟩:=s6;subst af;have z7:=I3.call (d':=dd) (t':=tt) u7 ac ag fun b a=>⟨(F b a).2.2.2.1,(F b a).2.1,(F b a).2.2.2.2.1,(F b a).2.2.2.2.2⟩;exact z7
  .refine thn (T.item (bO X N' scope s3.heap.objs.size s3 (upd l D j) fp pins) rfl rfl rfl hc i _ s5 f H' _ I5 (B a4) t5 go) fun r s6 ⟨u,hr,h6⟩=>.inr ⟨u,hr,?_⟩;refine thn h6 fun _ s7 ⟨x,H7,I7,r7,y7,t7,ah⟩=>?_;have ai:=I7.pinned (B ah) (T.obj _ _ t7)
   have L:∀{a5:St}{Hx:Hp}{sx:Ue},Inv (bO X N' scope s3.heap.objs.size s3 (upd l D j) fp pins) ([]++pE fp s7.heap) a5 Hx sx->(∀b∈fp,∀o,s7.heap.get? b=Z o->sx.heap.get? b=Z o)/\(∀b∈fp,Hx b=Y):=fun{a5 Hx sx} Ix=>by
    refine⟨fun b a o e=>(Ix.pin (b,o)<|B5 _<|B5 _<|cN a e).1,fun b a=>?_⟩;obtain⟨o,e,_⟩:=T.obj _ _ t7 b a;exact(Ix.pin (b,o)<|B5 _<|B5 _<|cN a e).2.1
   refine thn (hg _ _ _ _ _ _ s7 f H7 x u _ ai r7<|step x H7 y7) fun _ s8 ⟨E,H8,I8,q8⟩=>?_;refine thn (a7 _ _ _ _ _ _ s8 E H8 _ I8 q8) fun b s9 ⟨H9,I9,q9⟩=>?_;rcases q9 with⟨rfl,q9⟩|⟨rfl,n9⟩
   .refine .inl ⟨rfl,thn (hk _ _ _ _ _ _ s9 E H9 _ I9 q9) fun uk aj ⟨y,ak,am,ry,ao⟩=>thn (hv _ _ _ _ _ _ aj E ak _ am ao) fun uv ax ⟨v,ay,ap,rv,aq,ar,au⟩=>?_⟩;obtain⟨m',hm,av⟩:=hN _ _ au;refine aAv (X:=bO X N' scope s3.heap.objs.size s3 (upd l D j) fp pins) hu ap ar ry rv fun az a6=>?_;obtain⟨b1,b2⟩:=L a6;exact⟨m',hm,i+1,E,aq,a6.pins_of fun p hp=>absurd hp 53,T.keep _ _ _ t7 b1,b2,av⟩
   .obtain⟨m',hm,w9⟩:=hN _ _ n9;obtain⟨b1,b2⟩:=L I9;exact .inr ⟨rfl,m',hm,i+1,E,H9,I9.pins_of fun p hp=>absurd hp 53,T.keep _ _ _ t7 b1,b2,w9⟩
 exact codeAny_compStart_dict (K _ rfl)<|T.self _ 0 _ _ _ (T.keep _ _ _ t fun b _ o e=>U b o e)<|K _ rfl
def aMJ{c:HO}(n:c=.dT []\/c=.dK []){tk:TE}(o:X.A.units<cLine)(p:X.calm=true)(S:nI X N' cap scope)(hi:PI X tg a j)
 (r:∀C s H fp pn,PG (bO X N' scope C s H fp pn) tg g) (d:∀C s H fp pn,uH (bO X N' scope C s H fp pn) b k) (t:∀C s H fp pn,PE (bO X N' scope C s H fp pn) f tk) (u:∀C s H fp pn,PE (bO X N' scope C s H fp pn) i l)
 (hs:∀x,foldedSetIterable a X.env x=pure x:=by intro _;rfl):PE X (.DictComp f i [⟨tg,a,b,0⟩] scope pos) (tDc c cap j g k tk l):=fun pins s w H Q I h=>
 aKo n o p S hi r d t u hs I h fun D _ H' _ ⟨m,hn⟩ v _ q=>⟨m,hn,fun h' e=>⟨.ref D,H',v h' e,rfl,q⟩⟩
end
def dcF(d:Nat)(g:GF)(c:TF)(f:KF)(e:EF):T8->Ga->Sto->Ub Sto
 |[],_,M=>Z M
 |x::xs,h,M=>(g x h M).bind fun a=>(c a.1 a.2).bind fun b=>if b.1=true then(f a.1 b.2).bind fun k=>(e a.1 k.2).bind fun v=>(qD v.2 (.c d) k.1 v.1).bind fun M'=>dcF d g c f e xs a.1 M' else dcF d g c f e xs a.1 b.2
def fDc(b:Cell)(cap:T4)(f:AF)(g:GF)(c:TF)(d:KF)(e:EF):EF:=fun a M=>(f a M).bind fun r=>(dcF r.2.length g c d e r.1 (tI cap a) (r.2++[b])).bind fun M'=>Z (.c r.2.length,M')
section
variable{K:Fg}{tg:TG}{tt:TT}{hg:GF}{ft:TF}{fa:AF}
def aMR{L:HO}{N:Cell}(h0:(L=.dT []/\N=.dt [])\/(L=.dK []/\N=.dk [])){tk:TE}{P:EF}(i:SI K wi fa)(a:SG K tg hg)(c:STt K tt ft)(b:SK K tk O)(e:SE K tv P):
 SE K (tDc L cap wi tg tt tk tv) (fDc N cap fa hg ft O P):=by
 intro γ M x M' t W H σ Q G R k;obtain⟨⟨h,M1⟩,h1,t⟩:=aI t;obtain⟨M9,h9,t⟩:=aI t;cases (t);refine i _ _ _ _ h1 W H σ _ G R fun J S H1 e1 G1 gv=>fun D hD=>?_;have G2:Good K (S.more D) (M1++[N]) (upd H1 D L):=G1.new hD (by rcases h0 with⟨rfl,rfl⟩|⟨rfl,rfl⟩<;>exact .nil);have X:=S.ext_more D;have rD:bW K (S.more D) (.c M1.length) (.ref D):=G1.newV;refine⟨fun j m l H'=>∃n T o,j<=h.length/\m=h.length-j/\(S.more D).Ext o/\Good K o T H'/\cF K o n l/\dcF M1.length hg ft O P (h.drop j) n T=Z M',⟨_,tI cap γ,_,_,F9 _,rfl,.refl _,G2,DS ((R.up e1).up X) cap,h9⟩,?_⟩;rintro j m l H' ⟨n,T,o,hj,rfl,u,G3,R3,d⟩;obtain⟨a0,a1⟩:=gv o T H' (X.trans u) G3;by_cases q:j<h.length
 .obtain⟨go,yl⟩:=a0 j h[j]<|C0 q;rw[A0e q]at d;refine .inr ⟨go,fun w U=>∃f V B,o.Ext B/\Good K B V U/\cF K B f w/\dcF M1.length hg ft O P (h.drop (j+1)) f V=Z M',?_,fun y U hy=>?_⟩
  .rintro w U ⟨f,V,B,e4,G4,R4,h4⟩;exact⟨_,50,f,V,B,q,rfl,u.trans e4,G4,R4,h4⟩
  .obtain⟨W8,e8,G8,ry⟩:=yl y U hy;obtain⟨⟨C,M5⟩,h5,d⟩:=aI d;obtain⟨⟨b6,M6⟩,h6,d⟩:=aI d;refine a _ _ _ _ _ h5 W8 _ l y _ G8 (R3.up e8) ry fun r W5 H5 e5 G5 E=>?_;refine c _ _ _ _ h6 W5 H5 r _ G5 E fun W6 H6 F G6=>?_;have I:=(e8.trans e5).trans F;cases b6 with
   |true=>
    obtain⟨⟨ky,M7⟩,h7,d⟩:=aI d;obtain⟨⟨z,ab⟩,a2,d⟩:=aI d;obtain⟨a3,a4,d⟩:=aI d;refine .inl ⟨rfl,b _ _ _ _ h7 W6 H6 r _ G6 (E.up F) fun yv W7 H7 e7 G7 r7=>e _ _ _ _ a2 W7 H7 r _ G7 (E.up<|F.trans e7) fun v a5 ac s a6 a7=>?_⟩;have g:=(I.trans e7).trans s;obtain⟨p,a8,ep,a9,aa⟩:=QW a6 a4 (rD.up<|u.trans g) (r7.up s) a7;cases ep;exact⟨a8,a9,C,a3,a5,g,aa,E.up<|(F.trans e7).trans s,d⟩
   |false=>
    exact .inr ⟨rfl,C,M6,W6,I,G6,E.up F,d⟩
 .have ej:j=h.length:=50
  subst ej;rw[A1r]at d;cases d;exact .inl ⟨a1,k _ o H' ((e1.trans X).trans u) G3<|rD.up u⟩
variable{ι:Type}{X:ι->Cx}{N':Te}{cap:T4}{scope:Scope}{tg' iter kx vx:Ug}{ifs:Tb}{gf:GF}{fk:KF}{f:EF}{pos:Pos}
def aLZ(a:∀i,(X i).A.units<cLine)(b:∀i,(X i).calm=true)(S:∀i,nI (X i) N' cap scope)(x:MI K X tg' iter fa)(y:MG K (jD X N' scope) tg' gf)(z:MF K (jD X N' scope) ifs ft)(w:MK K (jD X N' scope) kx fk)(q:ME K (jD X N' scope) vx f)(hs:∀(env:Env)(x:Uc),foldedSetIterable iter env x=pure x:=by intro _ _;rfl):
 ME K X (.DictComp kx vx [⟨tg',iter,ifs,0⟩] scope pos) (fDc (.dt []) cap fa gf ft fk f):=by
 obtain⟨t,c,d⟩:=x.ex;obtain⟨u,e,g⟩:=y.ex;obtain⟨v,h,j⟩:=z.ex;obtain⟨o,k,l⟩:=w.ex;obtain⟨p,m,n⟩:=q.ex;exact⟨_,fun i=>aMJ (.inl rfl) (a i) (b i) (S i) (c i) (fun C s H fp pn=>e (i,C,s,H,fp,pn)) (fun C s H fp pn=>h (i,C,s,H,fp,pn)) (fun C s H fp pn=>k (i,C,s,H,fp,pn)) (fun C s H fp pn=>m (i,C,s,H,fp,pn))<|hs _,aMR (.inl ⟨rfl,rfl⟩) d g j l n⟩
end
def aDK(K:Fg):Tf->Hp->VK->Prop:=fun xs H Q=>∃a kvs,xs=[.ref a]/\H a=Z (.dT kvs)/\∀bs:Td,Paired (fun(b:Uf)(c:Ua Key×V)=>H b=Z (.tup (c.1.map kV))) bs kvs->RL K (bs.map .ref) H Q
theorem HK:∀bs:Td,bE (bs.map V.ref) (bs.map Value.ref)
 |[]=>.nil
 |_::bs=>.cons rfl (HK bs)
def KI{X:Cx}(g:X.A.in1.in1.units+64<cLine)(i:X.calm=true):fP X (.builtin "sorted") (aDK X.K):=by
 intro pins s k H xs us Q I r h;obtain⟨a,kvs,rfl,l,q⟩:=h;obtain⟨u,rfl,m⟩:=vals1 r;cases m;obtain⟨z,hs,ks,rk,od,es,ep,n,o,p,d,B⟩:=(I.hok a _ l);have C:=Paired.len rk;have el:es.size=ks.length:=by rw[<- E8,d,A4]
 refine Calls.call_function_entry kind_sorted plain_sorted entry_sorted (args_sorted1 _) ?_;refine A0<|A3 ?_;refine A0 (W.kdu_collect (aBc hs o.1 p) (I.ok.hd i) n 50 fun h' tk acc t b=>?_);have y:Inv X pins k H { s with heap:=h',toks:=tk }:=I.kept t
 have ev:acc.toList=(ks.map fun x=>x.2.1).map Value.ref:=by
  refine A1m fun j=>?_;rw[E7];cases e:acc[j]? with
  |none=>
   have:(ks.map fun x=>x.2.1).length<=j:=by
    have D:=b.1;have:=A2k.mp e;rw[A4];omega
   rw[Y8 54]
  |some v=>
   have c:(es[j]?).map (·.key)=Z v:=b.2 j v e;rw[<- E7,d,D6]at c;rw[D6,D6];cases f:ks[j]? with
   |none=>rw[f]at c;cases c
   |some w=>rw[f]at c;cases c;rfl
 rw[ev];exact aDL g y (HK _)<|q _ (KT.addrs rk).1
section
variable{K:Fg}
def uO:FN:=fun xs M=>match xs with
 |[.c i]=>match M[i]? with
  |some (.dt kvs)=>(fS (kvs.map fun a=>a.1.map wW)).bind fun r=>Z (.d (.list r),M)
  |_=>Y
 |_=>Y
theorem QO{W:Wd}:∀{bs:Td}{kvs:Ua (Ua Key×V)},Paired (fun(b:Uf)(a:Ua Key×V)=>W.F b=Z (.tup (a.1.map kV))) bs kvs->aM K W.F ((kvs.map fun a=>a.1.map wW).map .tuple) (bs.map .ref)
 |_,_,.nil=>rfl
 |_,_,.cons c d=>⟨_,_,rfl,⟨_,_,rfl,SqT.of c,KL _⟩,QO d⟩
theorem QJ{W:Wd}:∀{kvs:Ua (Ua Key×CD)}{us:Ua (Ua Key×V)},PKV K W kvs us->(us.map fun a=>a.1.map wW)=kvs.map fun a=>a.1.map wW
 |_,_,.nil=>rfl
 |_,_,.cons b c=>by rw[D4,D4,QJ c,b.1]
def aAW:PN K (aDK K) uO:=by
 intro xs M z M' h W H vs Q G r k;unfold uO at h;split at h
 .rename_i i;split at h
  .rename_i kvs m;obtain⟨ds,a,h⟩:=aI h;cases h;rcases r with _|⟨n,_|_⟩;obtain⟨us,o,p⟩:=G.dtAt m;refine⟨_,us,by rw[n.2],o,fun bs q=>?_⟩;obtain⟨v,j,G2,s⟩:=xF G q;have c:=QO (K:=K) s;rw[QJ p]at c;unfold fS at a;by_cases hs:sortable (kvs.map fun e=>e.1.map wW)=true
   .rw[A7 hs]at a;cases a;obtain⟨s1,s2,s3,t,u⟩:=yS hs;refine .inl ⟨_,aM.same G2.fh _ _ c,s1,s2,s3,t,u,fun l f=>?_⟩;obtain⟨d,g⟩:=G2.lay f;exact k _ _ _ (j.trans d) g ⟨l,_,rfl,SqL.of aT,aM.same d.ff _ _<|EU c _<|aIG 50⟩
   .rw[B7 hs]at a;by_cases b:(kvs.map fun e=>e.1.map wW).length<2
    .rw[A7 b]at a;cases a;refine .inr ⟨by rw[<- c.length,A4];exact b,fun l f=>?_⟩;obtain⟨d,g⟩:=G2.lay f;exact k _ _ _ (j.trans d) g ⟨l,_,rfl,SqL.of aT,aM.same d.ff _ _ c⟩
    .rw[B7 b]at a;cases a
  .cases h
 .cases h
def aHp{ι:Type}{X:ι->Cx}(a:∀i,(X i).K=K)(b:∀i,(X i).A.in1.in1.units+64<cLine)(c:∀i,(X i).calm=true):QN K X (.builtin "sorted") uO:=
 ⟨_,fun i=>by have:=KI (b i)<|c i;rw[a i]at this;exact this,aAW⟩
end
def cE.u1(r:cE k A):A.units+1<cLine:=by have:=r.un;omega
def cE.u0(r:cE k A):A.units<cLine:=by have:=r.un;omega
abbrev IPF:=Ga->Sto->Ub ((T8×(Sto->Prop))×Sto)
def Itz(K:Fg)(b c:Uf):It:=
 ⟨fun i H=>∃xs a x y,SqL K H b xs/\SqL K H c a/\xs[i]?=Z x/\a[i]?=Z y,
  fun i H v H'=>∃p x y,H p=Y/\v=.ref p/\H'=upd H p (.tup [x,y])/\(∀xs,SqL K H b xs->xs[i]?=Z x)/\∀a,SqL K H c a->a[i]?=Z y,
  fun i H=>∃xs a,SqL K H b xs/\SqL K H c a/\(xs[i]?=Y\/a[i]?=Y)⟩
def tnZ(z TI TO i1 i2 c d:Uf)(i:Nat)(h:Heap):Prop:=IsZip h z TI TO .none/\IsPair h TI (.ref i1) (.ref i2)/\(∃a b,IsPair h TO a b)/\h.IsListIter i1 c i/\h.IsListIter i2 d i
structure Apart5(z TI TO i1 i2:Uf):Prop where
 TIz:TI≠z
 TOz:TO≠z
 i1z:i1≠z
 i2z:i2≠z
 TITO:TI≠TO
 TIi1:TI≠i1
 TIi2:TI≠i2
 TOi1:TO≠i1
 TOi2:TO≠i2
 i12:i1≠i2
def HA(n:Nat):Apart5 (n+4) (n+2) (n+3) n (n+1):=by
 have key:∀a b:Nat,¬a=b->(a:Uf)≠b:=fun _ _ h=>h;exact⟨key _ _ 50,key _ _ 50,key _ _ 50,key _ _ 50,key _ _ 50,key _ _ 50,key _ _ 50,key _ _ 50,key _ _ 50,key _ _ 50⟩
section
variable{P:Uh}{w:World}{K:Fg}{elts:Tb}{x1:Nat}{tpos:Pos}{z TI TO i1 i2 l1 l2:Uf}
def IB(c:Apart5 z TI TO i1 i2)(st:tnZ z TI TO i1 i2 l1 l2 i h)(g:h.IsList l1 xs)(j:h.IsList l2 ys):ZipApart z TI TO i1 i2 l1 l2:=by
 obtain⟨k,t,⟨a,b,f⟩,⟨v,m,x,y⟩,⟨B,p,C,D⟩⟩:=st
 have d:∀(l:Uf)(ws:Tl),h.IsList l ws->∀(b:Uf)(o:Obj),h.get? b=Z o->o.cls≠.type "list"->l≠b:=fun l ws u b o e n q=>by
  subst q;obtain⟨o',r,c',_⟩:=u;rw[e]at r;cases r;exact n c'
 have s:(Value.type "zip")≠.type "list":=53
 have nt:(Value.type "tuple")≠.type "list":=53
 have E:(Value.type "list_iterator")≠.type "list":=53
 exact⟨c.TIz,c.TOz,c.i1z,c.i2z,c.TITO,c.TIi1,c.TIi2,c.TOi1,c.TOi2,c.i12,
  d l1 xs g z _ k s,d l1 xs g TO _ f nt,d l1 xs g i1 _ m 54,d l1 xs g i2 _ p 54,
  d l2 ys j z _ k s,d l2 ys j TO _ f nt,d l2 ys j i1 _ m 54,d l2 ys j i2 _ p 54⟩
def aDo(A5:Apart5 z TI TO i1 i2):Turn P w K (.Tuple elts x1 tpos) (Itz K l1 l2) [z,TI,TO,i1,i2] z (tnZ z TI TO i1 i2 l1 l2) where
 mem:=53
 obj:=fun i h st b hb=>by
  obtain⟨hz,hTI,⟨a,c,hTO⟩,⟨o1,e1,_,d1⟩,⟨o2,e2,_,d2⟩⟩:=st;simp only[B8,L9,A0r]at hb;rcases hb with rfl|rfl|rfl|rfl|rfl
  .exact⟨_,hz,fun v q=>by cases q⟩
  .exact⟨_,hTI,fun v q=>by cases q⟩
  .exact⟨_,hTO,fun v q=>by cases q⟩
  .exact⟨_,e1,fun v q=>by rw[d1]at q;cases q⟩
  .exact⟨_,e2,fun v q=>by rw[d2]at q;cases q⟩
 keep:=fun i h h' st k=>by
  obtain⟨hz,hTI,⟨a,c,hTO⟩,h1,h2⟩:=st;exact⟨k z 53 _ hz,k TI 53 _ hTI,⟨a,c,k TO 53 _ hTO⟩,h1.at fun o e=>k i1 53 o e,h2.at fun o e=>k i2 53 o e⟩
 item:=by
  intro X hP hw hK hc i pins s σ H E I hf st hg;subst hP hw hK;obtain⟨xs,ys,x,y,hq1,hq2,hx,hy⟩:=hg;obtain⟨its,rv,p,_⟩:=I.list hq1;obtain⟨jts,rw',p',_⟩:=I.list hq2;obtain⟨u,hu,ru⟩:=rv.get hx;obtain⟨v,hv,rv'⟩:=rw'.get hy;have D:=IB A5 st p.isList p'.isList;obtain⟨hz,hTI,⟨a,c,hTO⟩,h1,h2⟩:=id st;refine wpAny_pyNext_zip_item D hz hTI hTO h1 h2 p.isList p'.isList (by simp;omega) (by simp;omega) fun h' a1 a2 a3 a4 a5 a6 hk=>⟨_,rfl,?_⟩;refine wpAny_letOwnedTupleGo_zip a1 fun h2' hz2 sb=>?_
  have lt:∀b∈[z,TI,TO,i1,i2],s.heap.objs.size≠b:=fun b hb q=>by
   obtain⟨o1,e1,_⟩:=id h1;obtain⟨o2,e2,_⟩:=id h2;simp only[B8,L9,A0r]at hb
   have:∃o,s.heap.get? b=Z o:=by
    rcases hb with rfl|rfl|rfl|rfl|rfl
    .exact⟨_,hz⟩
    .exact⟨_,hTI⟩
    .exact⟨_,hTO⟩
    .exact⟨_,e1⟩
    .exact⟨_,e2⟩
   obtain⟨o,e⟩:=this;rw[<- q]at e;exact absurd (B6 e)<|Y2 _
  have kk:∀b o,b∉[z,TI,TO,i1,i2]->s.heap.get? b=Z o->h2'.get? b=Z o:=fun b o hb q=>by
   simp only[B8,L9,A0r,not_or]at hb;exact(sb.2 b hb.1).trans (hk b o hb.1 hb.2.2.1 hb.2.2.2.1 hb.2.2.2.2 q)
  have ht2:=(sb.2 _<|lt z 53).trans a5
  have I2:Inv X pins σ (upd H s.heap.objs.size (.tup [x,y])) { s with heap:=h2',toks:=s.toks }:=
   I.turnLay hf kk (A8 _) ⟨by show 2<=sizeLine;rw[J9];decide,[u,v],.cons ru (.cons rv' .nil),⟨_,ht2,rfl,_,rfl⟩⟩
  refine⟨.ref s.heap.objs.size,_,I2,rfl,⟨_,x,y,I.hok.fresh<|A8 _,rfl,rfl,fun ws hw=>by rw[I.list_inj hw hq1];exact hx,fun ws hw=>by rw[I.list_inj hw hq2];exact hy⟩,⟨hz2,?_,⟨_,_,(sb.2 TO A5.TOz).trans a2⟩,a3.at fun o e=>(sb.2 i1 A5.i1z).trans e,a4.at fun o e=>(sb.2 i2 A5.i2z).trans e⟩,fun b hb=>?_⟩
  .exact(sb.2 TI A5.TIz).trans (hk TI _ A5.TIz A5.TITO A5.TIi1 A5.TIi2 hTI)
  .rw[aL fun q=>lt b hb q.symm];exact(hf b hb).1
 done:=by
  intro X hP hw hK hc i pins s σ H E I hf st hg;subst hP hw hK;obtain⟨xs,ys,hq1,hq2,hend⟩:=hg;obtain⟨its,rv,p,_⟩:=I.list hq1;obtain⟨jts,rw',p',_⟩:=I.list hq2;have D:=IB A5 st p.isList p'.isList;obtain⟨hz,hTI,⟨a,c,hTO⟩,h1,h2⟩:=id st;have l1':=rv.length;have l2':=rw'.length;refine wpAny_pyNext_zip_end (I.ok.hd hc) D hz hTI hTO h1 h2 p.isList p'.isList ?_ fun h' hk=>⟨rfl,I.turnF hf fun b o hb q=>?_⟩
  .rcases hend with e|e
   .refine .inl ?_;have:=U0.mp e;exact A0t 54
   .refine .inr ?_;have:=U0.mp e;exact A0t 54
  .simp only[B8,L9,A0r,not_or]at hb;exact hk b o hb.1 hb.2.2.1 hb.2.2.2.1 hb.2.2.2.2 q
 self:=fun A i s Q E st h=>wpAny_pyIter_zip st.1 h
end
section
variable{X:Cx}{elts:Tb}{x1:Nat}{tpos:Pos}
def boot_zip:bootBuiltins "zip"=Z (.type "zip"):=by decide +kernel
end
noncomputable def nE:T5->T5->T8
 |x::xs,y::a=>.d (.tuple [x,y])::nE xs a
 |_,_=>[]
theorem BZ:∀{xs ys:T5}{i:Nat}{x:CD},(nE xs ys)[i]?=Z x->∃a b,xs[i]?=Z a/\ys[i]?=Z b/\x=.d (.tuple [a,b])
 |[],_,i,x=>fun h=>by unfold nE at h;cases i<;>cases h
 |_::_,[],i,x=>fun h=>by unfold nE at h;cases i<;>cases h
 |a::xs,b::ys,0,x=>fun h=>⟨a,b,rfl,rfl,by unfold nE at h;exact(F0 h).symm⟩
 |a::xs,b::ys,i+1,x=>fun h=>by
  obtain⟨c,d,e,f,g⟩:=BZ (xs:=xs) (ys:=ys) (i:=i) (by unfold nE at h;exact h);exact⟨c,d,e,f,g⟩
theorem QA:∀{xs ys:T5},xs[(nE xs ys).length]?=Y\/ys[(nE xs ys).length]?=Y
 |[],_=>.inl rfl
 |_::_,[]=>.inr rfl
 |a::xs,b::ys=>by
  show(a::xs)[(nE xs ys).length+1]?=Y\/(b::ys)[(nE xs ys).length+1]?=Y;exact QA (xs:=xs) (ys:=ys)
end L2
namespace PySem
open Sem (wp)
namespace F
end F
end PySem
namespace L2
open PySem PySem.Spec PyProof.Rows
def cE.le{ι:Type}{j:Nat}(r:cE k A q)(h:j<=k:=by decide):ι->cE j A q:=fun _=>r.mono h
section
variable{K:Fg}
def aEQ(neg:Bool):F2:=fun x y M=>match y with
 |.d .none=>Z (.d (.bool (if neg then !yW x else yW x)),M)
 |_=>Y
def aGu{W:Wd}(r:bW K W x v):decide (v=.non)=yW x:=by
 cases x with
 |c n=>rw[r.2];rfl
 |t n=>obtain⟨a,vs,rfl,_⟩:=r;rfl
 |f n=>obtain⟨a,o,us,rfl,_⟩:=r;rfl
 |g n=>cases r;rfl
 |d x=>
  cases x with
  |list xs=>obtain⟨a,vs,rfl,_⟩:=r;rfl
  |tuple xs=>obtain⟨a,vs,rfl,_⟩:=r;rfl
  |dict xs=>obtain⟨a,vs,rfl,_⟩:=r;rfl
  |_=>cases r;rfl
def aHj:P2 K (fun x y H Q=>y=.non/\Q (.bl (!decide (x=.non))) H) (aEQ true):=by
 intro x y M z M' h W H v u Q G a b k;unfold aEQ at h;split at h
 .cases h;exact⟨b,by rw[aGu a];exact k _ W H (.refl _) G rfl⟩
 .cases h
def aLk{ι:Type}{X:ι->Cx}:Q2 K X (compareOp .IsNot) (aEQ true):=⟨_,fun _=>aFS,aHj⟩
end
section
variable{K:Fg}
def aFf(k:Nat)(γ:Ga)(M:Sto):Ub (Ga×Sto):=match γ[k]? with
 |some (some (.c i))=>match M[i]? with
  |some (.lst xs)=>(jL xs).bind fun ds=>Z (γ.set k<|Z (.d (.list ds)),M.set i .dead)
  |_=>Y
 |_=>Y
def aDj(k:Nat)(f:SF):SF:=fun b M=>(f b M).bind fun r=>match r.1 with
 |.nx a=>(aFf k a r.2).bind fun q=>Z (.nx q.1,q.2)
 |o=>Z (o,r.2)
theorem uX{a b:Type}{R:a->b->Prop}:∀{xs:Ua a}{ys:Ua b}{k:Nat}{x:a}{y:b},Paired R xs ys->ys[k]?=Z y->R x y->Paired R (xs.set k x) ys
 |_,_,0,x,y,.cons r t=>fun e h=>by cases e;exact .cons h t
 |_,_,k+1,x,y,.cons r t=>fun e h=>.cons r (uX t 54 h)
 |_,_,0,x,y,.nil=>fun e h=>by cases e
 |_,_,k+1,x,y,.nil=>fun e h=>by cases e
def aLF{t:TS}{f:SF}{k:Nat}(a:SS K t f):SS K t (aDj k f):=by
 intro F M o M' b W H r D G R c;obtain⟨⟨s,M1⟩,u,b⟩:=aI b;refine a _ _ _ _ u W H r D G R fun g h j l=>?_;cases s with
 |nx e=>
  obtain⟨⟨w,M2⟩,d,b⟩:=aI b;cases b;unfold aFf at d;split at d
  .rename_i i hi;split at d
   .rename_i xs z;obtain⟨ds,A,d⟩:=aI d;cases d;intro m n;obtain⟨B,p,G2,_,C⟩:=l.freezeL z A;obtain⟨y,E,q⟩:=Paired.get n hi;refine c B h (j.trans p) G2 m ?_;cases y with
    |none=>exact False.elim q
    |some v=>
     refine uX (n.up p) E ?_;rw[show v=.ref (g.α i)from q.2];exact C
   .cases d
  .cases d
 |bk e=>cases b;exact c g h j l
 |ct e=>cases b;exact c g h j l
 |rt x=>cases b;exact c g h j l
def Itk(a:Uf)(o:Obj)(kvs:Ua (Ua Key×V)):It:=
 ⟨fun i H=>H a=Z (.frz o (.dT kvs))/\i<kvs.length,fun i H x H'=>H'=H/\∃c b,kvs[i]?=Z c/\x=.ref b/\H b=Z (.tup (c.1.map kV)),fun i H=>H a=Z (.frz o (.dT kvs))/\kvs.length<=i⟩
def aIx(c:TE):TI:=fun d H R=>c d H fun x b=>∃a o kvs,x=.ref a/\b a=Z (.frz o (.dT kvs))/\R (Itk a o kvs) b
def WR(I:Inv X pins n H s)(e:H a=Z (.frz o (.dT kvs)))(hd:o.data=.dict es ep):
 Raw s.heap a es ep/\es.size=kvs.length/\∀(i:Nat) f,es[i]?=Z f->∃g b,kvs[i]?=Z g/\f.key=.ref b/\H b=Z (.tup (g.1.map kV)):=by
 obtain⟨h,z,hs,xs,r,od,p,q,j,v,k,l,w⟩:=(I.hok a _ e);rw[h]at j;cases j;rw[hd]at k;cases k;have t:es.toList.length=kvs.length:=by rw[l,A4];exact(Paired.len r).symm
 refine⟨⟨o,h,hd⟩,by rw[<- E8];exact t,fun i f d=>?_⟩;rw[<- E7,l,D6]at d;cases c:xs[i]? with
 |none=>rw[c]at d;cases d
 |some x=>
  rw[c]at d;cases d;have hi:i<kvs.length:=54
  obtain⟨y,m,A,u,B⟩:=Paired.get r<|C0 hi;rw[c]at m;cases m;exact⟨_,_,C0 hi,rfl,u⟩
def YG{P:Uh}(a it:Uf)(o:Obj)(kvs:Ua (Ua Key×V))(es:Array DictEntry)(ep:Nat)(hd:o.data=.dict es ep):Turn P w K tg (Itk a o kvs) [it] it (fun i h=>h.IsKeyIter it a i es.size ep) where
 mem:=53
 obj:=fun i h st b hb=>by
  have e:b=it:=54
  subst e;obtain⟨o,e,c,d⟩:=st;exact⟨o,e,fun v z=>by rw[d]at z;cases z⟩
 keep:=fun i h h' st k=>st.at fun o e=>k it 53 o e
 item:=by
  intro X hP hw hK hc i pins s σ H E I hf st hg;subst hP hw hK;obtain⟨f0,f1,f2,f3,f4,f5⟩:=hf it 53;obtain⟨raw,hl,hk⟩:=WR I hg.1 hd;refine tD (I.ok.hd hc) st raw (fun en he h' st' sb=>?_) fun he=>?_
  .have I1:=I.turned (t':=s.toks) (fun b o hb e=>(sb.2 b hb).trans e) f0 f1 f3 f4 f5;obtain⟨kv,b,q1,q2,q3⟩:=hk i en he;obtain⟨o,e,c,d⟩:=id st';rw[q2];exact⟨_,rfl,UX e c d 52 ⟨.ref b,H,I1,rfl,⟨rfl,kv,b,q1,rfl,q3⟩,st',fun b hb=>(hf b hb).1⟩⟩
  .have:=A2k.mp he;have:=hg.2;omega
 done:=by
  intro X hP hw hK hc i pins s σ H E I hf st hg;subst hP hw hK;obtain⟨f0,f1,f2,f3,f4,f5⟩:=hf it 53;obtain⟨raw,hl,hk⟩:=WR I hg.1 hd;refine tD (I.ok.hd hc) st raw (fun en he=>?_) fun he h' eb=>⟨rfl,I.turned (fun b o hb e=>eb b o hb e) f0 f1 f3 f4 f5⟩;have:=(E9.mp he).1;have:=hg.2;omega
 self:=fun _ _ _ _ _ st h=>wpAny_pyIter_keyiter st h
def aFl(j:PE X l f):PI X tg l (aIx f):=by
 intro pins s k H R I h;refine thn (j pins s k H _ I h) fun v s1 m=>?_;obtain⟨x,n,c,p,a,o,kvs,e,ha,q⟩:=m;subst e;cases p;obtain⟨d,z,hs,xs,r,od,es,ep,g,t,i,w,y⟩:=(c.hok a _ ha);rw[d]at g;cases g;refine HF hs ⟨o,d,t.1⟩ ⟨o,d,i⟩ ?_
 have fp:∀b∈[s1.heap.objs.size],lD X pins n b:=fun b u=>by
  have e:=A6.mp u;subst e;exact c.fpOk (A8 _)<|c.hok.fresh<|A8 _
 exact⟨s1.heap.objs.size,[s1.heap.objs.size],_,_,_,rfl,c.kept fun b o e=>A2 _ e,YG a _ o kvs es ep i,⟨_,C2 _ rfl,rfl,rfl⟩,fp,q⟩
def aGr(ks:Ua Key):CD:=.t (ks.map fun k=>.inl (wW k))
def VF(f:EF):AF:=fun a M=>(f a M).bind fun r=>match r.1 with
 |.f kvs=>Z (kvs.map fun b=>aGr b.1,r.2)
 |_=>Y
theorem OW{W:Wd}:∀ks:Ua Key,Paired (RF K W) (ks.map fun k=>.inl (wW k)) (ks.map kV)
 |[]=>.nil
 |k::ks=>.cons (by cases k<;>rfl) (OW ks)
def aHl(a:SE K j f):SI K (aIx j) (VF f):=by
 intro J M xs M' d W H s R G Rs k;obtain⟨⟨y,M1⟩,t,d⟩:=aI d;revert d;dsimp only;split
 .rename_i kvs;intro d;cases d;refine a _ _ _ _ t W H s _ G Rs fun v u w z l A=>?_;obtain⟨p,o,us,rfl,m,h⟩:=A;refine⟨p,o,us,rfl,l.fh _ _ m,k _ u w z l fun L M2 N B G2=>?_⟩;have n:=G2.fh _ _<|B.ff _ _ m;refine⟨fun i x g=>⟨⟨n,?_⟩,fun y O C=>?_⟩,n,by rw[A4,Paired.len h];exact A8 _⟩
  .have:=(B3.mp g).1;rw[A4,Paired.len h]at this;exact this
  .obtain⟨rfl,P,b,D,rfl,E⟩:=C;obtain⟨F,I⟩:=G2.adopt E;refine⟨_,F,I,?_⟩;rw[D6]at g;cases c:kvs[i]? with
   |none=>rw[c]at g;cases g
   |some Q=>
    rw[c]at g;cases g;obtain⟨q,r,e,_⟩:=Paired.get h c;rw[D]at r;cases r;exact⟨b,_,rfl,aT,e▸OW _⟩
 .intro d;cases d
def aIu(t:TS):TS:=fun D d H=>t { D with nx:=fun b c=>∃a kvs,c a=Z (.dT kvs)/\∀o,D.nx b (upd c a (.frz o (.dT kvs))) } d H
def aGF{st:Stmt}(h:PS X st t):PS X st (aIu t):=by
 intro pins s j H D I q;refine thn (h pins s j H _ I q) fun f s1 z=>?_;cases f with
 |next=>
  obtain⟨c,g,i,a,kvs,ha,q⟩:=z;obtain⟨z,hs,xs,r,od,es,ep,d,k,l,m,n⟩:=(i.hok a _ ha)
  have up:∀b xs,g b=Z (.tup xs)->upd g a (.frz od (.dT kvs)) b=Z (.tup xs):=fun b xs e=>by
   rw[aL (fun z=>by rw[z,ha]at e;cases e)];exact e
  exact⟨c,_,sP (ob:=.frz od (.dT kvs)) i (by rw[ha];exact True.intro) (A1u _ _) ⟨od,d⟩ ⟨d,z,hs,xs,KT.keeps r up,od,es,ep,d,k,l,m,n⟩,q od⟩
 |brk=>exact z
 |cont=>exact z
 |ret v=>exact z
def VC(k:Nat)(γ:Ga)(M:Sto):Ub (Ga×Sto):=match γ[k]? with
 |some (some (.c i))=>match M[i]? with
  |some (.dt kvs)=>(tV kvs).bind fun ds=>Z (γ.set k<|Z (.f ds),M.set i .dead)
  |_=>Y
 |_=>Y
def QC(k:Nat)(f:SF):SF:=fun b M=>(f b M).bind fun r=>match r.1 with
 |.nx a=>(VC k a r.2).bind fun q=>Z (.nx q.1,q.2)
 |o=>Z (o,r.2)
def aFz(a:SS K t f):SS K (aIu t) (QC k f):=by
 intro I M o M' b W H u D G R c;obtain⟨⟨w,M1⟩,z,b⟩:=aI b;refine a _ _ _ _ z W H u _ G R fun h l j e=>?_;cases w with
 |nx g=>
  obtain⟨⟨A,M2⟩,d,b⟩:=aI b;cases b;unfold VC at d;split at d
  .rename_i i hi;split at d
   .rename_i kvs p;obtain⟨ds,B,d⟩:=aI d;cases d;intro m q;obtain⟨us,C,E⟩:=e.dtAt p;refine⟨_,us,C,fun o=>?_⟩;obtain⟨n,G2⟩:=e.freeze p 53;obtain⟨y,F,s⟩:=Paired.get q hi;refine c _ _ (j.trans n) G2 m ?_;cases y with
    |none=>exact False.elim s
    |some v=>
     refine uX (q.up n) F ?_;exact⟨h.α i,o,us,s.2,aT,Paired.mapP (yE B E) fun _ _ r=>⟨r.1,Rep.same n.ff _ _ r.2⟩⟩
   .cases d
  .cases d
 |bk g=>cases b;exact c h l j e
 |ct g=>cases b;exact c h l j e
 |rt x=>cases b;exact c h l j e
end
section
variable{ι:Type}{K:Fg}{X:ι->Cx}{e a:Ug}{es:Tb}{f:EF}{fa:AF}{sf:SF}{st:Stmt}{pos:Pos}
def aJK(k:Nat)(x:MS K X st sf):MS K X st (aDj k sf):=by
 obtain⟨t,b,c⟩:=x.ex;exact⟨_,b,aLF c⟩
def aGt(k:Nat)(x:MS K X st sf):MS K X st (QC k sf):=by
 obtain⟨t,b,c⟩:=x.ex;exact⟨_,fun i=>aGF<|b i,aFz c⟩
def aGv(x:ME K X a f):MI K X tg a (VF f):=by
 obtain⟨t,b,c⟩:=x.ex;exact⟨_,fun i=>aFl<|b i,aHl c⟩
end
section
variable{ι:Type}{K:Fg}{X:ι->Cx}{N':Te}{cap:T4}{scope:Scope}{tg iter elt:Ug}{ifs:Tb}{f fi:EF}{gf:GF}{ft:TF}{pos:Pos}
def xY(a:∀i,(X i).K=K):Q2 K X (binaryOp .Add) FQ:=⟨_,fun i=>(by have:=op_catS (X:=X i);rw[a i]at this;exact this),aHt⟩
end
end L2
namespace HT
open PySem  PySem.Spec PyProof.Rows
theorem fm_congr{a b:Type}{f g:a->Ub b}:∀{l:Ua a},(∀x∈l,f x=g x)->l.filterMap f=l.filterMap g
 |[]=>51
 |x::l=>fun h=>by
  rw[Y1,Y1,h x B9,fm_congr fun y c=>h y<|A9 _ c]
def rev_pick{b:Type}(xs:Ua b):(List.range xs.length).filterMap (fun m=>xs[xs.length-1-m]?)=xs.reverse:=by
 have e:∀m∈List.range xs.length,xs[xs.length-1-m]?=xs.reverse[m]?:=fun m hm=>by
  rw[List.getElem?_reverse (F5.mp hm)]
 rw[fm_congr e];refine A1m fun i=>?_;have l:xs.length=xs.reverse.length:=Y5.symm;rw[l];generalize xs.reverse=a
 have:(List.range a.length).filterMap (fun m=>a[m]?)=a:=by
  induction a with
  |nil=>rfl
  |cons y a ih=>
   rw[D3,List.range_succ_eq_map,Y1];show y::_=_;rw[A2j];congr 1
 rw[this]
section
variable{prog:Uh}{w:World}{A:Ui}{E:T2}{s:Ue}
def TZ(n:Nat):Builtin.Slice.slicePlaces ((n:Int)-1) (-1) (-1)=n:=by
 unfold Builtin.Slice.slicePlaces;by_cases h:(n:Int)-1 > -1
 .rw[A7 h,show(-(-1:Int))=1 from rfl,Int.ediv_one];omega
 .rw[B7 h];omega
def yN{n:Nat}{Q:Int×Int×Nat->Ue->Prop}(hs:s.heap.IsSliceOf sl .none .none vs)(ps:IsPart vs (Z (-1)))
 (h:Q ((n:Int)-1,-1,n) s):wpAny (model prog w) A (Builtin.Slice.sliceApplied (.ref sl)<|pure (n:Int)) Q E s:=by
 obtain⟨os,a,c,b⟩:=id hs;refine A0<|A0<|F8 a b rfl<|A0<|F8 a b rfl<|A0<|F8 a b rfl<|A3 ?_;refine A0<|vD ps ?_;refine A0<|slicePart_none<|A0<|slicePart_none<|A0<|A3 ?_;show wpAny _ _ (pure ((n:Int)-1,(-1:Int),Builtin.Slice.slicePlaces ((n:Int)-1) (-1) (-1))) _ _ s;rw[TZ];exact A3 h
def aAQ(xs:Tl):((List.range xs.size).filterMap fun(m:Nat)=>xs[((xs.size:Int)-1+(m:Int)*(-1)).toNat]?).toArray=xs.toList.reverse.toArray:=by
 have l:xs.size=xs.toList.length:=E8.symm;rw[<- rev_pick xs.toList,l];congr 1;refine fm_congr fun m hm=>?_;rw[show((xs.toList.length:Int)-1+(m:Int)*(-1)).toNat=xs.toList.length-1-m by omega,E7]
def getItem_tuple_rev{Q:T2}(ht:IsTup s.heap t items)(hs:s.heap.IsSliceOf sl .none .none vs)(ps:IsPart vs (Z (-1)))
 (h:Q (.ref s.heap.objs.size) { s with heap:=s.heap.push { cls:=.type "tuple",data:=.seq items.toList.reverse.toArray } })
 (b:items.size<=sizeLine):wpAny (model prog w) A (getItem (.ref t) (.ref sl)) Q E s:=by
 have a:sizeOk (.seq items.toList.reverse.toArray):=by
  show items.toList.reverse.toArray.size<=sizeLine;rw[F4,Y5,E8];exact b
 obtain⟨os,c,d,f⟩:=id hs;have e:s.TypeIs (.ref sl) "slice":=⟨os,c,d⟩;unfold getItem
 try with_reducible refine J8 ?_
 first|refine A0 (A3 ?_)|skip
 refine A0<|wpAny_sequenceKey ht.typeIs 52 ?_
 refine A0 (S8 ht.typeIs U9
  (S9 U9 ht.typeIs entry_tuple_getitem ?_ (args_tuple_getitem _ _)))
 show wpAny _ _ (Builtin.Tuple.tupleItemsOf (.ref t) >>= _) _ _ s;refine A0<|tupleItemsOf_ ht ?_;refine A0<|A1a e ?_;refine A0<|yN hs ps ?_;show wpAny _ _ (if (((items.size:Int)-1)==0&&(-1:Int)==1&&items.size==items.size)=true then _ else _) _ _ s;rw[B7 53,aAQ]
 first
  |exact A0<|E4 (A3 ⟨_,rfl,A3 h⟩) a
  |exact A0<|E4 (A0<|A3<|A3 ⟨_,rfl,A3 h⟩) a
  |exact A0<|A0<|E4 (A3<|A3 ⟨_,rfl,A3 h⟩) a
  |exact A0<|A0<|E4 (A3 ⟨_,rfl,A3 h⟩) a
end
end HT
namespace L2
open PySem PySem.Spec PyProof.Rows
theorem bE.rev:∀{xs:Tf}{us:T6},bE xs us->bE xs.reverse us.reverse
 |_,_,.nil=>.nil
 |_,_,.cons r t=>by
  rw[Z1,Z1];exact(bE.rev t).append (.cons r .nil)
def aLN(K:Fg):V->Hp->VK->Prop:=fun x H Q=>(∃a xs,x=.ref a/\SqL K H a xs/\∀p,H p=Y->Q (.ref p) (upd H p (.lst xs.reverse)))\/∃a xs,x=.ref a/\SqT K H a xs/\∀p,H p=Y->Q (.ref p) (upd H p (.tup xs.reverse))
def FP(a:T6):slicePick a.toArray Y Y (Z (-1))=a.reverse.toArray:=by
 have b:sliceBounds Y Y (Z (-1)) a.toArray.size=((a.length:Int)-1,-1,-1):=by
  rfl
 unfold slicePick;rw[b];congr 1;rw[<- HT.rev_pick a];unfold sliceRange;dsimp only;rw[B7 52]
 have c:(if (a.length:Int)-1 > -1 then((a.length:Int)-1 - -1 - -1-1) / -(-1)else 0).toNat=a.length:=by
  by_cases h:(a.length:Int)-1 > -1
  .rw[A7 h,show(-(-1:Int))=1 from rfl,Int.ediv_one];omega
  .rw[B7 h];omega
 rw[c,A2j];refine HT.fm_congr fun m hm=>?_;show a.toArray[((a.length:Int)-1+-1*(m:Int)).toNat]?=_;rw[show((a.length:Int)-1+-1*(m:Int)).toNat=a.length-1-m by omega,A0x]
section
variable{X:Cx}{e st:Ug}{te:TE}{th:TO}{pos p2:Pos}
def aFE(I:Inv X pins i H s)(j:RelV x v)(hs:s.heap.IsSliceOf sl .none .none vs)(ps:IsPart vs (Z (-1)))(h:aLN X.K x H Q):
 ∃T id,typeLookup (.type T) "__getitem__"=pure (Z (.builtin id))/\s.TypeIs v T/\wpAny (model X.prog X.w) X.A (getItem v (.ref sl)) (EP X pins i Q) X.xe s:=by
 rcases h with⟨a,xs,rfl,f,q⟩|⟨a,xs,rfl,f,q⟩
 .cases j;obtain⟨c,r,ht,g⟩:=I.list f;have d:=r.length;refine⟨"list",_,slot_list_getitem.lookup,ht.isList.typeIs,?_⟩;refine wpAny_getItem_list_slice ht.isList hs .none .none ps 52 ?_ 54;rw[FP];refine⟨.ref s.heap.objs.size,_,I.laid (fun b ob q=>A2 _ q) (A8 _) ?_,rfl,q _<|I.hok.fresh<|A8 _⟩;exact⟨by rw[Y5];exact g,_,0,r.rev,C2 _ rfl⟩
 .cases j;obtain⟨c,r,ht,g⟩:=I.tuple f;have d:c.toArray.size=xs.length:=by rw[F4];exact r.length.symm
  refine⟨"tuple",_,PyProof.Rows.slot_tuple_getitem.lookup,ht.typeIs,?_⟩;refine HT.getItem_tuple_rev ht hs ps ?_ 50;refine⟨.ref s.heap.objs.size,_,I.laid (fun b ob q=>A2 _ q) (A8 _) ?_,rfl,q _<|I.hok.fresh<|A8 _⟩;exact⟨by rw[Y5];exact g,_,r.rev,IsTup.new _ _⟩
def aOF(K:Fg)(te:TE)(th:TO):TE:=fun a H Q=>te a H fun x b=>th a b fun u c=>u=Z (-1)/\aLN K x c Q
def aJP(c:PE X e te)(d:PO X (Z st) th):PE X (.Subscript e (.Slice Y Y (Z st) p2) pos) (aOF X.K te th):=by
 intro pins s a H Q I h;refine Subscript_ (thn (c pins s a H _ I h) fun v s1 ⟨x,f,g,i,j⟩=>?_);refine wpAny_Slice ?_;refine A3<|A3 ?_;refine thn (d pins s1 a f _ g j) fun k s3 ⟨u,l,m,n,o⟩=>?_;obtain⟨rfl,q⟩:=o;have p:Inv X pins a l { s3 with heap:=s3.heap.push { cls:=.type "slice",data:=.fields #[.none,.none,k] } }:=m.kept fun b ob q=>A2 _ q;obtain⟨T,id,hT,ht,r⟩:=aFE p i (Heap.IsSliceOf.new ..) n q;exact tail_any ht hT r rfl
end
def aKy:CD->Sto->Ub (CD×Sto)
 |.d (.list ds),M=>Z (.d (.list ds.reverse),M)
 |.d (.tuple ds),M=>Z (.d (.tuple ds.reverse),M)
 |_,_=>Y
def NA(f:EF)(u:OF):EF:=fun a M=>(f a M).bind fun r=>(u a r.2).bind fun q=>if q.1=Z (-1)then aKy r.1 q.2 else Y
section
variable{K:Fg}
theorem aM.rev:∀{ds:T5}{vs:Tf},aM K H ds vs->aM K H ds.reverse vs.reverse
 |[],vs=>fun h=>by rw[show vs=[]from h];rfl
 |d::ds,vs=>fun h=>by
  obtain⟨v,r,rfl,a,b⟩:=h;rw[Z1,Z1];exact aM.app (aM.rev b) ⟨v,[],rfl,a,rfl⟩
def YR{z:CD}{M':Sto}(h:aKy x M=Z (z,M')){W:Wd}{Q:VK}(G:Good K W M H)(e:bW K W x v)(k:∀w W' H',W.Ext W'->Good K W' M' H'->bW K W' z w->Q w H'):aLN K v H Q:=by
 unfold aKy at h;split at h
 .rename_i ds;cases h;obtain⟨p,us,rfl,b,c⟩:=e;refine .inl ⟨p,us,rfl,G.fh.seq b,fun l d=>?_⟩;obtain⟨a,G2⟩:=G.lay d;exact k _ _ _ a G2 ⟨l,_,rfl,SqL.of aT,aM.same a.ff _ _ c.rev⟩
 .rename_i ds;cases h;obtain⟨p,us,rfl,b,c⟩:=e;refine .inr ⟨p,us,rfl,G.fh.seqT b,fun l d=>?_⟩;obtain⟨a,G2⟩:=G.lay d;exact k _ _ _ a G2 ⟨l,_,rfl,SqT.of aT,aM.same a.ff _ _ c.rev⟩
 .cases h
def aLt{e:TE}{f:EF}{g:TO}{u:OF}(a:SE K e f)(c:SO K g u):SE K (aOF K e g) (NA f u):=by
 intro D M x M' b W H h Q G R k;obtain⟨⟨y,M1⟩,l,b⟩:=aI b;obtain⟨⟨q,E⟩,m,b⟩:=aI b;refine a _ _ _ _ l W H h _ G R fun v n o i p r=>?_;refine c _ _ _ _ m n o h _ p (R.up i) fun F I j s=>?_;by_cases d:q=Z (-1)
 .rw[A7 d]at b;exact⟨d,YR b s (r.up j) fun w t z A B C=>k w t z ((i.trans j).trans A) B C⟩
 .rw[B7 d]at b;cases b
end
section
variable{ι:Type}{K:Fg}{X:ι->Cx}{a st:Ug}{f:EF}{u:OF}{pos p2:Pos}
def aBA(b:∀i,(X i).K=K)(x:ME K X a f)(z:MO K X (Z st) u):ME K X (.Subscript a (.Slice Y Y (Z st) p2) pos) (NA f u):=by
 obtain⟨t,c,d⟩:=x.ex;obtain⟨h,e,g⟩:=z.ex;exact⟨_,fun i=>by have:=aJP (p2:=p2) (pos:=pos) (c i)<|e i;rw[b i]at this;exact this,aLt d g⟩
end
theorem EK:∀{ds:T5}{ns:Ta},qZ ds=Z ns->ds=ns.map .int
 |[],_=>fun h=>by cases h;rfl
 |d::ds,ns=>fun h=>by
  cases d with
  |int n=>
   obtain⟨ms,a,b⟩:=A1k.mp h;cases b;rw[EK a];rfl
  |_=>cases h
theorem qX{K:Fg}:∀{ns:Ta}{us:Tf},aM K H (ns.map .int) us->us=ns.map .int
 |[],_=>fun h=>h
 |n::ns,_=>fun h=>by
  obtain⟨v,r,rfl,a,b⟩:=h;rw[qX b,show v=V.int n from a];rfl
def Rsg(xs:Tn):Prop:=∀i k:Nat,i<k->k<xs.size->xs.getD i 0<xs.getD k 0
structure Cut(xs:Tn)(j r:Nat):Prop where
 le:r<=xs.size
 lo:∀i,i<r->xs.getD i 0<j
 hi:∀i,r<=i->i<xs.size->j<=xs.getD i 0
def aBX{xs:Tn}{i:Nat}(h:i<xs.size):xs.getD i a=xs.getD i b:=54
theorem EV{j:Nat}(R:Rsg xs):∀(fuel lo hi:Nat),hi<=lo+fuel->lo<=hi->hi<=xs.size->(∀i,i<lo->xs.getD i 0<j)->(∀i,hi<=i->i<xs.size->j<=xs.getD i 0)->Cut xs j (SetTable.below.go xs j fuel lo hi)
 |0=>fun lo hi f g a b d=>by
  have:lo=hi:=50
  subst this;exact⟨a,b,d⟩
 |fuel+1=>fun lo hi f g a b d=>by
  unfold SetTable.below.go;by_cases h:lo<hi
  .rw[A7 h];dsimp only;have k:(lo+hi) / 2<hi:=50
   have mg:lo<=(lo+hi) / 2:=50
   generalize (lo+hi) / 2=m at k mg;rw[aBX 50];by_cases c:xs.getD m 0<j
   .rw[A7 c];refine EV R fuel (m+1) hi 50 50 a (fun i l=>?_) d;by_cases e:i=m
    .rw[e];exact c
    .have:=R i m 50 50;omega
   .rw[B7 c];refine EV R fuel lo m 50 mg 50 b (fun i o n=>?_);by_cases e:i=m
    .rw[e];omega
    .have:=R m i 50 n;omega
  .rw[B7 h];have:lo=hi:=50
   subst this;exact⟨a,b,d⟩
def nJ(j:Nat)(R:Rsg xs):Cut xs j (SetTable.below xs j):=
 EV R xs.size 0 xs.size 50 (F9 _) (A8 _) (fun i h=>absurd h<|A0g _) fun i h h'=>50
def BU{xs:Tn}{p:Nat}(h:p<=xs.size):(SetTable.insertAt xs p x).size=xs.size+1:=by
 unfold SetTable.insertAt;simp;omega
def aCn{xs:Tn}{p:Nat}(h:p<=xs.size):(SetTable.insertAt xs p x).getD i 0=if i<p then xs.getD i 0 else if i=p then x else xs.getD (i-1) 0:=by
 unfold SetTable.insertAt;rw[D0,Array.getElem?_append];have sz:((xs.extract 0 p).push x).size=p+1:=54
 rw[sz];by_cases a:i<p
 .rw[A7 50,A7 a,Array.getElem?_push,B7 54,Array.getElem?_extract,D0];simp;rw[A7 50]
 .rw[B7 a];by_cases b:i=p
  .rw[A7 50,A7 b,Array.getElem?_push,A7 54];rfl
  .rw[B7 50,B7 b,Array.getElem?_extract,D0];by_cases c:i-1<xs.size
   .rw[A7 50,show p+(i-(p+1))=i-1 by omega]
   .rw[B7 50,A0t 50]
def aEG(R:Rsg xs)(f:SetTable.has xs j=false):Rsg (SetTable.insertAt xs (SetTable.below xs j) j):=by
 have c:=nJ j R
 have f:∀i,i<xs.size->i=SetTable.below xs j->xs.getD i 0≠j:=fun i hi e q=>by
  unfold SetTable.has at f;rw[<- e,A0f hi]at f;rw[D0,A0f hi]at q;have q:xs[i]=j:=q;rw[q]at f;simp at f
 generalize SetTable.below xs j=p at c f;have cl:=c.le;intro i k m o;rw[BU c.le]at o;rw[aCn c.le,aCn c.le]
 have n:∀i,p<=i->i<xs.size->j<xs.getD i 0:=fun i h g=>by
  have a:=c.hi i h g;by_cases e:i=p
  .have:=f i g e;omega
  .have b:=c.hi p (A8 _) 50;have d:=R p i 50 g;omega
 by_cases h:i<p
 .rw[A7 h];have:=c.lo i h;by_cases g:k<p
  .rw[A7 g];exact R i k m 50
  .rw[B7 g];by_cases l:k=p
   .rw[A7 l];exact this
   .rw[B7 l];have:=n (k-1) 50 50;omega
 .rw[B7 h,B7 (by omega:¬k<p),B7 (by omega:¬k=p)];by_cases l:i=p
  .rw[A7 l];exact n (k-1) 50 50
  .rw[B7 l];exact R (i-1) (k-1) 50 50
def aBI{l:Ua (Nat×Nat)}(h:(l.map (·.1)).Pairwise (·<·)):Rsg (l.map (·.1)).toArray:=by
 intro i k a b;rw[F4]at b;have:=List.pairwise_iff_getElem.mp h i k 50 b a;rw[D0,D0,A0x,A0x,C0 50,C0 b];exact this
theorem XG{f:Nat->Tj}:∀(l:Tg),l.Pairwise (·<·)->((l.filterMap fun j=>(f j).map (j,·)).map (·.1)).Pairwise (·<·)
 |[]=>fun _=>List.Pairwise.nil
 |a::l=>fun h=>by
  obtain⟨d,g⟩:=List.pairwise_cons.mp h;have ih:=XG (f:=f) l g;rw[Y1];cases e:f a with
  |none=>exact ih
  |some b=>
   refine List.pairwise_cons.mpr ⟨fun x i=>?_,ih⟩;obtain⟨y,c,rfl⟩:=C7.mp i;obtain⟨j,k,c⟩:=A0a.mp c;obtain⟨z,_,rfl⟩:=Option.map_eq_some_iff.mp c;exact d j k
noncomputable abbrev t7(b:Bool)(p:Tn):SetTable:=⟨7,p,#[],0,b,0,true⟩
noncomputable abbrev t31(b:Bool)(p:Tn):SetTable:=⟨31,p,#[],0,b,1,true⟩
def aHC(h:SetTable.has xs j=true):∃i:Nat,xs[i]?=Z j:=by
 unfold SetTable.has at h;exact⟨_,by simpa using h⟩
def vI:Uc->Int
 |.int i _=>i
 |_=>0
structure Tp(b:Bool)(t:SetTable)(es:Array (Int×Uc)):Prop where
 bd:∀e∈es.toList,0<=e.1/\e.1<9
 vl:∀e∈es.toList,vI e.2=e.1
 nd:(es.toList.map (·.1)).Nodup
 fm:∃p,Rsg p/\((t=t7 b p/\(∀i,i<p.size->p.getD i 0<=7)/\p.size<=4/\p.size=es.size)\/(t=t31 b p/\p.toList=es.toList.map fun e=>e.1.toNat))
def vV{a:Type}{xs:Array a}{p:Nat}{x:a}:(SetTable.insertAt xs p x).toList=xs.toList.take p++x::xs.toList.drop p:=by
 unfold SetTable.insertAt;simp;rw[List.take_of_length_le 53]
structure aPd(prog:Uh)(w:World)(b:Bool)(h:Heap)(a:Uf)(es:Array (Int×Uc))(σ:Ta):Prop where
 ob:∃o ep t,h.get? a=Z o/\o.ExactSet/\o.data=.set es ep t/\t.fits es.size=true/\Tp b t es
 el:ElemsOf (intKind prog w) es.toList
 sm:es.size<scanBound
 pm:(es.toList.map fun e=>vI e.2).Perm σ
section
variable{prog:Uh}{w:World}{A:Ui}{E:T2}{s:Ue}
def TM{h:Heap}{a:Uf}{o:Obj}(b:h.get? a=Z o)(hd:o.data=.set es ep t):(h.update a<|Obj.putSet es' t').get? a=Z { o with data:=.set es' (ep+1) t' }:=by
 have:=U8 (Obj.putSet es' t') b (by rw[putSet_of es' t' hd];rfl);rw[putSet_of es' t' hd]at this;exact this
def stored{h:Heap}{a:Uf}{o:Obj}{es':Array (Int×Uc)}{t':SetTable}(g:h.get? a=Z o)(c:o.ExactSet)(hd:o.data=.set es ep t)(el:ElemsOf (intKind prog w) es'.toList)(sm:es'.size<scanBound)(i:t'.fits es'.size=true)(T:Tp b t' es')(pm:(es'.toList.map fun e=>vI e.2).Perm d):
 (h.update a<|Obj.putSet es' t').get? a=Z { o with data:=.set es' (ep+1) t' }/\aPd prog w b (h.update a<|Obj.putSet es' t') a es' d:=by
 have f:=TM (es':=es') (t':=t') g hd;exact⟨f,⟨_,_,_,f,c,rfl,i,T⟩,el,sm,pm⟩
end
section
variable{prog:Uh}{w:World}{A:Ui}{E:T2}{s:Ue}
end
noncomputable def qA(ns:Ta):Ta:=ns.foldl step_dedup []
def vE(ns:Ta):firstMet (fun i=>ns.getD i 0) ns.length=qA ns:=by
 unfold firstMet qA;congr 1;refine A1m fun i=>?_;rw[D6];by_cases h:i<ns.length
 .rw[A2a h,C0 h];simp[h]
 .rw[Y8 54,Y8 50];rfl
section
variable{X:Cx}{a:Ug}{ta:TA}{p p' pos pos':Pos}
def aHw(ns:Ta):(qA ns).length<=ns.length:=by
 rw[<- vE];exact firstMet_length_le _ _
end
end L2
namespace PySem
section
variable{prog:Uh}{w:World}{A:Ui}{E:T2}{s:Ue}
structure KU(z TO i1 i2 l:Uf):Prop where
 z:l≠z
 o:l≠TO
 a:l≠i1
 b:l≠i2
section
variable{z TI TO i1 i2 l1 l2:Uf}{k n1 n2:Nat}{P1 P2:Nat->Uc->Prop}{S1 S2:Nat->Heap->Prop}{a b:Uc}
def aHS{Q:T2}(D:L2.Apart5 z TI TO i1 i2)(f1:KU z TO i1 i2 l1)(f2:KU z TO i1 i2 l2)(B:Draws prog w A i1 [i1,l1] n1 P1 S1)(C:Draws prog w A i2 [i2,l2] n2 P2 S2)
 (d:IsZip s.heap z TI TO .none) (U:IsPair s.heap TI (.ref i1) (.ref i2)) (V:IsPair s.heap TO a b) (t1:S1 k s.heap) (t2:S2 k s.heap) (W:k<n1) (X:k<n2)
 (hQ:∀h' tk x y,P1 k x->P2 k y->IsZip h' z TI TO (rawInt s.heap.objs.size)->IsPair h' TO x y->S1 (k+1) h'->S2 (k+1) h'->IsPair h' s.heap.objs.size x y->
  (∀c o,c≠z->c≠TO->c≠i1->c≠i2->s.heap.get? c=Z o->h'.get? c=Z o)->Q (.ref s.heap.objs.size) { s with heap:=h',toks:=tk }):
 wpAny (model prog w) A (Builtin.«zip.__next__» ⟨[.ref z],[]⟩) (fun r s'=>∃v,r=.done (.ret v)/\Q v s') E s:=by
 have p:∀{h h':Heap}{c:Uf}{j:Nat},Heap.SameBut c h h'->i1≠c->l1≠c->S1 j h->S1 j h':=fun F q r st=>B.frame _ _ _ st fun b hb o e=>F.extBut b o (by
  rcases B8.mp hb with rfl|hb
  .exact q
  .rw[A6.mp hb];exact r) e
 have t:∀{h h':Heap}{c:Uf}{j:Nat},Heap.SameBut c h h'->i2≠c->l2≠c->S2 j h->S2 j h':=fun F q r st=>C.frame _ _ _ st fun b hb o e=>F.extBut b o (by
  rcases B8.mp hb with rfl|hb
  .exact q
  .rw[A6.mp hb];exact r) e
 refine(?_:wpAny _ _ (field (.ref z) 2 >>= fun v=>_) _ _ _);refine A0<|F8 d rfl rfl (?_:wpAny _ _ (field (.ref z) 3 >>= fun v=>_) _ _ _);refine A0<|F8 d rfl rfl<|A0<|Z5 U rfl (?_:wpAny _ _ (Builtin.SmallTypes.ownedTupleIsFree (.ref z) >>= fun v=>_) _ _ _);refine A0<|A0<|F8 d rfl rfl<|A3 ?_;refine A0<|A2e<|A0<|F8 d rfl rfl<|A0 (O9 d 53 fun g1 z1 f=>A0 ?_);refine A0<|A0<|wpAny_onRaise (?_:wpAny _ _ (Builtin.SmallTypes.nextOf (.ref i1) >>= fun v=>_) _ _ _);refine A0 (B.item k { s with heap:=g1 } _ _ W (p f D.i1z f1.z t1) fun x g2 G p1 u1 g=>A3 ?_);have I:=g.extBut _ _ D.TOi1<|f.extBut _ _ D.TOz V;refine A0<|Z5 I rfl<|A0 (wpAny_updateSeq_pair I fun g3 O3 i=>A0<|wpAny_letGo<|A3 ?_);refine A0<|A0<|wpAny_onRaise (?_:wpAny _ _ (Builtin.SmallTypes.nextOf (.ref i2) >>= fun v=>_) _ _ _);refine A0 (C.item k { s with heap:=g3,toks:=G } _ _ X (t i D.TOi2.symm f2.o<|t g D.i12.symm f2.a<|t f D.i2z f2.z t2) fun y g4 H p2 u2 l=>A3 ?_);have J:=l.extBut _ _ D.TOi2 O3;refine A0<|Z5 J rfl<|A0 (wpAny_updateSeq_pair J fun m u n=>A0<|wpAny_letGo<|A3<|A3 ?_);have u:IsPair m TO x y:=u;have sz:m.objs.size=s.heap.objs.size:=by rw[n.1,l.1,i.1,g.1,f.1]
 have K:=n.extBut _ _ D.TOz.symm<|l.extBut _ _ D.i2z.symm<|i.extBut _ _ D.TOz.symm<|g.extBut _ _ D.i1z.symm z1;have s1:=p n D.TOi1.symm f1.o<|p l D.i12 f1.b<|p i D.TOi1.symm f1.o u1;have s2:=t n D.TOi2.symm f2.o u2;have L:=B6 K;refine A0<|Z5 u rfl<|A0<|wpAny_newTuple (?_:wpAny _ _ (Builtin.SmallTypes.ownedTupleHandOut (.ref z) (.ref m.objs.size) >>= fun v=>_) _ _ _);have z6:IsZip (m.push { cls:=.type "tuple",data:=.seq #[x,y] }) z TI TO .ellipsis:=A2 _ K;refine A0<|A0 (O9 z6 53 fun g7 z7 M=>O9 z7 53 fun N O P=>A3 ⟨_,rfl,?_⟩);have up:∀c o,c≠z->m.get? c=Z o->N.get? c=Z o:=fun c o q e=>P.extBut _ _ q<|M.extBut _ _ q<|A2 _ e;have R:=P.extBut _ _ (O7 L)<|M.extBut _ _ (O7 L)<|C2 _ rfl;rw[sz]at R O;rw[sz];refine hQ N H x y p1 p2 O (up _ _ D.TOz u) (B.frame _ _ _ s1 fun c hc o e=>up c o ?_ e) (C.frame _ _ _ s2 fun c hc o e=>up c o ?_ e) R fun c o S T c3 c4 e=>up c o S<|n.extBut _ _ T<|l.extBut _ _ c4<|i.extBut _ _ T<|g.extBut _ _ c3<|f.extBut _ _ S e
 .rcases B8.mp hc with rfl|hc
  .exact D.i1z
  .rw[A6.mp hc];exact f1.z
 .rcases B8.mp hc with rfl|hc
  .exact D.i2z
  .rw[A6.mp hc];exact f2.z
def aKi(D:L2.Apart5 z TI TO i1 i2)(f1:KU z TO i1 i2 l1)(f2:KU z TO i1 i2 l2)(y:Draws prog w A i1 [i1,l1] n1 P1 S1)(I:Draws prog w A i2 [i2,l2] n2 P2 S2)
 (f:IsZip s.heap z TI TO .none) (T:IsPair s.heap TI (.ref i1) (.ref i2)) (U:IsPair s.heap TO a b) (t1:S1 k s.heap) (t2:S2 k s.heap) (ke:k=n1\/(k<n1/\k=n2))
 (J:∀h' tk e,(∀c o,c≠z->c≠TO->c≠i1->c≠i2->s.heap.get? c=Z o->h'.get? c=Z o)->(∃o,h'.get? e=Z o/\o.cls=.type "StopIteration")->E (.ref e) { s with heap:=h',toks:=tk }):
 wpAny (model prog w) A (Builtin.«zip.__next__» ⟨[.ref z],[]⟩) Q E s:=by
 have K:∀{h h':Heap}{c:Uf}{j:Nat},Heap.SameBut c h h'->i1≠c->l1≠c->S1 j h->S1 j h':=fun B q r st=>y.frame _ _ _ st fun b hb o e=>B.extBut b o (by
  rcases B8.mp hb with rfl|hb
  .exact q
  .rw[A6.mp hb];exact r) e
 have C:∀{h h':Heap}{c:Uf}{j:Nat},Heap.SameBut c h h'->i2≠c->l2≠c->S2 j h->S2 j h':=fun B q r st=>I.frame _ _ _ st fun b hb o e=>B.extBut b o (by
  rcases B8.mp hb with rfl|hb
  .exact q
  .rw[A6.mp hb];exact r) e
 have p:∀{g:Heap}{v:Uc}{e:Uf}{o:Obj},IsZip g z TI TO v->g.get? e=Z o->o.cls=.type "StopIteration"->e≠z:=fun f d i q=>by
  subst q;rw[f]at d;cases d;simp at i
 refine(?_:wpAny _ _ (field (.ref z) 2 >>= fun v=>_) _ _ _);refine A0<|F8 f rfl rfl (?_:wpAny _ _ (field (.ref z) 3 >>= fun v=>_) _ _ _);refine A0<|F8 f rfl rfl<|A0<|Z5 T rfl (?_:wpAny _ _ (Builtin.SmallTypes.ownedTupleIsFree (.ref z) >>= fun v=>_) _ _ _);refine A0<|A0<|F8 f rfl rfl<|A3 ?_;refine A0<|A2e<|A0<|F8 f rfl rfl<|A0 (O9 f 53 fun L M m=>A0 ?_);refine A0<|A0<|wpAny_onRaise (?_:wpAny _ _ (Builtin.SmallTypes.nextOf (.ref i1) >>= fun v=>_) _ _ _);rcases ke with rfl|⟨V,rfl⟩
 .refine A0 (y.done { s with heap:=L } _ _ (K m D.i1z f1.z t1) fun W e l ⟨F,d,i⟩=>?_);have N:=l _ _ D.i1z.symm M;exact O9 N 53 fun G _ n=>J G s.toks e (fun c o t _ H _ q=>n.extBut _ _ t<|l _ _ H<|m.extBut _ _ t q) ⟨F,n.extBut _ _ (p N d i) d,i⟩
 .refine A0 (y.item k { s with heap:=L } _ _ V (K m D.i1z f1.z t1) fun x W u p1 u1 l=>A3 ?_);have O:=l.extBut _ _ D.TOi1<|m.extBut _ _ D.TOz U;refine A0<|Z5 O rfl<|A0 (wpAny_updateSeq_pair O fun G O3 n=>A0<|wpAny_letGo<|A3 ?_);refine A0<|A0<|wpAny_onRaise (?_:wpAny _ _ (Builtin.SmallTypes.nextOf (.ref i2) >>= fun v=>_) _ _ _);refine A0 (I.done { s with heap:=G,toks:=u } _ _ (C n D.TOi2.symm f2.o<|C l D.i12.symm f2.a<|C m D.i2z f2.z t2) fun g4 e P ⟨F,d,i⟩=>?_);have R:=P _ _ D.i2z.symm<|n.extBut _ _ D.TOz.symm<|l.extBut _ _ D.i1z.symm M;exact O9 R 53 fun X _ S=>J X u e (fun c o t c2 H c4 q=>S.extBut _ _ t<|P _ _ c4<|n.extBut _ _ c2<|l.extBut _ _ H<|m.extBut _ _ t q) ⟨F,S.extBut _ _ (p R d i) d,i⟩
end
def AL{h:Heap}{o:Obj}{n:Nat}(e:h.objs.size=n)(f:o.isFreed=false:=by rfl):(h.push o).get? n=Z o:=by subst e;exact C2 _ f
def aJX:Meets (Builtin.«zip.__new__» ⟨[.type "zip",.ref a,.ref b],[]⟩) (fun _ R s=>s.heap.IsTuple a xs/\s.heap.IsTuple b ys /\
 ∀h',(∀c o,s.heap.get? c=Z o->h'.get? c=Z o)->h'.get? s.heap.objs.size=Z { cls:=.type "tuple_iterator",data:=.fields #[.ref a,.int 0 0] }->h'.get? (s.heap.objs.size+1)=Z { cls:=.type "tuple_iterator",data:=.fields #[.ref b,.int 0 0] }->
  IsPair h' (s.heap.objs.size+2) (.ref s.heap.objs.size) (.ref (s.heap.objs.size+1))->IsPair h' (s.heap.objs.size+3) .none .none->IsZip h' (s.heap.objs.size+4) (s.heap.objs.size+2) (s.heap.objs.size+3) .none->R (.ok (.ret (.ref (s.heap.objs.size+4)))) { s with heap:=h' }):=
 .of_wp fun prog w A R s h=>by
  obtain⟨f,g,d,tk,os⟩:=s;obtain⟨i,j,h⟩:=h;have sub:=sub_zip;have k:=i;have L2:Heap.IsTuple (Shared.heap ⟨f.push { cls:=.type "tuple_iterator",data:=.fields #[.ref a,.int 0 0] },g,d,tk,os⟩) b ys:=Heap.IsTuple.at j fun o e=>A2 _ e
  wp_walk using A0k k,A0k L2
  refine⟨_,rfl,?_⟩;simp only[Y7]at h ⊢;refine h _ (fun c o e=>?_) ?_ ?_ ?_ ?_ ?_
  .exact A2 _<|A2 _<|A2 _<|A2 _<|A2 _ e
  .exact A2 _<|A2 _<|A2 _<|A2 _<|C2 _ rfl
  .exact A2 _<|A2 _<|A2 _<|AL<|Y7 ..
  .exact A2 _<|A2 _<|AL 53
  .exact A2 _<|AL 53
  .exact AL (by simp only[Y7])
end
end PySem
namespace L2
variable{K:Fg}{pos:Pos}
open PySem PySem.Spec PyProof.Rows
def aNX(K:Fg)(b c:Uf):It:=
 ⟨fun i H=>∃xs a x y,SqT K H b xs/\SqT K H c a/\xs[i]?=Z x/\a[i]?=Z y,
  fun i H v H'=>∃p x y,H p=Y/\v=.ref p/\H'=upd H p (.tup [x,y])/\(∀xs,SqT K H b xs->xs[i]?=Z x)/\∀a,SqT K H c a->a[i]?=Z y,
  fun i H=>∃xs a,SqT K H b xs/\SqT K H c a/\((i=xs.length)\/(i<xs.length/\i=a.length))⟩
def aPn(z TI TO i1 i2 c d:Uf)(i:Nat)(h:Heap):Prop:=IsZip h z TI TO .none/\IsPair h TI (.ref i1) (.ref i2)/\(∃a b,IsPair h TO a b)/\h.IsTupleIter i1 c i/\h.IsTupleIter i2 d i
section
variable{prog:Uh}{w:World}{A:Ui}{E:T2}{s:Ue}
variable{z TI TO i1 i2 l1 l2:Uf}{k n1 n2:Nat}{P1 P2:Nat->Uc->Prop}{S1 S2:Nat->Heap->Prop}{a b:Uc}
def aFv{Q:Ti->Ue->Prop}(D:Apart5 z TI TO i1 i2)(f1:KU z TO i1 i2 l1)(f2:KU z TO i1 i2 l2)(e:Draws prog w A.in1 i1 [i1,l1] n1 P1 S1)(f:Draws prog w A.in1 i2 [i2,l2] n2 P2 S2)
 (d:IsZip s.heap z TI TO .none) (g:IsPair s.heap TI (.ref i1) (.ref i2)) (h:IsPair s.heap TO a b) (t1:S1 k s.heap) (t2:S2 k s.heap) (i:k<n1) (j:k<n2)
 (l:∀h' tk x y,P1 k x->P2 k y->IsZip h' z TI TO (rawInt s.heap.objs.size)->IsPair h' TO x y->S1 (k+1) h'->S2 (k+1) h'->IsPair h' s.heap.objs.size x y->
  (∀c o,c≠z->c≠TO->c≠i1->c≠i2->s.heap.get? c=Z o->h'.get? c=Z o)->Q (Z (.ref s.heap.objs.size)) { s with heap:=h',toks:=tk }):
 wpAny (model prog w) A (pyNext (.ref z)) Q E s:=by
 have ty:s.TypeIs (.ref z) "zip":=⟨_,d,rfl⟩;exact A0<|A2h<|S8 ty A1q<|S9 A1q ty F.entry_zip_next (aHS D f1 f2 e f d g h t1 t2 i j fun h' tk x y m n p q r t u v=>A3<|l h' tk x y m n p q r t u v)<|F.args_zip_next_1 _
def aEV{Q:Ti->Ue->Prop}(D:Apart5 z TI TO i1 i2)(f1:KU z TO i1 i2 l1)(f2:KU z TO i1 i2 l2)(f:Draws prog w A.in1 i1 [i1,l1] n1 P1 S1)(g:Draws prog w A.in1 i2 [i2,l2] n2 P2 S2)
 (d:IsZip s.heap z TI TO .none) (h:IsPair s.heap TI (.ref i1) (.ref i2)) (i:IsPair s.heap TO a b) (t1:S1 k s.heap) (t2:S2 k s.heap) (ke:k=n1\/(k<n1/\k=n2))
 (j:∀h' tk,(∀c o,c≠z->c≠TO->c≠i1->c≠i2->s.heap.get? c=Z o->h'.get? c=Z o)->Q Y { s with heap:=h',toks:=tk }):wpAny (model prog w) A (pyNext (.ref z)) Q E s:=by
 have ty:s.TypeIs (.ref z) "zip":=⟨_,d,rfl⟩;exact A0<|A2h<|S8 ty A1q<|S9 A1q ty F.entry_zip_next (aKi D f1 f2 f g d h i t1 t2 ke fun h' tk e l m=>A0 (let⟨o,n,p⟩:=m;A0w ⟨o,n,p⟩ isSubtype_stop<|A3<|j h' tk l))<|F.args_zip_next_1 _
end
section
variable{P:Uh}{w:World}{K:Fg}{elts:Tb}{x1:Nat}{tpos:Pos}{z TI TO i1 i2 l1 l2:Uf}
def LY{h:Heap}(T:h.IsTuple l xs)(d:IsZip h z TI TO .none)(f:h.IsTupleIter i1 l1 i)(g:h.IsTupleIter i2 l2 j)(k:l≠TO):KU z TO i1 i2 l:=by
 obtain⟨o,e,c,_⟩:=T;obtain⟨s,m,t,_⟩:=f;obtain⟨v,p,x,_⟩:=g
 have a:∀(b:Uf)(u:Obj),h.get? b=Z u->u.cls≠.type "tuple"->l≠b:=fun b u q n r=>by
  subst r;rw[e]at q;cases q;exact n c
 have y:(Value.type "tuple_iterator")≠.type "tuple":=53
 exact⟨a z _ d 53,k,a i1 _ m 54,a i2 _ p 54⟩
def YL(A5:Apart5 z TI TO i1 i2)(n1:l1≠TO)(n2:l2≠TO):Turn P w K (.Tuple elts x1 tpos) (aNX K l1 l2) [z,TI,TO,i1,i2] z (aPn z TI TO i1 i2 l1 l2) where
 mem:=53
 obj:=fun i h st b hb=>by
  obtain⟨hz,hTI,⟨a,c,hTO⟩,⟨o1,e1,_,d1⟩,⟨o2,e2,_,d2⟩⟩:=st;simp only[B8,L9,A0r]at hb;rcases hb with rfl|rfl|rfl|rfl|rfl
  .exact⟨_,hz,fun v q=>by cases q⟩
  .exact⟨_,hTI,fun v q=>by cases q⟩
  .exact⟨_,hTO,fun v q=>by cases q⟩
  .exact⟨_,e1,fun v q=>by rw[d1]at q;cases q⟩
  .exact⟨_,e2,fun v q=>by rw[d2]at q;cases q⟩
 keep:=fun i h h' st k=>by
  obtain⟨hz,hTI,⟨a,c,hTO⟩,h1,h2⟩:=st;exact⟨k z 53 _ hz,k TI 53 _ hTI,⟨a,c,k TO 53 _ hTO⟩,h1.at fun o e=>k i1 53 o e,h2.at fun o e=>k i2 53 o e⟩
 item:=by
  intro X hP hw hK hc i pins s σ H E I hf st hg;subst hP hw hK;obtain⟨xs,ys,x,y,hq1,hq2,hx,hy⟩:=hg;obtain⟨its,rv,p,_⟩:=I.tuple hq1;obtain⟨jts,rw',p',_⟩:=I.tuple hq2;obtain⟨u,hu,ru⟩:=rv.get hx;obtain⟨v,hv,rv'⟩:=rw'.get hy;obtain⟨hz,hTI,⟨a,c,hTO⟩,h1,h2⟩:=id st;have F1:=LY p hz h1 h2 n1;have F2:=LY p' hz h1 h2 n2;have hh:X.A.in1.handled=Y:=I.ok.hd hc;have li:=(B3.mp hu).1;have lj:=(B3.mp hv).1;refine aFv A5 F1 F2 (nP hh i1 l1 F1.a its.toArray) (nP hh i2 l2 F2.b jts.toArray) hz hTI hTO ⟨h1,p⟩ ⟨h2,p'⟩ 50 50 fun h' tk u' v' e1 e2 a1 a2 a3 a4 a5 hk=>⟨_,rfl,?_⟩
  have e1:u=u':=by
   have:its.toArray[i]?=Z u:=54
   rw[this]at e1;cases (e1);rfl
  have e2:v=v':=by
   have:jts.toArray[i]?=Z v:=54
   rw[this]at e2;cases (e2);rfl
  subst e1 e2;refine wpAny_letOwnedTupleGo_zip a1 fun h2' hz2 sb=>?_
  have lt:∀b∈[z,TI,TO,i1,i2],s.heap.objs.size≠b:=fun b hb q=>by
   obtain⟨o1,e1,_⟩:=id h1;obtain⟨o2,e2,_⟩:=id h2;simp only[B8,L9,A0r]at hb
   have:∃o,s.heap.get? b=Z o:=by
    rcases hb with rfl|rfl|rfl|rfl|rfl
    .exact⟨_,hz⟩
    .exact⟨_,hTI⟩
    .exact⟨_,hTO⟩
    .exact⟨_,e1⟩
    .exact⟨_,e2⟩
   obtain⟨o,e⟩:=this;rw[<- q]at e;exact absurd (B6 e)<|Y2 _
  have kk:∀b o,b∉[z,TI,TO,i1,i2]->s.heap.get? b=Z o->h2'.get? b=Z o:=fun b o hb q=>by
   simp only[B8,L9,A0r,not_or]at hb;exact(sb.2 b hb.1).trans (hk b o hb.1 hb.2.2.1 hb.2.2.2.1 hb.2.2.2.2 q)
  have ht2:=(sb.2 _<|lt z 53).trans a5
  have I2:Inv X pins σ (upd H s.heap.objs.size (.tup [x,y])) { s with heap:=h2',toks:=tk }:=
   I.turnLay hf kk (A8 _) ⟨by show 2<=sizeLine;rw[J9];decide,[u,v],.cons ru (.cons rv' .nil),⟨_,ht2,rfl,_,rfl⟩⟩
  refine⟨.ref s.heap.objs.size,_,I2,rfl,⟨_,x,y,I.hok.fresh<|A8 _,rfl,rfl,fun ws hw=>by rw[I.tuple_inj hw hq1];exact hx,fun ws hw=>by rw[I.tuple_inj hw hq2];exact hy⟩,⟨hz2,?_,⟨_,_,(sb.2 TO A5.TOz).trans a2⟩,a3.1.at fun o e=>(sb.2 i1 A5.i1z).trans e,a4.1.at fun o e=>(sb.2 i2 A5.i2z).trans e⟩,fun b hb=>?_⟩
  .exact(sb.2 TI A5.TIz).trans (hk TI _ A5.TIz A5.TITO A5.TIi1 A5.TIi2 hTI)
  .rw[aL fun q=>lt b hb q.symm];exact(hf b hb).1
 done:=by
  intro X hP hw hK hc i pins s σ H E I hf st hg;subst hP hw hK;obtain⟨xs,ys,hq1,hq2,hend⟩:=hg;obtain⟨its,rv,p,_⟩:=I.tuple hq1;obtain⟨jts,rw',p',_⟩:=I.tuple hq2;obtain⟨hz,hTI,⟨a,c,hTO⟩,h1,h2⟩:=id st;have l1':=rv.length;have l2':=rw'.length;have F1:=LY p hz h1 h2 n1;have F2:=LY p' hz h1 h2 n2;have hh:X.A.in1.handled=Y:=I.ok.hd hc;refine aEV A5 F1 F2 (nP hh i1 l1 F1.a its.toArray) (nP hh i2 l2 F2.b jts.toArray) hz hTI hTO ⟨h1,p⟩ ⟨h2,p'⟩ 54 fun h' tk hk=>⟨rfl,I.turnF hf fun b o hb q=>?_⟩;simp only[B8,L9,A0r,not_or]at hb;exact hk b o hb.1 hb.2.2.1 hb.2.2.2.1 hb.2.2.2.2 q
 self:=fun A i s Q E st h=>wpAny_pyIter_zip st.1 h
end
section
variable{X:Cx}{elts:Tb}{x1:Nat}{tpos:Pos}
def aIy(K:Fg)(e:TA):TI:=fun f H R=>e f H fun vs c=>∃a b xs d,vs=[.ref a,.ref b]/\((SqL K c a xs/\SqL K c b d/\R (Itz K a b) c)\/(SqT K c a xs/\SqT K c b d/\R (aNX K a b) c))
def aFC{a b:Ug}{D:TA}{p:Pos}(E:Gl X "zip")(hm:X.mg "zip"=Y)(ha:PA X [a,b] D)(hs:starEach [a,b] X.env=[(false,eval a X.env),(false,eval b X.env)])(t:starEach [b] X.env=[(false,eval b X.env)]):PI X (.Tuple elts x1 tpos) (.Call (.Name "zip" p) [a,b] [] pos) (aIy X.K D):=by
 intro pins s G H R I h;refine Call_<|iH I E hm boot_zip<|U6 (thn (ha pos pins s G H _ I h) fun us s1 ⟨vs,u,c,J,v⟩=>?_) 54 (by rw[t];rfl);obtain⟨l,L,xs,T,e,v⟩:=v;subst e;cases J with
 |cons r w=>
  cases w with
  |cons M w=>
   cases w;cases r;cases M
   have fp:∀b∈[s1.heap.objs.size+4,s1.heap.objs.size+2,s1.heap.objs.size+3,s1.heap.objs.size,s1.heap.objs.size+1],lD X pins u b:=fun b N=>by
    have k:s1.heap.objs.size<=b:=by
     simp only[B8,L9,A0r]at N;omega
    exact c.fpOk k<|c.hok.fresh k
   rcases v with⟨d,f,q⟩|⟨d,f,q⟩
   .obtain⟨x,O,m,_⟩:=c.list d;obtain⟨y,z,n,_⟩:=c.list f;refine call_zip_2 m.isList n.isList fun h' j g i A B P C=>?_;refine wpAny_pyIter_zip j ?_;exact⟨_,_,_,_,u,rfl,c.kept C,aDo<|HA _,⟨j,g,⟨_,_,i⟩,A,B⟩,fp,q⟩
   .obtain⟨x,O,m,_⟩:=c.tuple d;obtain⟨y,z,n,_⟩:=c.tuple f;have Q:l<s1.heap.objs.size:=by obtain⟨o,e,_⟩:=m;exact B6 e
    have S:L<s1.heap.objs.size:=by obtain⟨o,e,_⟩:=n;exact B6 e
    refine callType_new F.called_zip 52 (F.typeCall_zip_2 _ _) (F.newCall_zip_2 _ _) (fun obj=>F.args_object_init_3 obj _ _) F.entry_zip_new aJX ⟨m,n,fun h' C A B g i j=>⟨⟨_,j,rfl⟩,wpAny_pyIter_zip j ?_⟩⟩;exact⟨_,_,_,_,u,rfl,c.kept C,YL (HA _) (C3<|Nat.lt_add_right 3 Q)<|C3<|Nat.lt_add_right 3 S,⟨j,g,⟨_,_,i⟩,⟨_,A,rfl,rfl⟩,⟨_,B,rfl,rfl⟩⟩,fp,q⟩
end
def lW(f:AF):AF:=fun b M=>(f b M).bind fun r=>match r.1 with
 |[.d (.list xs),.d (.list a)]=>Z (nE xs a,r.2)
 |[.d (.tuple xs),.d (.tuple a)]=>Z (nE xs a,r.2)
 |_=>Y
theorem UT:∀(xs ys:T5),(nE xs ys).length=xs.length\/((nE xs ys).length<xs.length/\(nE xs ys).length=ys.length)
 |[],_=>.inl rfl
 |_::_,[]=>.inr ⟨Nat.succ_pos _,rfl⟩
 |x::xs,y::ys=>by
  have:=UT xs ys;simp only[nE,D3];omega
def aEO{P:TA}{fa:AF}(b:SA K P fa):SI K (aIy K P) (lW fa):=by
 intro γ M xs M' h W H V R G Rs k;obtain⟨⟨ys,M1⟩,X,h⟩:=aI h;refine b _ _ _ _ X W H V _ G Rs fun vs Q S T t U=>?_;revert h;dsimp only;split
 .rename_i as bs;intro h;cases h;cases U with
  |cons r B=>
   cases B with
   |cons C l=>
    cases l;obtain⟨p,us,rfl,hs,w⟩:=r;obtain⟨D,a,rfl,f,g⟩:=C;refine⟨p,D,us,a,rfl,.inl ⟨t.fh.seq hs,t.fh.seq f,k _ Q S T t fun W2 M2 H2 j G2=>?_⟩⟩;have m:=G2.fh.seq<|j.ff.seq hs;have n:=G2.fh.seq<|j.ff.seq f;refine⟨fun i x E=>?_,us,a,m,n,?_⟩
    .obtain⟨c,d,F,hd,rfl⟩:=BZ E;obtain⟨u,z,I⟩:=Paired.get (eV w) (by rw[D6,F];rfl);obtain⟨v,A,J⟩:=Paired.get (eV g) (by rw[D6,hd];rfl);refine⟨⟨us,a,u,v,m,n,z,A⟩,fun y H3 L=>?_⟩;obtain⟨N,x',y',hn,rfl,rfl,o,q⟩:=L;have:=o us m;rw[z]at this;cases this;have:=q a n;rw[A]at this;cases this;obtain⟨s,O⟩:=G2.lay hn;refine⟨_,s,O,⟨N,_,rfl,SqT.of aT,?_⟩⟩;exact⟨_,_,rfl,Rep.same s.ff _ _<|I.up j,_,_,rfl,Rep.same s.ff _ _<|J.up j,rfl⟩
    .rcases QA with e|e
     .exact .inl (by have:=U0.mp e;rw[w.length]at this;exact U0.mpr this)
     .exact .inr (by have:=U0.mp e;rw[g.length]at this;exact U0.mpr this)
 .rename_i as bs;intro h;cases h;cases U with
  |cons r B=>
   cases B with
   |cons C l=>
    cases l;obtain⟨p,us,rfl,hs,w⟩:=r;obtain⟨D,a,rfl,f,g⟩:=C;refine⟨p,D,us,a,rfl,.inr ⟨t.fh.seqT hs,t.fh.seqT f,k _ Q S T t fun W2 M2 H2 j G2=>?_⟩⟩;have m:=G2.fh.seqT<|j.ff.seqT hs;have n:=G2.fh.seqT<|j.ff.seqT f;refine⟨fun i x E=>?_,us,a,m,n,?_⟩
    .obtain⟨c,d,F,hd,rfl⟩:=BZ E;obtain⟨u,z,I⟩:=Paired.get (eV w) (by rw[D6,F];rfl);obtain⟨v,A,J⟩:=Paired.get (eV g) (by rw[D6,hd];rfl);refine⟨⟨us,a,u,v,m,n,z,A⟩,fun y H3 L=>?_⟩;obtain⟨N,x',y',hn,rfl,rfl,o,q⟩:=L;have:=o us m;rw[z]at this;cases this;have:=q a n;rw[A]at this;cases this;obtain⟨s,O⟩:=G2.lay hn;refine⟨_,s,O,⟨N,_,rfl,SqT.of aT,?_⟩⟩;exact⟨_,_,rfl,Rep.same s.ff _ _<|I.up j,_,_,rfl,Rep.same s.ff _ _<|J.up j,rfl⟩
    .have:=UT as bs;rw[<- w.length,<- g.length];exact this
 .intro h;cases h
def AS{ι:Type}{X:ι->Cx}{a b:Ug}{fa:AF}{p:Pos}(d:∀i,(X i).K=K)(hm:∀i,(X i).mg "zip"=Y)(x:MA K X [a,b] fa)(e:∀i,Gl (X i) "zip":=by intro _;rfl):MI K X (.Tuple elts x1 tpos) (.Call (.Name "zip" p) [a,b] [] pos) (lW fa):=by
 obtain⟨t,c,f⟩:=x.ex;exact⟨_,fun i=>by have:=aFC (elts:=elts) (x1:=x1) (tpos:=tpos) (p:=p) (pos:=pos) (e i) (hm i) (c i) (by rw[x.st.1,x.st.2.1];rfl) (by rw[x.st.2.1];rfl);rw[d i]at this;exact this,aEO f⟩
section
variable{K:Fg}
end
section
variable{K:Fg}
end
section
variable{K:Fg}
end
section
variable{K:Fg}
end
section
variable{K:Fg}
end
abbrev Pb:=SetTable.Probe
def adv(m:Nat)(p:Pb):Pb:=(⟨m,#[],#[],0,false,0,false⟩:SetTable).advance p
def fL(m:Nat):Nat->Pb->Pb
 |0,p=>p
 |n+1,p=>fL m n<|adv m p
def pY(m:Nat)(oc:Nat->Bool):Nat->Pb->Prop
 |0,p=>oc p.j=false
 |n+1,p=>oc p.j=true/\pY m oc n (adv m p)
inductive Rch(m:Nat)(oc:Nat->Bool)(g:Nat):Pb->Prop
 |here {p:Pb} (h:p.j=g):Rch m oc g p
 |step {p:Pb} (h:oc p.j=true) (r:Rch m oc g (adv m p)):Rch m oc g p
theorem Rch.mono{oc a:Nat->Bool}(h:∀j,oc j=true->a j=true):∀{p:Pb},Rch m oc g p->Rch m a g p
 |_,.here e=>.here e
 |_,.step e r=>.step (h _ e) (Rch.mono h r)
theorem NW:∀{n:Nat}{p:Pb},pY m oc n p->Rch m oc (fL m n p).j p
 |0,_=>fun _=>.here rfl
 |n+1,p=>fun h=>.step h.1 (NW h.2)
theorem QU{oc:Nat->Bool}:∀(n:Nat)(p:Pb),oc (fL m n p).j=false->∃k,k<=n/\pY m oc k p
 |0=>fun p h=>⟨0,A8 _,h⟩
 |n+1=>fun p h=>by
  cases e:oc p.j with
  |false=>exact⟨0,F9 _,e⟩
  |true=>
   obtain⟨k,a,r⟩:=QU n (adv m p) h;exact⟨k+1,50,e,r⟩
theorem HS:∀{n:Nat}{p:Pb},pY m oc n p->oc (fL m n p).j=false
 |0,_=>fun h=>h
 |n+1,p=>fun h=>HS (n:=n) h.2
theorem rP:∀(a b:Nat)(p:Pb),fL m (a+b) p=fL m b (fL m a p)
 |0=>fun b p=>by rw[Nat.zero_add];rfl
 |a+1=>fun b p=>by
  rw[Nat.succ_add];exact rP a b<|adv m p
def zX(m:Nat)(q:Nat×Nat):Pb:=⟨q.1,SetTable.runEnd m q.1-q.1,q.1,q.2,Y⟩
def lps(m:Nat):Nat->Nat×Nat->Nat×Nat
 |0,q=>q
 |n+1,q=>lps m n<|SetTable.leap m q.1 q.2
theorem aAN{i pt:Nat}:∀(k j:Nat),fL m k ⟨j,k,i,pt,Y⟩=⟨j+k,0,i,pt,Y⟩
 |0=>fun j=>rfl
 |k+1=>fun j=>by
  show fL m k (adv m ⟨j,k+1,i,pt,Y⟩)=_;rw[show adv m ⟨j,k+1,i,pt,Y⟩=⟨j+1,k,i,pt,Y⟩from rfl,aAN k (j+1),Nat.add_right_comm,Nat.add_assoc]
def aEr(q:Nat×Nat):fL m (SetTable.runEnd m q.1-q.1+1) (zX m q)=zX m (SetTable.leap m q.1 q.2):=by
 rw[rP];unfold zX;rw[aAN];rfl
def aLs:SetTable.runEnd m i-i<=9:=by
 unfold SetTable.runEnd;split<;>omega
theorem runs:∀(r:Nat)(q:Nat×Nat),∃n,n<=10*r/\fL m n (zX m q)=zX m (lps m r q)
 |0=>fun q=>⟨0,A8 _,rfl⟩
 |r+1=>fun q=>by
  obtain⟨n,hn,e⟩:=runs r<|SetTable.leap m q.1 q.2;have l:=aLs (m:=m) (i:=q.1);refine⟨SetTable.runEnd m q.1-q.1+1+n,50,?_⟩;rw[rP,aEr];exact e
theorem VL:∀(a b:Nat)(q:Nat×Nat),lps m (a+b) q=lps m b (lps m a q)
 |0=>fun b q=>by rw[Nat.zero_add];rfl
 |a+1=>fun b q=>by rw[Nat.succ_add];exact VL a b _
theorem aDu:∀(r:Nat)(q:Nat×Nat),(lps m r q).2=q.2 / 32 ^ r
 |0=>fun q=>by show q.2=_;rw[Nat.pow_zero,Nat.div_one]
 |r+1=>fun q=>by
  show(lps m r<|SetTable.leap m q.1 q.2).2=_;rw[aDu r];show q.2 / 32 / 32 ^ r=_;rw[Nat.div_div_eq_div_mul,Nat.pow_succ,Nat.mul_comm]
def aEt{m:Nat}(q:Nat×Nat)(h:q.1<=m):∀r,(lps m r q).1<=m:=fun r=>by
 induction r generalizing q with
 |zero=>exact h
 |succ r ih=>exact ih _ (by
  show(q.1*5+1+q.2 / 32) % (m+1)<=m;have:=Nat.mod_lt (q.1*5+1+q.2 / 32) (show 0<m+1 by omega);omega)
def orb(m n:Nat):Nat:=(5 ^ n-1) / 4 % (m+1)
def aPo(n:Nat):5 ^ n % 4=1:=by
 induction n with
 |zero=>rfl
 |succ n ih=>rw[Nat.pow_succ];omega
def DA(m n:Nat):(orb m n*5+1) % (m+1)=orb m (n+1):=by
 have e:(5 ^ (n+1)-1) / 4=(5 ^ n-1) / 4*5+1:=by
  have:=aPo n;rw[Nat.pow_succ];omega
 unfold orb;rw[e,Nat.add_mod,Nat.mul_mod,Nat.mod_mod,<- Nat.mul_mod,<- Nat.add_mod]
theorem JJ(m:Nat):∀(r a:Nat),(lps m r (orb m a,0))=(orb m (a+r),0)
 |0=>fun a=>rfl
 |r+1=>fun a=>by
  show lps m r (SetTable.leap m (orb m a) 0)=_
  rw[show SetTable.leap m (orb m a) 0=(orb m (a+1),0)by
   show((orb m a*5+1+0) % (m+1),0)=_;rw[Nat.add_zero,DA],JJ m r (a+1),show a+1+r=a+(r+1)by omega]
def oM(m:Nat):Bool:=decide (orb m (m+1)=0)&&(List.range (m+1)).all fun j=>(List.range (m+1)).any fun n=>orb m n==j
def aFe:oM 7=true:=by decide +kernel
def aDh:oM 31=true:=by decide +kernel
def YZ:oM 127=true:=by decide +kernel
def Mask(m:Nat):Prop:=m=7\/m=31\/m=127
def Mask.all(h:Mask m):oM m=true:=by
 rcases h with rfl|rfl|rfl
 .exact aFe
 .exact aDh
 .exact YZ
def aGG(h:oM m=true)(n:Nat):orb m (n+(m+1))=orb m n:=by
 unfold oM at h;rw[B4]at h;have z:=D7 h.1
 induction n with
 |zero=>rw[Nat.zero_add,z];unfold orb;simp
 |succ n ih=>rw[show n+1+(m+1)=n+(m+1)+1 by omega,<- DA,ih,DA]
def aCu(h:oM m=true){j:Nat}(a:j<=m):∃n,n<=m/\orb m n=j:=by
 unfold oM at h;rw[B4]at h;have q:=D5.mp h.2 j<|F5.mpr 50;obtain⟨n,hn,e⟩:=Y3.mp q;exact⟨n,by have:=F5.mp hn;omega,eq_of_beq e⟩
def aFs(h:oM m=true){i j:Nat}(hi:i<=m)(d:j<=m):∃r,r<=m/\lps m r (i,0)=(j,0):=by
 obtain⟨a,ha,rfl⟩:=aCu h hi;obtain⟨b,e,rfl⟩:=aCu h d;by_cases c:a<=b
 .exact⟨b-a,50,by rw[JJ,show a+(b-a)=b by omega]⟩
 .exact⟨b+(m+1)-a,50,by rw[JJ,show a+(b+(m+1)-a)=b+(m+1)by omega,aGG h]⟩
def aHE(h:Int):SetTable.bits h<2 ^ 64:=by
 unfold SetTable.bits;omega
def st0(m:Nat)(h:Int):Nat×Nat:=(SetTable.bits h % (m+1),SetTable.bits h)
def RS(m:Nat)(h:Int):(st0 m h).1<=m:=by
 have:=Nat.mod_lt (SetTable.bits h) (show 0<m+1 by omega);show SetTable.bits h % (m+1)<=m;omega
def GO(M:Mask m)(h:Int){j:Nat}(a:j<=m):∃r,r<=13+m/\(lps m r<|st0 m h).1=j:=by
 have e:lps m 13 (st0 m h)=((lps m 13<|st0 m h).1,0):=by
  refine Prod.ext rfl ?_;rw[aDu];have:=aHE h;exact Nat.div_eq_of_lt<|C5 this 52
 obtain⟨r,b,q⟩:=aFs M.all (aEt (st0 m h) (RS m h) 13) a;refine⟨13+r,50,?_⟩;rw[VL,e,q]
def aCv{oc:Nat->Bool}(M:Mask m)(h:Int){j:Nat}(a:j<=m)(f:oc j=false):∃n,n<10*SetTable.turns m/\pY m oc n (zX m<|st0 m h):=by
 obtain⟨r,b,e⟩:=GO M h a;obtain⟨n,hn,q⟩:=runs r<|st0 m h;obtain⟨k,c,z⟩:=QU n (zX m<|st0 m h) (by rw[q];show oc (lps m r<|st0 m h).1=false;rw[e];exact f);refine⟨k,?_,z⟩;unfold SetTable.turns;omega
def aBz{p:Pb}(h:p.dummy=Y):(adv m p).dummy=Y:=by
 unfold adv SetTable.advance;split
 .exact h
 .exact h
def aEZ{t:SetTable}(d:t.dummies=#[])(h:SetTable.has t.place j=false):t.slot j=.empty:=by
 unfold SetTable.slot;unfold SetTable.has at h;dsimp only;rw[h,B7 C6,d];rfl
def LH{t:SetTable}(h:SetTable.has t.place j=true):∃i,t.slot j=.live i/\t.place[i]?=Z j:=by
 unfold SetTable.has at h;refine⟨SetTable.below t.place j,?_,eq_of_beq h⟩;unfold SetTable.slot;dsimp only;rw[h,A7 rfl]
theorem FZ{t:SetTable}(d:t.dummies=#[]):∀(n:Nat)(p:Pb)(a:Nat),pY t.mask (SetTable.has t.place) n p->n<a->p.dummy=Y->
 (SetTable.probe.go t f h a p=Z (.empty (fL t.mask n p).j Y)/\∀k,k<n->∀i,t.slot (fL t.mask k p).j=.live i->f i≠h) \/
 ∃k i,k<n/\t.slot (fL t.mask k p).j=.live i/\t.place[i]?=Z (fL t.mask k p).j/\f i=h/\SetTable.probe.go t f h a p=Z (.candidate (fL t.mask k p).j i (fL t.mask (k+1) p))/\(∀m,m<k->∀b,t.slot (fL t.mask m p).j=.live b->f b≠h)
 |n,p,0=>fun _ l _=>50
 |0,p,a+1=>fun e _ dm=>by
  refine .inl ⟨?_,fun k s=>absurd s<|A0g _⟩;rw[SetTable.probe.go.eq_2,aEZ d e,dm];rfl
 |n+1,p,a+1=>fun e l dm=>by
  obtain⟨i,s1,s2⟩:=LH e.1;by_cases c:f i=h
  .refine .inr ⟨0,i,50,s1,s2,c,?_,fun m o=>absurd o<|A0g _⟩;rw[SetTable.probe.go.eq_2,s1];dsimp only;rw[A7 54];rfl
  .have go:SetTable.probe.go t f h (a+1) p=SetTable.probe.go t f h a (adv t.mask p):=by
    rw[SetTable.probe.go.eq_2,s1];dsimp only;rw[B7 54];rfl
   have u:∀b,t.slot p.j=.live b->f b≠h:=fun b q=>by
    rw[s1]at q;injection q with q
    rw[<- q];exact c
   rcases FZ d n (adv t.mask p) a e.2 50 (aBz dm)with⟨g,all⟩|⟨k,b,s,v,w,x,y,all⟩
   .refine .inl ⟨go.trans g,fun k s b q=>?_⟩;cases k with
    |zero=>exact u b q
    |succ k=>exact all k 50 b q
   .refine .inr ⟨k+1,b,50,v,w,x,go.trans y,fun m o r q=>?_⟩;cases m with
    |zero=>exact u r q
    |succ m=>exact all m 50 r q
theorem FY:∀(k n:Nat)(p:Pb),pY m oc n p->k<=n->pY m oc (n-k) (fL m k p)
 |0,n=>fun p h _=>h
 |k+1,0=>fun p _ l=>50
 |k+1,n+1=>fun p h l=>by
  rw[show n+1-(k+1)=n-k by omega];exact FY k n (adv m p) h.2 50
theorem aEe:∀(k:Nat){p:Pb},p.dummy=Y->(fL m k p).dummy=Y
 |0,_=>fun h=>h
 |k+1,_=>fun h=>aEe k<|aBz h
theorem aDv:∀{n:Nat}{p:Pb},pY m oc n p->oc g=true->Rch m oc g p->∃k,k<n/\(fL m k p).j=g
 |0,p,e,a,.here h=>by rw[<- h]at a;rw[show oc p.j=false from e]at a;cases a
 |0,p,e,a,.step h r=>by rw[show oc p.j=false from e]at h;cases h
 |n+1,p,e,a,.here h=>⟨0,50,h⟩
 |n+1,p,e,a,.step h r=>by
  obtain⟨k,b,q⟩:=aDv e.2 a r;exact⟨k+1,50,q⟩
def sO(R:Rsg xs):SetTable.has xs j=true↔j∈xs.toList:=by
 constructor
 .intro h;obtain⟨i,e⟩:=aHC h;rw[<- E7]at e;exact O6 e
 .intro h;obtain⟨i,e⟩:=A1p.mp h;rw[E7]at e;have hi:=(E9.mp e).1;have g:xs.getD i 0=j:=by rw[D0,e];rfl
  have c:=nJ j R
  have:SetTable.below xs j=i:=by
   by_cases d:i<SetTable.below xs j
   .have:=c.lo i d;omega
   .by_cases f:SetTable.below xs j<i
    .have a:=c.hi _ (A8 _) 50;have b:=R _ i f hi;omega
    .omega
  unfold SetTable.has;rw[this,e];exact U4 _
theorem IF(R:Rsg xs):∀n,(∀j,j<n->SetTable.has xs j=true)->n<=SetTable.below xs n
 |0=>fun _=>F9 _
 |n+1=>fun h=>by
  have ih:=IF R n fun j a=>h j 50;have q:=eq_of_beq (h n 50:(xs[SetTable.below xs n]?==Z n)=true);have lt:=(E9.mp q).1;have b:xs.getD (SetTable.below xs n) 0=n:=by rw[D0,q];rfl
  have c:=nJ (n+1) R;by_cases z:SetTable.below xs (n+1)<=SetTable.below xs n
  .have:=c.hi _ z lt;omega
  .omega
structure jO(t:SetTable)(hs:Ta):Prop where
 dm:t.dummies=#[]
 ms:Mask t.mask
 rs:Rsg t.place
 sz:t.place.size=hs.length
 le:∀j∈t.place.toList,j<=t.mask
 fl:hs.length*5<t.mask*3
 rc:∀q∈hs.zip t.place.toList,Rch t.mask (SetTable.has t.place) q.2<|t.probeStart q.1
def jO.room(T:jO t hs):∃j,j<=t.mask/\SetTable.has t.place j=false:=by
 by_cases h:∀j,j<t.mask+1->SetTable.has t.place j=true
 .have a:=IF T.rs _ h;have b:=(nJ (t.mask+1) T.rs).le;have c:=T.sz;have d:=T.fl;omega
 .obtain⟨j,f⟩:=Classical.not_forall.mp h;refine⟨j,50,?_⟩;cases e:SetTable.has t.place j with
  |false=>rfl
  |true=>exact absurd (fun _=>e) f
def jO.search(T:jO t hs)(h:Int):∃n,n<10*SetTable.turns t.mask/\pY t.mask (SetTable.has t.place) n (t.probeStart h):=by
 obtain⟨j,a,f⟩:=T.room;exact aCv T.ms h a f
def aJf{m:Nat}{p:Pb}(h:p.j+p.more<=m):(adv m p).j+(adv m p).more<=m:=by
 unfold adv SetTable.advance;by_cases c:p.more > 0
 .rw[A7 c];dsimp only;omega
 .rw[B7 c];dsimp only
  have l:(SetTable.leap m p.i p.perturb).1<=m:=by
   have:=Nat.mod_lt (p.i*5+1+p.perturb / 32) (show 0<m+1 by omega);show(p.i*5+1+p.perturb / 32) % (m+1)<=m;omega
  unfold SetTable.runEnd;split<;>omega
theorem aCy{m:Nat}:∀(n:Nat){p:Pb},p.j+p.more<=m->(fL m n p).j<=m
 |0,p=>fun h=>by show p.j<=m;omega
 |n+1,p=>fun h=>aCy n<|aJf h
def aGT{m:Nat}{q:Nat×Nat}(h:q.1<=m):(zX m q).j+(zX m q).more<=m:=by
 show q.1+(SetTable.runEnd m q.1-q.1)<=m;unfold SetTable.runEnd;split<;>omega
def aFW{a b:Type}{xs:Ua a}{ys:Ua b}{p:Nat}{x:a}{y:b}(h:xs.length=ys.length):∀q∈(xs.take p++x::xs.drop p).zip (ys.take p++y::ys.drop p),q=(x,y)\/q∈xs.zip ys:=fun q c=>by
 rw[List.zip_append 54]at c;rcases C9.mp c with z|z
 .refine .inr ?_;have:(xs.zip ys).take p=(xs.take p).zip (ys.take p):=by rw[A2d,A2d,List.take_zipWith]
  rw[<- this]at z;exact List.mem_of_mem_take z
 .rw[List.zip_cons_cons]at z;rcases B8.mp z with z|z
  .exact .inl z
  .refine .inr ?_;have:(xs.zip ys).drop p=(xs.drop p).zip (ys.drop p):=by rw[A2d,A2d,List.drop_zipWith]
   rw[<- this]at z;exact List.mem_of_mem_drop z
def jO.put{t:SetTable}(T:jO t hs){j p:Nat}(e:pY t.mask (SetTable.has t.place) n (t.probeStart h))(b:(fL t.mask n<|t.probeStart h).j=j)(d:SetTable.below t.place j=p):
 t.put j=({ t with place:=SetTable.insertAt t.place p j },p)/\p<=hs.length/\((hs.length+1)*5<t.mask*3->jO { t with place:=SetTable.insertAt t.place p j } (hs.take p++h::hs.drop p)):=by
 have f:SetTable.has t.place j=false:=by rw[<- b];exact HS e
 have c:=(nJ j T.rs).le;rw[d]at c;have R:=aEG T.rs f;rw[d]at R
 have g:j<=t.mask:=by
  rw[<- b];exact aCy n<|aGT<|RS _ _
 have up:∀i,SetTable.has t.place i=true->SetTable.has (SetTable.insertAt t.place p j) i=true:=fun i hi=>by
  rw[sO T.rs]at hi;rw[sO R,vV];rw[<- List.take_append_drop p t.place.toList]at hi;rcases C9.mp hi with z|z
  .exact D9 _ z
  .exact B5 _<|A9 _ z
 refine⟨?_,by rw[<- T.sz];exact c,fun fl=>⟨T.dm,T.ms,R,?_,fun i hi=>?_,?_,fun q a=>?_⟩⟩
 .unfold SetTable.put;rw[d,T.dm];rfl
 .show(SetTable.insertAt t.place p j).size=_;rw[BU c,T.sz,C1,D3,Z9,A0o];omega
 .have hi:=hi;rw[vV]at hi;rcases C9.mp hi with z|z
  .exact T.le i<|List.mem_of_mem_take z
  .rcases B8.mp z with rfl|z
   .exact g
   .exact T.le i<|List.mem_of_mem_drop z
 .rw[C1,D3,Z9,A0o];show _<t.mask*3;omega
 .have a:=a;rw[vV]at a;rcases aFW (T.sz.symm.trans E8.symm) q a with rfl|z
  .have:=NW e;rw[b]at this;exact this.mono up
  .exact(T.rc q z).mono up
def ocW(ow:Array (Tj))(j:Nat):Bool:=(ow.getD j Y).isSome
def getD_in{ow:Array (Tj)}{j:Nat}(h:j<ow.size):ow.getD j a=ow.getD j b:=54
theorem OY{oc:Nat->Bool}{i pt:Nat}:∀(k j more:Nat),k<=more->(∀b,b<k->oc (j+b)=true)->Rch m oc (j+k) ⟨j,more,i,pt,Y⟩
 |0=>fun j more _ _=>.here rfl
 |k+1=>fun j more h a=>by
  refine .step (a 0 50) ?_
  have:adv m ⟨j,more,i,pt,Y⟩=⟨j+1,more-1,i,pt,Y⟩:=by
   unfold adv SetTable.advance;rw[A7 (show more > 0 by omega)]
  rw[this,show j+(k+1)=j+1+k by omega]
  exact OY k (j+1) (more-1) 50 fun b c=>by
   rw[show j+1+b=j+(b+1)by omega];exact a (b+1) 50
theorem OH(r:Rch m oc g (zX m<|SetTable.leap m i pt)):∀(more j:Nat),(∀b,b<=more->oc (j+b)=true)->Rch m oc g ⟨j,more,i,pt,Y⟩
 |0=>fun j a=>.step (a 0<|A8 _) r
 |more+1=>fun j a=>by
  refine .step (a 0 50) ?_
  exact OH r more (j+1) fun b c=>by
   rw[show j+1+b=j+(b+1)by omega];exact a (b+1) 50
theorem UZ{m:Nat}{ow:Array (Tj)}(sz:ow.size=m+1):∀(fuel:Nat)(q:Nat×Nat),q.1<=m->(∃r,r<fuel/\ow.getD (lps m r q).1 (Z 0)=Y)->
 ∃j,SetTable.layClean.free m ow fuel q.1 q.2=Z j/\ow.getD j (Z 0)=Y/\j<=m/\Rch m (ocW ow) j (zX m q)
 |0,q,_,⟨r,o,_⟩=>50
 |fuel+1,q,p,⟨r,o,e⟩=>by
  rw[SetTable.layClean.free.eq_2];have t:q.1<=SetTable.runEnd m q.1/\SetTable.runEnd m q.1<=m:=by unfold SetTable.runEnd;split<;>omega
  cases f:List.find? (fun k=>(ow.getD (q.1+k)<|Z 0).isNone) (List.range (SetTable.runEnd m q.1+1-q.1))with
  |some k=>
   obtain⟨i,n,s⟩:=List.find?_range_eq_some.mp f;have n:=F5.mp n;have i:ow.getD (q.1+k) (Z 0)=Y:=by simpa using i
   refine⟨q.1+k,rfl,i,50,?_⟩
   exact OY k q.1 _ 50 fun g h=>by
    have:=s g h;unfold ocW;rw[getD_in 50];cases z:ow.getD (q.1+g) (Z 0)with
    |none=>rw[z]at this;simp at this
    |some _=>rfl
  |none=>
   have all:=A0b.mp f
   have oc:∀g,g<=SetTable.runEnd m q.1-q.1->ocW ow (q.1+g)=true:=fun g h=>by
    have:=all g<|F5.mpr 50;unfold ocW;rw[getD_in 50];cases z:ow.getD (q.1+g) (Z 0)with
    |none=>rw[z]at this;simp at this
    |some _=>rfl
   cases r with
   |zero=>
    have:=oc 0<|F9 _;unfold ocW at this;have e:ow.getD q.1 (Z 0)=Y:=e;rw[Nat.add_zero,getD_in 50,e]at this;cases this
   |succ r=>
    have l:=aEt q p 1;obtain⟨j,a,b,c,d⟩:=UZ sz fuel (SetTable.leap m q.1 q.2) l ⟨r,50,e⟩;exact⟨j,a,b,c,OH d _ _ oc⟩
def aMr(m:Nat)(acc:Ub (Array (Tj)×Nat))(h:Int):Ub (Array (Tj)×Nat):=acc.bind fun x=>(SetTable.layClean.free m x.1 (SetTable.turns m) (SetTable.bits h % (m+1))<|SetTable.bits h).bind fun j=>Z (x.1.setIfInBounds j<|Z x.2,x.2+1)
structure FU(m:Nat)(hs:Ta)(k:Nat)(ow:Array (Tj)):Prop where
 sz:ow.size=m+1
 tot:∀i h,i<k->hs[i]?=Z h->∃j,j<=m/\ow.getD j Y=Z i/\Rch m (ocW ow) j (zX m<|st0 m h)
 rng:∀j i,ow.getD j Y=Z i->i<k
 one:∀j j' i,ow.getD j Y=Z i->ow.getD j' Y=Z i->j=j'
 cnt:ow.toList.countP (·.isNone)=m+1-k
def rA{ow:Array (Tj)}{j:Nat}(h:j<ow.size):(ow.setIfInBounds j x).getD i d=if i=j then x else ow.getD i d:=by
 rw[D0,Array.getElem?_setIfInBounds,D0];by_cases e:j=i
 .rw[A7 e,A7 e.symm,A7 (e▸h)];rfl
 .rw[B7 e,B7 fun z=>e z.symm]
def FU.step{ow:Array (Tj)}(O:FU m hs k ow)(M:Mask m){h:Int}(u:hs[k]?=Z h)(D:k<=m):∃f,aMr m (Z (ow,k)) h=Z (f,k+1)/\FU m hs (k+1) f:=by
 have pos:0<ow.toList.countP (·.isNone):=by rw[O.cnt];omega
 obtain⟨a,ha,v⟩:=List.countP_pos_iff.mp pos;obtain⟨s,o⟩:=A1p.mp ha;rw[E7]at o;have E:=(E9.mp o).1
 have w:ow.getD s (Z 0)=Y:=by
  rw[D0,o];cases a with
  |none=>rfl
  |some _=>cases v
 have sz:=O.sz;obtain⟨r,F,x⟩:=GO M h (show s<=m by omega);obtain⟨j,f1,f2,y,A⟩:=UZ O.sz (SetTable.turns m) (st0 m h) (RS m h) ⟨r,by unfold SetTable.turns;omega,by rw[x];exact w⟩;have c:j<ow.size:=50
 have g:ow.getD j Y=Y:=54
 have up:∀i,ocW ow i=true->ocW (ow.setIfInBounds j<|Z k) i=true:=fun i hi=>by
  unfold ocW at hi ⊢;rw[rA c];split
  .rfl
  .exact hi
 refine⟨ow.setIfInBounds j<|Z k,?_,by rw[Array.size_setIfInBounds];exact sz,fun i h' hi b=>?_,fun j' i e=>?_,fun n t i l d=>?_,?_⟩
 .show(SetTable.layClean.free m ow (SetTable.turns m) (SetTable.bits h % (m+1))<|SetTable.bits h).bind _=_;rw[show SetTable.layClean.free m ow (SetTable.turns m) (SetTable.bits h % (m+1)) (SetTable.bits h)=Z j from f1];rfl
 .by_cases e:i=k
  .subst e;rw[u]at b;cases b;exact⟨j,y,by rw[rA c,A7 rfl],A.mono up⟩
  .obtain⟨n,B,p,C⟩:=O.tot i h' 50 b;refine⟨n,B,?_,C.mono up⟩;rw[rA c,B7 (fun z=>by rw[z,g]at p;cases p)];exact p
 .rw[rA c]at e;split at e
  .cases e;omega
  .have:=O.rng j' i e;omega
 .rw[rA c]at l d;split at l
  .split at d
   .omega
   .cases l;have:=O.rng t k d;omega
  .split at d
   .cases d;have:=O.rng n k l;omega
   .exact O.one n t i l d
 .rw[Array.toList_setIfInBounds,List.countP_set 50,O.cnt]
  have:ow.toList[j]' 50=Y:=by
   have q:=g;rw[D0,A0f c]at q;exact q
  rw[this];simp;omega
theorem FU.fold{hs:Ta}(M:Mask m)(f:hs.length<=m):∀(b:Ta)(k:Nat)(ow:Array (Tj)),hs.drop k=b->k<=hs.length->FU m hs k ow->∃a,b.foldl (aMr m) (Z (ow,k))=Z (a,hs.length)/\FU m hs hs.length a
 |[]=>fun k ow e g O=>by
  have:hs.length<=k:=List.drop_eq_nil_iff.mp e;have i:k=hs.length:=50
  subst i;exact⟨ow,rfl,O⟩
 |h::b=>fun k ow e j O=>by
  have g:k<hs.length:=by
   by_cases q:k<hs.length
   .exact q
   .rw[List.drop_eq_nil_iff.mpr 50]at e;cases e
  have l:hs[k]?=Z h:=by
   have:=A0h (·[0]?) e;simpa using this
  obtain⟨c,n,o⟩:=O.step M l 50;obtain⟨d,p,r⟩:=FU.fold M f b (k+1) c (by rw[<- List.drop_drop,e];rfl) 50 o;exact⟨d,by rw[List.foldl_cons,n];exact p,r⟩
def aBE(m:Nat)(hs:Ta):FU m hs 0 (Array.replicate (m+1) Y):=by
 have a:∀(j:Nat),(Array.replicate (m+1) (Y:Tj)).getD j Y=Y:=fun j=>by
  rw[D0,Array.getElem?_replicate];split<;>rfl
 refine⟨Array.size_replicate,fun i h hi=>absurd hi<|A0g _,fun j i e=>54,fun j j' i e=>54,?_⟩;rw[Array.toList_replicate,List.countP_replicate];rfl
def aLb{hs:Ta}(M:Mask m)(a:hs.length<=m):∃ow,SetTable.layClean m hs.toArray=Z ow/\FU m hs hs.length ow:=by
 obtain⟨ow,e,O⟩:=FU.fold M a hs 0 (Array.replicate (m+1) Y) rfl (F9 _)<|aBE m hs;refine⟨ow,?_,O⟩;unfold SetTable.layClean;rw[<- Array.foldl_toList];show Option.map (fun x=>x.1) (List.foldl (aMr m) (Z (Array.replicate (m+1) Y,0)) hs)=Z ow;rw[e];rfl
def aBg{m:Nat}{ow:Array (Tj)}{q:Nat×Nat}:q∈(List.range (m+1)).filterMap (fun j=>(ow.getD j Y).map (j,·))↔q.1<=m/\ow.getD q.1 Y=Z q.2:=by
 rw[A0a];constructor
 .rintro⟨j,a,h⟩;obtain⟨i,hi,rfl⟩:=Option.map_eq_some_iff.mp h;exact⟨by have:=F5.mp a;show j<=m;omega,hi⟩
 .rintro⟨c,b⟩;exact⟨q.1,F5.mpr 50,by rw[b];rfl⟩
theorem QR{b c γ:Type}(f:b->c)(g:b->γ):∀(l:Ua b),(l.map f).zip (l.map g)=l.map fun a=>(f a,g a)
 |[]=>rfl
 |a::l=>by rw[D4,D4,List.zip_cons_cons,QR f g l,D4]
def aFP{ld:Bool}{hs:Ta}(M:Mask m)(s:hs.length*5<m*3):∃(place:Tn)(d:Tg),SetTable.laid m f g ld l hs.toArray=Z (⟨m,place,#[],f,ld,g,l⟩,d.toArray) /\
 d.Perm (List.range hs.length)/\jO ⟨m,place,#[],f,ld,g,l⟩ (d.map fun k=>hs.getD k 0):=by
 obtain⟨ow,t,O⟩:=aLb (hs:=hs) M 50;obtain⟨L,n⟩:∃L,(List.range (m+1)).filterMap (fun j=>(ow.getD j Y).map (j,·))=L:=⟨_,rfl⟩;have mem:∀q,q∈L↔q.1<=m/\ow.getD q.1 Y=Z q.2:=fun q=>by rw[<- n];exact aBg
 have rise:(L.map (·.1)).Pairwise (·<·):=by rw[<- n];exact XG _ List.pairwise_lt_range
 have pm:(L.map (·.2)).Perm (List.range hs.length):=by
  refine(List.perm_ext_iff_of_nodup ?_ List.nodup_range).mpr fun i=>?_
  .refine List.pairwise_map.mpr ?_;refine List.Pairwise.imp_of_mem (fun{a b} ha C lt q=>?_)<|List.pairwise_map.mp rise;have:=O.one a.1 b.1 a.2 ((mem a).mp ha).2 54;omega
  .rw[F5];constructor
   .intro h;obtain⟨q,e,rfl⟩:=C7.mp h;exact O.rng _ _ ((mem q).mp e).2
   .intro h;obtain⟨j,u,o,_⟩:=O.tot i hs[i] h<|C0 h;exact C7.mpr ⟨(j,i),(mem (j,i)).mpr ⟨u,o⟩,rfl⟩
 have R:=aBI rise
 have ln:L.length=hs.length:=by
  have:=pm.length_eq
  rwa [A4,List.length_range]at this
 refine⟨(L.map (·.1)).toArray,L.map (·.2),?_,pm,rfl,M,R,by rw[F4,A4,A4,A4],fun j v=>?_,by rw[A4,A4,ln];exact s,fun q e=>?_⟩
 .unfold SetTable.laid;rw[t];show Z _=_;rw[n]
 .obtain⟨q,e,rfl⟩:=C7.mp v;exact((mem q).mp e).1
 .have e:=e;rw[I0,QR]at e;obtain⟨z,w,rfl⟩:=C7.mp e;obtain⟨D,r⟩:=(mem z).mp w;have x:=O.rng _ _ r;have y:hs[z.2]?=Z (hs.getD z.2 0):=54
  obtain⟨j,_,o,A⟩:=O.tot z.2 _ x y;have B:=O.one _ _ _ o r;subst B;refine A.mono fun i hi=>?_;rw[sO R];obtain⟨k,p⟩:=A1e.mp hi
  have c:i<ow.size:=by
   by_cases c:i<ow.size
   .exact c
   .rw[D0,A0t 50]at p;cases p
  exact C7.mpr ⟨(i,k),(mem (i,k)).mpr ⟨by have:=O.sz;show i<=m;omega,p⟩,rfl⟩
section
variable{prog:Uh}{w:World}{A:Ui}{E:T2}{s:Ue}
abbrev TK(prog:Uh)(w:World):HeapKind prog w (Ua Key):=tupleKind<|cH prog w
def aCK(h:(cH prog w).is k v=true):v.scannable=true:=by
 cases k<;>cases v<;>first|rfl|exact absurd h C6
theorem uE:∀{ks:Ua Key}{vs:T6},ItemsAre (cH prog w) ks vs->∀v∈vs,v.scannable=true
 |_,_,.nil=>fun v h=>by simp at h
 |_,_,.cons e r=>fun v h=>by
  rcases B8.mp h with rfl|h
  .exact aCK e
  .exact uE r v h
def TK.ty(h:(TK prog w).is s.heap k a):s.TypeIs (.ref a) "tuple":=let⟨o,_,_,b,c,_⟩:=h;⟨o,b,c⟩
def RM{v:Uc}(h:v.scannable=true)(n:Nat):ofAClassStatement n v=pure false:=by
 cases v<;>first|(cases n<;>rfl)|(simp[Value.scannable]at h)
def EG{Q:Bool->Ue->Prop}(h:(TK prog w).is s.heap k a)(q:Q false s):wpAny (model prog w) A (ofAClassStatement 8 (.ref a)) Q E s:=by
 have ty:=TK.ty h;obtain⟨o,c,n,f,l,g,i⟩:=h;unfold ofAClassStatement;refine A0<|A1a ty ?_;refine A0<|A3 ?_;refine A0<|Z5 f g ?_;refine A0<|wpAny_forIn_array' _ (fun rest b d=>(∀v∈rest,v.scannable=true)/\b=(Y,())/\d=s) _ (fun x rest b d ⟨hs,e,es⟩=>?_) (fun b d ⟨_,e,es⟩=>?_) c (Y,()) ⟨uE i,rfl,rfl⟩
 .rw[RM (hs x B9) 7];refine A0<|A3 ?_;exact A3 ⟨fun v j=>hs v<|A9 _ j,rfl,es⟩
 .subst e es;exact A3 q
def ZC{Q:Bool->Ue->Prop}(h:(TK prog w).is s.heap k a)(q:∀r,Q r s):wpAny (model prog w) A (hashByValue 8 (.ref a)) Q E s:=by
 have ty:=TK.ty h;obtain⟨o,c,n,f,l,g,i⟩:=h;refine A0<|wpAny_specialOf ty F.slot_tuple_hash.lookup ?_;refine A0<|Z5 f g ?_;refine A0<|wpAny_forIn_array' _ (fun rest b d=>(∀v∈rest,v.scannable=true)/\b=(Y,())/\d=s) _ (fun x rest b d ⟨hs,e,es⟩=>?_) (fun b d ⟨_,e,es⟩=>?_) c (Y,()) ⟨uE i,rfl,rfl⟩
 .rw[hashByValue_scannable 7 (hs x B9)];refine A0<|A3 ?_;cases plainKind x with
  |true=>exact A3 ⟨fun v j=>hs v<|A9 _ j,rfl,es⟩
  |false=>
   subst es;exact A3<|A3<|q _
 .subst e es;exact A3<|q _
def aEY{ys:T6}{Q:Bool->Ue->Prop}(e:(TK prog w).is s.heap k b)(i:∀y∈ys,∃f a,y=.ref a/\(TK prog w).is s.heap f a)(q:Q false s):
 wpAny (model prog w) A (searchCouldBeSeen (.ref b) ys) Q E s:=by
 refine A0<|wpAny_forIn_list _ (fun rest r d=>(∀v∈rest,v∈ys)/\r=(Y,())/\d=s) _ (fun x rest r d ⟨hs,g,es⟩=>?_) (fun r d ⟨_,g,es⟩=>?_) ys (Y,()) ⟨fun _ h=>h,rfl,rfl⟩
 .subst es;obtain⟨f,a,rfl,ha⟩:=i x<|hs x B9;have nx:(∀v∈rest,v∈ys)/\((Y,()):Ub Bool×Unit)=(Y,())/\d=d:=⟨fun v j=>hs v<|A9 _ j,rfl,rfl⟩;dsimp only;by_cases c:(b==a)=true
  .rw[c];exact A3 nx
  .have c:(b==a)=false:=54
   rw[c];refine A0<|(TK prog w).quiet e ?_;refine A0<|(TK prog w).quiet ha ?_;refine A0<|EG e ?_;refine A0<|EG ha ?_;exact A3 nx
 .subst g es;exact A3 q
end
section
variable{prog:Uh}{w:World}{A:Ui}{E:T2}{s:Ue}
abbrev hT(prog:Uh)(w:World)(k:Ua Key):Int:=(TK prog w).hash k
def enT(prog:Uh)(w:World)(xs:Ua (Ua Key×Uf)):Ua (Int×Uc):=xs.map fun x=>(hT prog w x.1,Value.ref x.2)
def aBr(a:Uf):isSame (Value.ref a) (Value.ref a)=pure true:=by
 unfold isSame;dsimp only;rw[A7 (U4 _)]
def aGc{t:SetTable}(M:Mask t.mask):t.gaveWay=false:=by
 unfold SetTable.gaveWay;rcases M with e|e|e<;>rw[e]<;>rfl
def jO.fits(T:jO t hs){n:Nat}(h:n=hs.length):t.fits n=true:=by
 have:=T.fl;unfold SetTable.fits SetTable.fill;rw[T.dm,T.sz,h,B4];exact⟨U4 _,C4 54⟩
def ZN{a:Uf}{o:Obj}{Q:SetFound->Ue->Prop}(ho:s.heap.get? a=Z o)(hd:o.data=.set es ep t)(O:es.toList=enT prog w xs)(T:jO t (xs.map fun x=>hT prog w x.1))
 (hx:∀x∈xs,(TK prog w).is s.heap x.1 x.2) (hb:(TK prog w).is s.heap k b) (room:(TK prog w).room A):
 ∀(n:Nat)(p:Pb)(op:Ub Pb)(d:Nat),op.getD (t.probeStart<|hT prog w k)=p->pY t.mask (SetTable.has t.place) n p->n<10*SetTable.turns t.mask->p.dummy=Y->n<d->
  (∀(i:Nat)(x:Ua Key×Uf),xs[i]?=Z x->x.1=k->∃j m,t.place[i]?=Z j/\m<n/\(fL t.mask m p).j=j)->
  (k∈xs.map (·.1)->Q (.there Y) s)->(k∉xs.map (·.1)->Q (.free (fL t.mask n p).j false) s)->wpAny (model prog w) A (setSearchFrom a (.ref b) (hT prog w k) true d op) Q E s:=by
 have hf:=T.fits (n:=es.size) (by rw[<- E8,O];unfold enT;rw[A4,A4])
 have v:∀(i:Nat)(x:Ua Key×Uf),xs[i]?=Z x->es[i]?=Z (hT prog w x.1,Value.ref x.2):=fun i x e=>by
  rw[<- E7,O];unfold enT;rw[D6,e];rfl
 have plc:∀(i j:Nat),t.place[i]?=Z j->∃x,xs[i]?=Z x:=fun i j e=>by
  have l:=(E9.mp e).1;rw[T.sz,A4]at l;exact⟨_,C0 l⟩
 intro n
 induction n using Nat.strongRecOn with
 |_ n ih=>
  intro p op d P en ln dm lf pos F no;cases d with
  |zero=>omega
  |succ d=>
   refine A0<|A1v ho hd hf ?_;dsimp only;rw[aGc T.ms,B7 C6,P];obtain⟨f,hF⟩:∃f:Nat->Int,(fun i=>(Option.map (fun x:Int×Uc=>x.1) es[i]?).getD 0)=f:=⟨_,rfl⟩
   have fi:∀(i:Nat)(x:Ua Key×Uf),xs[i]?=Z x->f i=hT prog w x.1:=fun i x e=>by
    rw[<- hF];show(Option.map (fun x:Int×Uc=>x.1) es[i]?).getD 0=_;rw[v i x e];rfl
   generalize M:t.probe _ (hT prog w k) p=r;have M:t.probe f (hT prog w k) p=r:=by rw[<- hF];exact M
   rcases FZ T.dm n p (10*SetTable.turns t.mask) en ln dm with⟨g,all⟩|⟨m,i,hm,s1,s2,s3,g,all⟩
   .have:r=Z (.empty (fL t.mask n p).j Y):=M.symm.trans g;subst this;refine A3 (no fun hk=>?_);obtain⟨x,B,rfl⟩:=C7.mp hk;obtain⟨i,ei⟩:=A1p.mp B;obtain⟨j,m,u,hm,G⟩:=pos i x ei rfl;obtain⟨h,N,H⟩:=LH (by rw[sO T.rs];rw[<- E7]at u;exact O6 u)
    have R:h=i:=by
     have S:=(E9.mp H).1;have U:=(E9.mp u).1;have g1:t.place.getD h 0=j:=by rw[D0,H];rfl
     have g2:t.place.getD i 0=j:=by rw[D0,u];rfl
     by_cases c:h<i
     .have:=T.rs _ _ c U;omega
     .by_cases c':i<h
      .have:=T.rs _ _ c' S;omega
      .omega
    subst R;exact all m hm h (by rw[G];exact N)<|fi h x ei
   .have:r=Z (.candidate (fL t.mask m p).j i (fL t.mask (m+1) p)):=M.symm.trans g;subst this;obtain⟨x,ex⟩:=plc i _ s2;have xm:=O6 ex
    have I:wpAny (model prog w) A (holding [Value.ref x.2] (eqBool (.ref x.2) (.ref b)) >>= fun q=>setState a >>= fun y=>match y with
     |(V,_,t')=>if (true&&q)=true then pure (SetFound.there Y)else match t'.sameMemory t.moves t.mask with
      |some same=>do
       let C <- match if same=true then t'.slot (fL t.mask m p).j else SetTable.Slot.empty with
        |SetTable.Slot.live h=>match V[h]? with
         |some (_,y')=>do
          let z <- isSame y' (.ref x.2)
          pure (if z=true then Z h else Y)
         |none=>pure Y
        |_=>pure Y
       match C with
       |none=>do
        rule "set.search.anew"
        setSearchFrom a (.ref b) (hT prog w k) true d Y
       |some h=>if q=true then pure (SetFound.there<|Z h)else setSearchFrom a (.ref b) (hT prog w k) true d (Z<|fL t.mask (m+1) p)
      |_=>unsupported "set.changed-during-lookup:is-the-new-block-at-the-old-address") Q E s:=by
     refine A0<|J8<|(TK prog w).eqBool room (hx x xm) hb ?_;refine A0<|A1v ho hd hf ?_;dsimp only;by_cases c:x.1=k
     .rw[C4 c];exact A3<|F<|C7.mpr ⟨x,xm,c⟩
     .rw[F6 c]
      have sm:t.sameMemory t.moves t.mask=Z true:=by
       unfold SetTable.sameMemory;rw[A7 (U4 _)]
      rw[sm];dsimp only;rw[A7 rfl,s1];dsimp only;rw[v i x ex];refine A0 ?_;rw[aBr];refine A3<|A0<|A3 ?_;rw[A7 rfl];have W:=FY (m+1) n p en hm;refine ih (n-(m+1)) 50 (fL t.mask (m+1) p) (Z<|fL t.mask (m+1) p) d rfl W 50 (aEe _ dm) 50 (fun i2 x2 X k2=>?_) F fun z=>?_
      .obtain⟨j,D,u,a0,G⟩:=pos i2 x2 X k2;obtain⟨h,N,H⟩:=LH (by rw[sO T.rs];rw[<- E7]at u;exact O6 u)
       have R:h=i2:=by
        have S:=(E9.mp H).1;have U:=(E9.mp u).1;have g1:t.place.getD h 0=j:=by rw[D0,H];rfl
        have g2:t.place.getD i2 0=j:=by rw[D0,u];rfl
        by_cases c1:h<i2
        .have:=T.rs _ _ c1 U;omega
        .by_cases c2:i2<h
         .have:=T.rs _ _ c2 S;omega
         .omega
       subst R;have h1:¬D<m:=fun lt=>all D lt h (by rw[G];exact N) (by rw[fi h x2 X,k2])
       have h2:D≠m:=fun e=>by
        subst e;rw[G]at s1;rw[N]at s1;injection s1 with s1
        subst s1;rw[X]at ex;cases ex;exact c k2
       refine⟨j,D-(m+1),u,50,?_⟩;rw[<- rP,show m+1+(D-(m+1))=D by omega];exact G
      .have:=no z;rw[<- rP,show m+1+(n-(m+1))=n by omega];exact this
    cases hl:t.led with
    |true=>
     dsimp only;rw[B7 52,v i x ex];exact I
    |false=>
     refine A0<|aEY hb (fun y hy=>?_) ?_
     .obtain⟨e,J,rfl⟩:=C7.mp hy;rw[Array.toList_filter]at J;have L:=(A1x.mp J).1;rw[O]at L;obtain⟨x',B,rfl⟩:=C7.mp L;exact⟨x'.1,x'.2,rfl,hx x' B⟩
     .rw[B7 C6,v i x ex];exact I
end
section
variable{prog:Uh}{w:World}{A:Ui}{E:T2}{s:Ue}
theorem BB{a:Type}:∀(xs:Ua a),(List.range xs.length).filterMap (xs[·]?)=xs
 |[]=>rfl
 |x::xs=>by
  rw[D3,List.range_succ_eq_map,Y1];rw[A2j];exact A0h (x::·)<|BB xs
def RD{b:Type}{xs:Ua b}{a:Tg}(h:a.Perm (List.range xs.length)):(a.filterMap (xs[·]?)).Perm xs:=by
 have:=h.filterMap (xs[·]?)
 rwa [BB]at this
theorem OP{b c:Type}(f:b->c)(d:c){xs:Ua b}:∀{a:Tg},(∀k∈a,k<xs.length)->a.map (fun k=>(xs.map f).getD k d)=(a.filterMap (xs[·]?)).map f
 |[]=>51
 |k::a=>fun h=>by
  have e:=h k B9;rw[D4,Y1,C0 e,D4,OP f d fun i hi=>h i<|A9 _ hi,E3,D6,C0 e];rfl
def aFu{b c:Type}(f:b->c){xs:Ua b}(a:Tg):a.filterMap ((xs.map f)[·]?)=(a.filterMap (xs[·]?)).map f:=54
structure STu(prog:Uh)(w:World)(b:Bool)(h:Heap)(a:Uf)(xs:Ua (Ua Key×Uf)):Prop where
 ex:∃o es ep t,h.get? a=Z o/\o.ExactSet/\o.data=.set es ep t/\es.toList=enT prog w xs/\jO t (xs.map fun x=>hT prog w x.1)/\t.led=b
 nd:(xs.map (·.1)).Nodup
def jO.off(T:jO t hs)(c:Bool):jO { t with plain:=c } hs:=⟨T.dm,T.ms,T.rs,T.sz,T.le,T.fl,T.rc⟩
def XA{a b:Type}(f:a->b)(xs:Ua a)(p:Nat)(x:a):(xs.take p++x::xs.drop p).map f=(xs.map f).take p++f x::(xs.map f).drop p:=by simp_all
def rJ{a:Type}(xs:Ua a)(p:Nat)(x:a):(xs.take p++x::xs.drop p).Perm (x::xs):=by
 refine List.perm_middle.trans ?_;rw[List.take_append_drop]
def aDz{a:Uf}{o:Obj}{xs:Ua (Ua Key×Uf)}{Q:Unit->Ue->Prop}(i:s.heap.get? a=Z o)(n:o.ExactSet)(hd:o.data=.set es ep t)(g:es.toList=enT prog w xs)(sz:t.place.size=xs.length)(dm:t.dummies=#[])(B:xs.length<=t.mask)
 (hn:xs.length=5\/xs.length=19) (nd:(xs.map (·.1)).Nodup) (h:∀h' d,Heap.SameBut a s.heap h'->STu prog w t.led h' a d->d.Perm xs->Q () { s with heap:=h' }):
 wpAny (model prog w) A (setRelay a<|SetTable.grown xs.length) Q E s:=by
 have j:es.size=xs.length:=by rw[<- E8,g];unfold enT;rw[A4]
 have p:t.fits es.size=true:=by
  unfold SetTable.fits SetTable.fill;rw[dm,sz,j,B4];exact⟨U4 _,C4 50⟩
 obtain⟨m,M,hm,C⟩:∃m,Mask m/\SetTable.sizeAbove (SetTable.grown xs.length)=m+1/\xs.length*5<m*3:=by
  rcases hn with e|e
  .exact⟨31,.inr (.inl rfl),by rw[e];decide,50⟩
  .exact⟨127,.inr (.inr rfl),by rw[e];decide,50⟩
 have ms:m<=127:=by rcases M with e|e|e<;>omega
 obtain⟨hs,f⟩:∃hs,xs.map (fun x=>hT prog w x.1)=hs:=⟨_,rfl⟩;have q:hs.length=xs.length:=54
 have r:Array.map (fun x:Int×Uc=>x.1) es=hs.toArray:=by
  apply Array.toList_inj.mp
  rw[Array.toList_map,g,<- f];unfold enT;rw[I0];rfl
 obtain⟨place,b,u,pm,T⟩:=aFP (hs:=hs) M 50
 have lt:∀k∈b,k<xs.length:=fun k v=>by
  have:=F5.mp<|pm.mem_iff.mp v;omega
 have c:(b.filterMap (xs[·]?)).Perm xs:=RD 54;rw[<- f,OP _ _ lt]at T
 have l:(Array.filterMap (fun x=>es[x]?) b.toArray).toList=enT prog w (b.filterMap (xs[·]?)):=by
  rw[List.filterMap_toArray];show b.filterMap (fun x=>es[x]?)=_;unfold enT at g ⊢;rw[<- aFu,<- g];congr 1;funext k;rw[E7]
 have y:t.relaid (Array.map (fun x=>x.1) es) (SetTable.grown xs.length)=Z (⟨m,place,#[],t.finger,t.led,t.movedTo m,t.plain⟩,b.toArray):=by
  unfold SetTable.relaid;rw[hm,Nat.add_sub_cancel,r];exact u
 have s2:(Array.filterMap (fun x=>es[x]?) b.toArray).size=es.size:=by
  rw[<- E8,l,j];unfold enT;rw[A4,c.length_eq]
 refine A0<|A1v i hd p ?_;dsimp only;rw[B7 (by rw[hm,J9];omega),y];show wpAny (model prog w) A ((if ((Array.filterMap (fun x=>es[x]?) b.toArray).size != es.size)=true then _ else pure (Array.filterMap (fun x=>es[x]?) b.toArray,(⟨m,place,#[],t.finger,t.led,t.movedTo m,t.plain⟩:SetTable))) >>= _) Q E s;rw[B7 54];refine A0<|A3 ?_;refine wpAny_storeSet_of i hd ?_ (by rw[s2,j,J9];omega);have z:=TM (es':=Array.filterMap (fun x=>es[x]?) b.toArray) (t':=(⟨m,place,#[],t.finger,t.led,t.movedTo m,t.plain⟩:SetTable)) i hd;exact h _ _ (A0c s.heap a _) ⟨⟨_,_,_,_,z,n,rfl,l,T,rfl⟩,((c.map (·.1)).nodup_iff).mpr nd⟩ c
def aFN{k:Ua Key}{Q:Bool->Ue->Prop}(S:STu prog w b s.heap a xs)(hx:∀x∈xs,(TK prog w).is s.heap x.1 x.2)(J:(TK prog w).is s.heap k c)(room:(TK prog w).room A)(len:xs.length<=70)
 (h:∀h' d r t',s.toks<=t'->Heap.SameBut a s.heap h'->STu prog w b h' a d->((k∈xs.map (·.1)/\d=xs)\/(k∉xs.map (·.1)/\d.Perm ((k,c)::xs)))->Q r { s with heap:=h',toks:=t' }):
 wpAny (model prog w) A (setAdd a (.ref c)) Q E s:=by
 refine J8<|A0<|(TK prog w).pyHash room J ?_;have f:s.toks<=s.toks+(TK prog w).draws k:=Nat.le_add_right _ _;generalize s.toks+(TK prog w).draws k=tt at f ⊢;obtain⟨⟨o,es,ep,t,v,l,hd,D,T,led⟩,nd⟩:=S;have V:es.size=xs.length:=by rw[<- E8,D];unfold enT;rw[A4]
 have W:=T.fits (n:=es.size) (by rw[V,A4]);obtain⟨n,ln,L⟩:=T.search<|hT prog w k;have tm:t.mask<=127:=by rcases T.ms with e|e|e<;>omega
 refine J8<|A0<|A1v v hd W ?_;dsimp only;refine A0<|ZN (s:={ s with toks:=tt }) v hd D T hx J room n (t.probeStart<|hT prog w k) Y 100000 rfl L ln rfl (by unfold SetTable.turns at ln;omega) (fun i x ex kx=>?_) (fun M=>?_) fun N=>?_
 .have il:=(B3.mp ex).1;have F:i<t.place.size:=by rw[T.sz,A4];exact il
  have G:=A0f F
  have zm:(hT prog w k,t.place[i])∈(xs.map fun x=>hT prog w x.1).zip t.place.toList:=by
   refine O6 (i:=i) ?_;rw[List.getElem?_zip_eq_some];refine⟨?_,?_⟩
   .rw[D6,ex,<- kx];rfl
   .rw[E7];exact G
  obtain⟨m,hm,e⟩:=aDv L (by rw[sO T.rs];rw[<- E7]at G;exact O6 G)<|T.rc _ zm;exact⟨_,m,G,hm,e⟩
 .exact A3<|h s.heap xs false tt f (A1u ..) ⟨⟨o,es,ep,t,v,l,hd,D,T,led⟩,nd⟩ (.inl ⟨M,rfl⟩)
 .obtain⟨j,X⟩:∃j,(fL t.mask n<|t.probeStart<|hT prog w k).j=j:=⟨_,rfl⟩;obtain⟨p,hp⟩:∃p,SetTable.below t.place j=p:=⟨_,rfl⟩;obtain⟨pt,F,T'⟩:=T.put L X hp;rw[X];refine A0<|A1v v hd W ?_;rw[pt];rw[A4]at F T'
  have u:(SetTable.insertAt es p (hT prog w k,Value.ref c)).toList=enT prog w (xs.take p++(k,c)::xs.drop p):=by
   rw[vV,D];unfold enT;rw[XA]
  have O:(SetTable.insertAt es p (hT prog w k,Value.ref c)).size=xs.length+1:=by
   rw[<- E8,u];unfold enT;rw[A4,(rJ xs p (k,c)).length_eq,D3]
  have y:=((rJ xs p (k,c)).map (·.1)).nodup_iff.mpr (U1.mpr ⟨N,nd⟩);have z:(SetTable.insertAt t.place p j).size=xs.length+1:=by rw[BU (by rw[T.sz,A4];exact F),T.sz,A4]
  have B:∀H:Bool,wpAny (model prog w) A (do
   let t1:SetTable:=if H=true then{ t with place:=SetTable.insertAt t.place p j }else{ { t with place:=SetTable.insertAt t.place p j }with plain:=false }
   storeSet a (SetTable.insertAt es p (hT prog w k,Value.ref c)) t1
   if (!false&&t1.tooFull)=true then do
       setRelay a (SetTable.grown (es.size+1))
       pure true
    else pure true) Q E { s with toks:=tt }:=fun H=>by
   obtain⟨g,P⟩:∃q:Bool,(if H=true then({ t with place:=SetTable.insertAt t.place p j }:SetTable)else{ { t with place:=SetTable.insertAt t.place p j }with plain:=false })={ { t with place:=SetTable.insertAt t.place p j }with plain:=q }:=by
    cases H
    .exact⟨false,rfl⟩
    .exact⟨t.plain,rfl⟩
   rw[P];refine A0<|wpAny_storeSet_of v hd ?_ (by rw[O,J9];omega);have g1:=TM (es':=SetTable.insertAt es p (hT prog w k,Value.ref c)) (t':={ { t with place:=SetTable.insertAt t.place p j }with plain:=g }) v hd;have sb:=A0c s.heap a<|Obj.putSet (SetTable.insertAt es p (hT prog w k,Value.ref c)) { { t with place:=SetTable.insertAt t.place p j }with plain:=g }
   have tf:({ { t with place:=SetTable.insertAt t.place p j }with plain:=g }:SetTable).tooFull=decide ((xs.length+1)*5>=t.mask*3):=by
    unfold SetTable.tooFull SetTable.fill;rw[z,T.dm];rfl
   rw[tf];by_cases c1:(xs.length+1)*5>=t.mask*3
   .rw[C4 c1,A7 52];have I:(xs.take p++(k,c)::xs.drop p).length=xs.length+1:=by rw[(rJ xs p (k,c)).length_eq,D3]
    have fl:=T.fl;rw[A4]at fl;rw[V,<- I];refine A0 (aDz g1 l rfl u (by show(SetTable.insertAt t.place p j).size=_;rw[z,I]) T.dm (by rw[I];show _<=t.mask;omega) (by rw[I];rcases T.ms with e|e|e<;>omega) y fun h' d R hS U=>A3 ?_);refine h h' d true tt f (sb.trans R) ?_ (.inr ⟨N,U.trans<|rJ xs p (k,c)⟩);rw[<- led];exact hS
   .rw[F6 c1,B7 52];have T1:=(T' 50).off g;refine A3<|h _ (xs.take p++(k,c)::xs.drop p) true tt f sb ⟨⟨_,_,_,_,g1,l,rfl,u,?_,led⟩,y⟩ (.inr ⟨N,rJ xs p (k,c)⟩);rw[XA];exact T1
  cases C:t.plain with
  |true=>
   refine A0 (ZC J fun r=>?_);have:=B r;rw[C]at this;exact this
  |false=>
   refine A0<|A3 ?_;have:=B true;rw[C]at this;exact this
end
section
variable{prog:Uh}{w:World}{A:Ui}{E:T2}{R:Result->Ue->Prop}{s:Ue}
def STu.same{h':Heap}(S:STu prog w b h a xs)(k:∀o,h.get? a=Z o->h'.get? a=Z o):STu prog w b h' a xs:=by
 obtain⟨⟨o,es,ep,t,c,r⟩,nd⟩:=S;exact⟨⟨o,es,ep,t,k o c,r⟩,nd⟩
def aPp(b:Bool):jO (.fresh 0 0 b) []:=⟨rfl,.inl rfl,fun i k _ h=>absurd h<|A0g _,rfl,fun j h=>(by simp[SetTable.fresh]at h),by show 0*5<7*3;decide,fun q h=>(by simp at h)⟩
end
structure DZ(acc:Ua (Uf×Ua Key))(xs:Ua (Ua Key×Uf)):Prop where
 fr:∀x∈xs,(x.2,x.1)∈acc
 to:∀q∈acc,q.2∈xs.map (·.1)
def DZ.step{acc:Ua (Uf×Ua Key)}{a:Ua (Ua Key×Uf)}{k:Ua Key}{c:Uf}(e:DZ acc xs)(h:(k∈xs.map (·.1)/\a=xs)\/(k∉xs.map (·.1)/\a.Perm ((k,c)::xs))):DZ (acc++[(c,k)]) a:=by
 rcases h with⟨f,rfl⟩|⟨f,pm⟩
 .refine⟨fun x b=>D9 _<|e.fr x b,fun q d=>?_⟩;rcases C9.mp d with z|z
  .exact e.to q z
  .rw[A6.mp z];exact f
 .refine⟨fun x b=>?_,fun q d=>?_⟩
  .rcases B8.mp (pm.mem_iff.mp b)with rfl|z
   .exact B5 _<|A6.mpr rfl
   .exact D9 _<|e.fr x z
  .rw[(pm.map (·.1)).mem_iff,D4];rcases C9.mp d with z|z
   .exact A9 _<|e.to q z
   .rw[A6.mp z];exact B9
def DZ.len{xs:Ua (Ua Key×Uf)}(e:DZ acc xs)(nd:(xs.map (·.1)).Nodup):∀{ks:Ua (Ua Key)},ks.Nodup->(∀k,k∈ks↔k∈acc.map (·.2))->xs.length=ks.length:=fun{ks} a mk=>by
 have pm:=(List.perm_ext_iff_of_nodup nd a).mpr fun k=>by
  rw[mk];constructor
  .intro h;obtain⟨x,b,rfl⟩:=C7.mp h;exact C7.mpr ⟨(x.2,x.1),e.fr x b,rfl⟩
  .intro h;obtain⟨q,c,rfl⟩:=C7.mp h;exact e.to q c
 rw[<- pm.length_eq,A4]
section
variable{X:Cx}{N':Te}{cap:T4}{scope:Scope}
end
noncomputable def nO:Ua (Ua Key)->Ua (Ua Key)
 |[]=>[]
 |k::ks=>if ((nO ks).any fun x=>decide (x=k))=true then nO ks else k::nO ks
def any_mem{k:Ua Key}{l:Ua (Ua Key)}:(l.any fun x=>decide (x=k))=true↔k∈l:=54
theorem wJ(k:Ua Key):∀ks,k∈nO ks↔k∈ks
 |[]=>Iff.rfl
 |a::ks=>by
  have ih:=wJ k ks;unfold nO;by_cases c:a∈nO ks
  .rw[A7 (any_mem.mpr c),ih,B8];refine⟨.inr,fun h=>h.elim (fun e=>?_) id⟩;rw[e];exact(wJ a ks).mp c
  .rw[B7 fun z=>c<|any_mem.mp z,B8,B8,ih]
theorem AC:∀ks,(nO ks).Nodup
 |[]=>A0p
 |a::ks=>by
  unfold nO;by_cases c:a∈nO ks
  .rw[A7 (any_mem.mpr c)];exact AC ks
  .rw[B7 fun z=>c<|any_mem.mp z];exact U1.mpr ⟨c,AC ks⟩
theorem OC:∀ks,(nO ks).length<=ks.length
 |[]=>A8 _
 |a::ks=>by
  have:=OC ks;unfold nO;split
  .show _<=ks.length+1;omega
  .show _+1<=ks.length+1;omega
section
variable{P:Uh}{w:World}{K:Fg}{mg:Str->Ti}
end
section
variable{prog:Uh}{w:World}{A:Ui}{R:Result->Ue->Prop}{s:Ue}
noncomputable abbrev mQ(elt tg iter:Ug)(ifs:Tb)(tg2 iter2:Ug)(ifs2:Tb)(scope:Scope)(pos:Pos):Ug:=.ListComp elt [⟨tg,iter,ifs,0⟩,⟨tg2,iter2,ifs2,0⟩] scope pos
def compTurn2_1(f tg e:Ug)(g:Tb)(d a:Ug)(b:Tb)(scope:Scope)(pos:Pos)(it acc:Uc)(env:Env):
 compTurn (mQ f tg e g d a b scope pos) 1 it acc env=(do
  standAt a.pos
  match <- pyNext it with
  |none=>pure (.done .next)
  |some v=>
   letOwnedTupleGo d it v
   assign d env v
   let mut ok:=true
   for c in b do
    if ok then ok <- isTrue c env (eval c env)
   if ok then
    (do let _ <- call (.builtin "list.append") [acc,<- eval f env])
   again (.compLoop (mQ f tg e g d a b scope pos) 1 it acc env)):=by rfl
def compTurn2_0(f tg b:Ug)(e:Tb)(g a:Ug)(d:Tb)(scope:Scope)(pos:Pos)(it acc:Uc)(env:Env):
 compTurn (mQ f tg b e g a d scope pos) 0 it acc env=(do
  standAt b.pos
  match <- pyNext it with
  |none=>pure (.done .next)
  |some v=>
   letOwnedTupleGo tg it v
   assign tg env v
   let mut ok:=true
   for c in e do
    if ok then ok <- isTrue c env (eval c env)
   if ok then do
    let x <- eval a env
    standAt a.pos
    let x <- foldedSetIterable a env x;let _ <- runOwn (.compStart (mQ f tg b e g a d scope pos) 1 (<- holding [x] (pyIter x)) acc env) env
    again (.compLoop (mQ f tg b e g a d scope pos) 0 it acc env)
   else again (.compLoop (mQ f tg b e g a d scope pos) 0 it acc env)):=by rfl
def aEm{pos:Pos}{acc:Uc}(I:Nat->Ue->Prop)
 (j:∀n s,I n s->wpAny (model prog w) A (pyNext it) (fun r s1=>(r=Y/\R (.ok .next) s1)\/∃v,r=Z v /\
  wpAny (model prog w) A (letOwnedTupleGo d it v) (fun _ s2=>wpAny (model prog w) A (assign d env v) (fun _ s3=>
   wpAny (model prog w) A (forIn b true fun c r=>if r=true then(do
    let ok <- isTrue c env (eval c env)
    pure (ForInStep.yield ok))else pure (ForInStep.yield r)) (fun ok o=>
     (ok=true/\wpAny (model prog w) A (eval g env) (fun x p=>wpAny (model prog w) A (call (.builtin "list.append") [acc,x]) (fun _ q=>∃m,m<n/\I m q) 58 p) 58 o) \/
     (ok=false/\∃m,m<n/\I m o)) 58 s3) 58 s2) 58 s1) 58 s)
 (n:Nat) (h:I n s):codeAny (model prog w) A (.compLoop (mQ g tg e i d a b scope pos) 1 it acc env) R s:=by
 refine codeAny_loop rfl I (fun n s t=>?_) n h
 show wpAny _ A ((compTurn (mQ g tg e i d a b scope pos) 1 it acc env).onRaise fun x=>do
  noteFrame x env
  theTreesLotGoes x) _ _ s
 refine wpAny_noted ?_;refine A0<|Y6<|A0 (E5 (j n s t) (fun r s1 k=>?_) fun _ _ f=>f.elim);rcases k with⟨rfl,k⟩|⟨v,rfl,k⟩
 .exact A3 k
 .refine A0 (E5 k (fun _ s2 u=>?_) fun _ _ f=>f.elim);refine A0 (E5 u (fun _ s3 y=>?_) fun _ _ f=>f.elim);refine A0 (E5 y (fun ok o l=>?_) fun _ _ f=>f.elim);rcases l with⟨rfl,l⟩|⟨rfl,l⟩
  .refine A0<|A0 (E5 l (fun x p z=>?_) fun _ _ f=>f.elim);exact A0 (E5 z (fun _ q B=>A3<|A3 ⟨rfl,B⟩) fun _ _ f=>f.elim)
  .exact A3 ⟨rfl,l⟩
def aCW{pos:Pos}(hs:∀x,foldedSetIterable a env x=pure x)(I:Nat->Ue->Prop)
 (j:∀n s,I n s->wpAny (model prog w) A (pyNext it) (fun r s1=>(r=Y/\R (.ok .next) s1)\/∃v,r=Z v /\
  wpAny (model prog w) A (letOwnedTupleGo tg it v) (fun _ s2=>wpAny (model prog w) A (assign tg env v) (fun _ s3=>
   wpAny (model prog w) A (forIn e true fun c r=>if r=true then(do
    let ok <- isTrue c env (eval c env)
    pure (ForInStep.yield ok))else pure (ForInStep.yield r)) (fun ok p=>
     (ok=true/\wpAny (model prog w) A (eval a env) (fun x t=>wpAny (model prog w) A (pyIter x) (fun k u=>∀R:Result->Ue->Prop,(∀q,(∃m,m<n/\I m q)->R (.ok .next) q)->codeAny (model prog w) A (.compStart (mQ g tg b e i a d scope pos) 1 k acc env) R u) 58 t) 58 p) \/
     (ok=false/\∃m,m<n/\I m p)) 58 s3) 58 s2) 58 s1) 58 s)
 (n:Nat) (h:I n s):codeAny (model prog w) A (.compLoop (mQ g tg b e i a d scope pos) 0 it acc env) R s:=by
 refine codeAny_loop rfl I (fun n s y=>?_) n h
 show wpAny _ A ((compTurn (mQ g tg b e i a d scope pos) 0 it acc env).onRaise fun x=>do
  noteFrame x env
  theTreesLotGoes x) _ _ s
 refine wpAny_noted ?_;refine A0<|Y6<|A0 (E5 (j n s y) (fun r s1 l=>?_) fun _ _ f=>f.elim);rcases l with⟨rfl,l⟩|⟨v,rfl,l⟩
 .exact A3 l
 .refine A0 (E5 l (fun _ s2 z=>?_) fun _ _ f=>f.elim);refine A0 (E5 z (fun _ s3 B=>?_) fun _ _ f=>f.elim);refine A0 (E5 B (fun ok p o=>?_) fun _ _ f=>f.elim);rcases o with⟨rfl,o⟩|⟨rfl,o⟩
  .refine A0 (E5 o (fun x t C=>?_) fun _ _ f=>f.elim);refine A0<|Y6<|A0<|wpAny_of_eq (hs x) ?_;refine A0<|J8 (E5 C (fun k u D=>?_) fun _ _ f=>f.elim);exact A0<|wpAny_runOwn (D _ fun q E=>A3 ⟨rfl,E⟩)
  .exact A3 ⟨rfl,o⟩
def YX{pos:Pos}
 (j:codeAny (model prog w) A (.compLoop (mQ d tg b e f a c scope pos) 1 it acc env) R s)
 (h:wpAny (model prog w) A (pyIter it) (fun g i=>codeAny (model prog w) A (.compLoop (mQ d tg b e f a c scope pos) 1 g acc env) R i)
  (notedBy (model prog w) A env fun x i=>R (.error x) i) s):
 codeAny (model prog w) A (.compStart (mQ d tg b e f a c scope pos) 1 it acc env) R s:=by
 refine codeAny_of_tree ?_;refine wpAny_notedAt ?_;refine A0<|wpAny_askSetting<|wpAny_ite ?_;split
 .first
   |exact A0<|A3<|A3<|And.intro rfl j
   |exact A3<|And.intro rfl j
 .first
   |exact A0<|A2e<|A0<|Y6<|A0 (E5 h (fun g i h'=>A3<|And.intro rfl h') fun _ _ x=>x)
   |(refine A0<|A2e ?_;show wpAny _ _ (standAt a.pos >>= _) _ _ s;exact A0<|Y6<|A0 (E5 h (fun g i h'=>A3<|And.intro rfl h') fun _ _ x=>x))
end
def tIn(n:TI)(g:TG)(o:TT)(p:TE)(N:Tf->St->Hp->Prop)(e:Tf):St->Hp->Prop:=fun j H=>n j H fun J q=>∃W:Nat->Nat->Tf->St->Hp->Prop,(∃m,W 0 m e j q)/\∀i m acc d H',W i m acc d H'->
 (J.stop i H'/\N acc d H') \/
 (J.go i H'/\acc.length<sizeLine/\∃h:Tf->St->Hp->Prop,(∀c a f,h c a f->∃k,k<m/\W (i+1) k c a f)/\∀x f,J.yld i H' x f->g x d f fun a r=>o a r fun b l=>(b=true/\p a l fun v s=>h (acc++[v]) a s)\/(b=false/\h acc a l))
def aGA(cap:T4)(n:TI)(g:TG)(o:TT)(f:TI)(q:TG)(h:TT)(r:TE):TE:=fun j H Q=>n j H fun J s=>∃W:Nat->Nat->Tf->St->Hp->Prop,(∃m,W 0 m [] (uU cap j) s)/\∀i m acc d H',W i m acc d H'->
 (J.stop i H'/\∀p,H' p=Y->Q (.ref p) (upd H' p (.lst acc))) \/
 (J.go i H'/\∃N:Tf->St->Hp->Prop,(∀c a e,N c a e->∃k,k<m/\W (i+1) k c a e)/\∀x e,J.yld i H' x e->g x d e fun a t=>o a t fun b l=>(b=true/\tIn f q h r N acc a l)\/(b=false/\N acc a l))
noncomputable abbrev lob(its:T6)(nn:Nat):Obj:={ cls:=.type "list",data:=.seq its.toArray nn }
def aCs{a:Cx}{Q tg G:Ug}{a6:Tb}{F j:Ug}{t:Tb}{sc:Scope}{pos:Pos}{a7:TI}{g2:TG}{a8:TT}{te:TE}(hY:∃X N' scope C sa Ha fp pn,a=bO X N' scope C sa Ha fp pn)(hc:a.calm=true)
 (hi:PI a F j a7) (hg:PG a F g2) (ai:uH a t a8) (he:PE a Q te) {pins:T3} {s:Ue} {y:St} {H:Hp} {D:Uf} {c:T6} {nn:Nat} {acc:Tf} {N:Tf->St->Hp->Prop}
 (I:Inv a pins y H s) (fD:lD a pins H D) (gD:s.heap.get? D=Z (lob c nn)) (va:bE acc c) (la:acc.length<=sizeLine) (h:tIn a7 g2 a8 te N acc y H):
 wpAny (model a.prog a.w) a.A (eval j a.env) (fun x s5=>wpAny (model a.prog a.w) a.A (pyIter x) (fun a9 s6=>∀R:Result->Ue->Prop,(∀s7,(∃f H' B L aj,Inv a pins f H' s7/\H' D=Y/\s7.heap.get? D=Z (lob L aj)/\bE B L/\B.length<=sizeLine/\N B f H')->R (.ok .next) s7)->
  codeAny (model a.prog a.w) a.A (.compStart (mQ Q tg G a6 F j t sc pos) 1 a9 (.ref D) a.env) R s6) 58 s5) 58 s:=by
 obtain⟨X,N',scope,C,sa,Ha,fp,pn,rfl⟩:=hY;obtain⟨d0,dl,df,dx,S,aa⟩:=fD
 have M:∀{c:T6}{nn:Nat}{y:St}{H:Hp}{s:Ue},Inv (bO X N' scope C sa Ha fp pn) pins y H s->H D=Y->s.heap.get? D=Z (lob c nn)->Inv (bO X N' scope C sa Ha fp pn) ([(D,lob c nn)]++pins) y H s:=fun I d g=>I.pins_of fun p hp=>by
  rcases C9.mp hp with hp|hp
  .rw[A6.mp hp];exact⟨g,d,dl,df,fun v z=>by cases z⟩
  .exact I.pin p<|B5 _ hp
 refine thn (hi ([(D,lob c nn)]++pins) s y H _ (M I d0 gD) h) fun v s5 h5=>thn h5 fun a9 s6 h6=>?_;obtain⟨it,m,tn,J,H6,e,I6,T,ab,f6,W,⟨m0,w0⟩,ac⟩:=h6;subst e;intro R hR
 have ae:∀{c:T6}{nn:Nat}{y:St}{H:Hp}{s:Ue},Inv (bO X N' scope C sa Ha fp pn) ([(D,lob c nn)]++pins) y H s->Inv (bO X N' scope C sa Ha fp pn) pins y H s/\H D=Y/\s.heap.get? D=Z (lob c nn):=fun{c nn y H s} I=>by
  have q:=I.pin (D,lob c nn)<|B5 _<|D9 _<|A6.mpr rfl;exact⟨I.pins_of fun p hp=>I.pin p<|B5 _<|B5 _ hp,q.2.1,q.1⟩
 have E:∀{Hx:Hp}{ob:Obj},(∀b∈m,Hx b=Y)->∀b∈m,lD (bO X N' scope C sa Ha fp pn) ([(D,ob)]++pins) Hx b:=fun{Hx ob} hn b k=>by
  obtain⟨_,a1,a2,a3,a4,a5⟩:=f6 b k;refine⟨hn b k,a1,a2,a3,a4,fun p hp=>?_⟩;rcases C9.mp hp with hp|hp
  .exact a5 p<|D9 _ hp
  .rcases C9.mp hp with hp|hp
   .rw[A6.mp hp];exact a5 (D,lob c nn)<|B5 _<|D9 _<|A6.mpr rfl
   .exact a5 p<|B5 _<|B5 _ hp
 have O:codeAny (model X.prog X.w) X.A (.compLoop (mQ Q tg G a6 F j t sc pos) 1 (.ref it) (.ref D) (bO X N' scope C sa Ha fp pn).env) R s6:=by
  obtain⟨u1,u2,u3⟩:=ae I6
  refine aEm (fun n s'=>∃(i:Nat)(f:St)(H':Hp)(acc:Tf)(c:T6)(nn:Nat),Inv (bO X N' scope C sa Ha fp pn) pins f H' s'/\tn i s'.heap/\(∀b∈m,H' b=Y)/\H' D=Y /\
   s'.heap.get? D=Z (lob c nn)/\bE acc c/\acc.length<=sizeLine/\W i n acc f H') ?_ m0 ⟨0,y,H6,acc,c,nn,u1,ab,fun b k=>(f6 b k).1,u2,u3,va,la,w0⟩
  rintro n s7 ⟨i,f,H',acc,c,nn,I7,t7,af,d7,g7,va,la,w7⟩;have I7p:=M I7 d7 g7;rcases ac i n acc f H' w7 with⟨stop,q⟩|⟨go,lt,N2,hN,step⟩
  .refine thn (T.done (bO X N' scope C sa Ha fp pn) rfl rfl rfl hc i _ s7 f H' _ I7p (E af) t7 stop) fun r s8 ⟨hr,I8⟩=>.inl ⟨hr,?_⟩;obtain⟨v1,v2,v3⟩:=ae I8;exact hR s8 ⟨f,H',acc,c,nn,v1,v2,v3,va,la,q⟩
  .refine thn (T.item (bO X N' scope C sa Ha fp pn) rfl rfl rfl hc i _ s7 f H' _ I7p (E af) t7 go) fun r s8 ⟨u,hr,h8⟩=>.inr ⟨u,hr,?_⟩;refine thn h8 fun _ s9 ⟨x,H9,I9,r9,y9,t9,ak⟩=>?_;have am:=I9.pinned (E ak) (T.obj _ _ t9)
   have P:∀{U:St}{Hx:Hp}{sx:Ue},Inv (bO X N' scope C sa Ha fp pn) (([(D,lob c nn)]++pins)++pE m s9.heap) U Hx sx->
    (∀b∈m,∀o,s9.heap.get? b=Z o->sx.heap.get? b=Z o)/\(∀b∈m,Hx b=Y)/\sx.heap.get? D=Z (lob c nn)/\Hx D=Y/\Inv (bO X N' scope C sa Ha fp pn) pins U Hx sx:=fun{U Hx sx} Ix=>by
    have q:=Ix.pin (D,lob c nn)<|B5 _<|D9 _<|D9 _<|A6.mpr rfl;refine⟨fun b k o e=>(Ix.pin (b,o)<|B5 _<|B5 _<|cN k e).1,fun b k=>?_,q.1,q.2.1,Ix.pins_of fun p hp=>Ix.pin p<|B5 _<|D9 _<|B5 _ hp⟩;obtain⟨o,e,_⟩:=T.obj _ _ t9 b k;exact(Ix.pin (b,o)<|B5 _<|B5 _<|cN k e).2.1
   refine thn (hg _ s9 f H9 x u _ am r9<|step x H9 y9) fun _ ao ⟨l,ap,aq,ar⟩=>?_;refine thn (ai _ ao l ap _ aq ar) fun b au ⟨ag,ah,a0⟩=>?_;rcases a0 with⟨rfl,a0⟩|⟨rfl,av⟩
   .refine .inl ⟨rfl,thn (he _ au l ag _ ah a0) fun uv b7 ⟨v,aw,ax,rv,ay⟩=>?_⟩;obtain⟨m',hm,az⟩:=hN _ _ _ ay;obtain⟨b1,b2,b3,b4,b5⟩:=P ax;refine wpAny_list_append_plain ⟨nn,b3⟩ (fun h' hp b0=>?_) (by rw[F4,<- va.length];exact la);obtain⟨n2,e2⟩:=hp;have up:=fun b o k e=>b0.extBut b o k e;refine⟨m',hm,i+1,l,aw,acc++[v],c++[uv],n2,b5.turned up b4 dl dx S aa,T.keep _ _ _ t9 fun b k o e=>up b o (S7<|(f6 b k).2.2.2.2.2 (D,_) (B5 _<|D9 _<|A6.mpr rfl))<|b1 b k o e,b2,b4,?_,va.append (.cons rv .nil),?_,az⟩
    .rw[e2];simp
    .rw[C1,D8];exact lt
   .obtain⟨m',hm,b6⟩:=hN _ _ _ av;obtain⟨b1,b2,b3,b4,b5⟩:=P ah;exact .inr ⟨rfl,m',hm,i+1,l,ag,acc,c,nn,b5,T.keep _ _ _ t9 b1,b2,b4,b3,va,la,b6⟩
 exact YX O<|T.self _ 0 _ _ _ ab O
section
variable{X:Cx}{N':Te}{cap:T4}{scope:Scope}
def VW{a3 tg k:Ug}{F:Tb}{B d:Ug}{l:Tb}{pos:Pos}{wi:TI}{g:TG}{tc:TT}{a6:TI}{g2:TG}{a7:TT}{te:TE}(hc:X.calm=true)(S:nI X N' cap scope)(hi:PI X tg k wi)
 (hg:∀C s H fp pn,PG (bO X N' scope C s H fp pn) tg g) (am:∀C s H fp pn,uH (bO X N' scope C s H fp pn) F tc) (ao:∀C s H fp pn,PI (bO X N' scope C s H fp pn) B d a6) (ap:∀C s H fp pn,PG (bO X N' scope C s H fp pn) B g2) (a8:∀C s H fp pn,uH (bO X N' scope C s H fp pn) l a7) (he:∀C s H fp pn,PE (bO X N' scope C s H fp pn) a3 te)
 (hs:∀x,foldedSetIterable k X.env x=pure x) (aq:∀(env:Env) x,foldedSetIterable d env x=pure x) {pins:T3} {s:Ue} {σ:St} {H:Hp} {Q:VK} (I:Inv X pins σ H s) (h:aGA cap wi g tc a6 g2 a7 te σ H Q)
 {use:Ub (Uc->Sem Unit)} {QQ:T2}
 (a9:∀(D C:Uf)(H':Hp)(acc:Tf)(s':Ue),D≠C->(∃m,s'.heap.Ns C m)->(∀h',Heap.SameBut C s'.heap h'->Inv X pins σ (upd H' D (.lst acc)) { s' with heap:=h' })->lD X pins (upd H' D (.lst acc)) C->Q (.ref D) (upd H' D (.lst acc))->compPost (model X.prog X.w) X.A X.xe use QQ (.ref D) C (.ok .next) s'):
 wpAny (model X.prog X.w) X.A (comprehension (mQ a3 tg k F B d l scope pos) scope X.env (firstIterPos [⟨tg,k,F,0⟩,⟨B,d,l,0⟩] pos) (newList []) false (firstIter [⟨tg,k,F,0⟩,⟨B,d,l,0⟩] X.env) use) QQ X.xe s:=by
 refine wpAny_comprehension_free rfl hs (vA<|S.cells I.ok) S.kind S.names ?_;refine thn (hi pins s σ H _ I h) fun v s1 h1=>thn h1 fun ar s2 h2=>?_;obtain⟨it,fp,tn,J,G,e,O,T,a4,f2,W,⟨m0,w0⟩,aa⟩:=h2;subst e
 have t:∀b∈fp,b<s2.heap.objs.size:=fun b a=>by
  obtain⟨o,e,_⟩:=T.obj _ _ a4 b a;exact B6 e
 refine E4<|wpAny_newFunctionEnv S.nocell (fun y hy=>by simp at hy) (fun ab ac ae=>?_) S.kind;generalize hP:s2.heap.push { cls:=.type "list",dict:=Y,data:=.seq ([]:T6).toArray }=P2 at ac ae ⊢;have af:P2.objs.size=s2.heap.objs.size+1:=by rw[<- hP,Y7]
 have E:s2.heap.objs.size≠P2.objs.size:=by rw[af];exact C3<|S6 _
 have hC:s2.heap.objs.size<=P2.objs.size:=by rw[af];exact A1t _
 have L:=fun b o e a=>ae.extBut b o a<|A2 _ e;have a5:=fun b o e=>L b o (by rw[<- hP];exact A2 _ e)<|C3<|C5 (B6 e) hC;have au:=L _ _ (by rw[<- hP];exact C2 _ rfl) E
 have I4:Inv (bO X N' scope P2.objs.size s2 G fp pins) [] (uU cap σ) G { s2 with heap:=ab,toks:=s2.toks+([]:Tx).length }:=
  DK S O f2 t hC (by simpa using ac) a5
 have a0:∀s4:Ue,s4={ s2 with heap:=ab,toks:=s2.toks+([]:Tx).length }->
  codeAny (model X.prog X.w) X.A (.compLoop (mQ a3 tg k F B d l scope pos) 0 (.ref it) (.ref s2.heap.objs.size) (compEnvC scope (eK X.env scope.names []) P2.objs.size X.env)) (compPost (model X.prog X.w) X.A X.xe use QQ (.ref s2.heap.objs.size) P2.objs.size) s4:=by
  rintro s4 rfl
  have a1:s2.heap.objs.size∉frs X.stack:=fun a=>by
   obtain⟨_,o,ho,_⟩:=O.stack.mem a;exact absurd (B6 ho)<|Y2 _
  have cne:∀x c,(eK X.env scope.names []).lookup x=Z c->c<s2.heap.objs.size:=fun x c e=>by
   obtain⟨v,q⟩:=O.cell x c<|S.sub O.ok x c e;exact q.lt
  have M:∀{Hx:Hp}{ob:Obj},(∀b∈fp,Hx b=Y)->∀b∈fp,lD (bO X N' scope P2.objs.size s2 G fp pins) [(s2.heap.objs.size,ob)] Hx b:=fun{Hx ob} hn b a=>by
   refine⟨hn b a,C3<|C5 (t b a) hC,O.stkAll (f2 b a).2.1 (f2 b a).2.2.1,.inl a,fun x c e=>(f2 b a).2.2.2.2.1 x c (S.sub O.ok x c e),fun p hp=>?_⟩;rcases C9.mp hp with z|z
   .exact(f2 b a).2.2.2.2.2 p z
   .rw[A6.mp z];exact O7<|t b a
  refine aCW (aq _) (fun n s'=>∃(i:Nat)(f:St)(H':Hp)(acc:Tf)(j:T6)(P:Nat),Inv (bO X N' scope P2.objs.size s2 G fp pins) [] f H' s'/\tn i s'.heap/\(∀b∈fp,H' b=Y)/\H' s2.heap.objs.size=Y /\
   s'.heap.get? s2.heap.objs.size=Z { cls:=.type "list",data:=.seq j.toArray P }/\bE acc j/\acc.length<=sizeLine/\W i n acc f H') ?_ m0
   ⟨0,uU cap σ,G,[],[],0,I4,T.keep _ _ _ a4 fun b _ o e=>a5 b o e,fun b a=>(f2 b a).1,O.hok.fresh<|A8 _,au,.nil,F9 _,w0⟩
  rintro n s5 ⟨i,f,H',acc,j,P,I5,t5,ag,d5,g5,va,la,w5⟩
  have I5p:Inv (bO X N' scope P2.objs.size s2 G fp pins) [(s2.heap.objs.size,{ cls:=.type "list",data:=.seq j.toArray P })] f H' s5:=I5.pins_of fun p hp=>by
   rw[A6.mp hp];exact⟨g5,d5,E,a1,fun v z=>by cases z⟩
  rcases aa i n acc f H' w5 with⟨stop,q⟩|⟨go,N,hN,step⟩
  .refine thn (T.done (bO X N' scope P2.objs.size s2 G fp pins) rfl rfl rfl hc i _ s5 f H' _ I5p (M ag) t5 stop) fun r s6 ⟨hr,I6⟩=>.inl ⟨hr,?_⟩;have d6:=(I6.pin (s2.heap.objs.size,{ cls:=.type "list",data:=.seq j.toArray P }) 53).1;have nC:=I6.free;refine a9 _ _ H' acc s6 E (let⟨m,hn,_⟩:=I6.loc;⟨m,hn⟩) (fun h' av=>?_) (O.fpOk hC (by rw[aL E.symm];exact nC))<|q _ d5;have up:=fun b o a e=>av.extBut b o a e;have U:∀b o,s2.heap.get? b=Z o->b≠P2.objs.size/\b≠s2.heap.objs.size:=fun b o e=>⟨C3<|C5 (B6 e) hC,C3<|B6 e⟩;have u6:=I6.base
   have u7:Un (frs X.stack) fp G (upd H' s2.heap.objs.size (.lst acc)) s2.heap h':=by
    refine⟨fun b o e n a hx=>up b o (U b o e).1 (u6.keep b o e n a hx),fun b o e n a hx=>?_,fun b o e n hx=>?_,fun b o e hx=>?_,fun b xs e=>?_,fun b o u e=>?_,fun b ps e=>?_⟩
    .obtain⟨sl,q⟩:=u6.slot b o e n a hx;exact⟨sl,up b _ (U b o e).1 q⟩
    .rw[aL (U b o e).2];exact u6.free b o e n hx
    .obtain⟨o',q⟩:=u6.there b o e hx;exact⟨o',up b o' (U b o e).1 q⟩
    .have z:=u6.tups b xs e;rw[aL (aQ z d5)];exact z
    .have z:=u6.frzs b o u e;rw[aL (aQ z d5)];exact z
    .obtain⟨more,z⟩:=u6.tbls b ps e;exact⟨more,by rw[aL (aQ z d5)];exact z⟩
   have aw:HOk X.prog X.w (upd H' s2.heap.objs.size (.lst acc)) h':=fun b u e=>by
    by_cases a:b=s2.heap.objs.size
    .subst a;rw[aT]at e;cases e;exact⟨la,j,P,va,up _ _ E d6⟩
    .rw[aL a]at e;refine(I6.hok b u e).stay (fun c v ax z=>up c v ?_ z) (fun c z=>by rw[aL (aQ z d5)];exact z) fun c xs z=>by rw[aL (aQ z d5)];exact z
     rcases ax with rfl|z
     .exact aQ e nC
     .exact aQ z nC
   have ay:=I6.os;have az:=I6.bare;obtain⟨hh,gg,dd,tt,oo⟩:=s6;subst ay;have z7:=O.call (d':=dd) (t':=tt) u7 aw az fun b a=>⟨(f2 b a).2.2.2.1,(f2 b a).2.1,(f2 b a).2.2.2.2.1,(f2 b a).2.2.2.2.2⟩;exact z7
  .refine thn (T.item (bO X N' scope P2.objs.size s2 G fp pins) rfl rfl rfl hc i _ s5 f H' _ I5p (M ag) t5 go) fun r s6 ⟨u,hr,h6⟩=>.inr ⟨u,hr,?_⟩;refine thn h6 fun _ s7 ⟨x,H7,I7,r7,y7,t7,b0⟩=>?_;have b5:=I7.pinned (M b0) (T.obj _ _ t7)
   have a2:∀{ah:St}{Hx:Hp}{sx:Ue},Inv (bO X N' scope P2.objs.size s2 G fp pins) ([(s2.heap.objs.size,{ cls:=.type "list",data:=.seq j.toArray P })]++pE fp s7.heap) ah Hx sx->
    (∀b∈fp,∀o,s7.heap.get? b=Z o->sx.heap.get? b=Z o)/\(∀b∈fp,Hx b=Y)/\sx.heap.get? s2.heap.objs.size=Z { cls:=.type "list",data:=.seq j.toArray P }/\Hx s2.heap.objs.size=Y:=fun{ah Hx sx} Ix=>by
    refine⟨fun b a o e=>(Ix.pin (b,o)<|B5 _<|B5 _<|cN a e).1,fun b a=>?_,?_,?_⟩
    .obtain⟨o,e,_⟩:=T.obj _ _ t7 b a;exact(Ix.pin (b,o)<|B5 _<|B5 _<|cN a e).2.1
    .exact(Ix.pin (s2.heap.objs.size,_)<|B5 _<|D9 _<|A6.mpr rfl).1
    .exact(Ix.pin (s2.heap.objs.size,{ cls:=.type "list",data:=.seq j.toArray P })<|B5 _<|D9 _<|A6.mpr rfl).2.1
   refine thn (hg _ _ _ _ _ _ s7 f H7 x u _ b5 r7<|step x H7 y7) fun _ s8 ⟨ai,H8,I8,q8⟩=>?_;refine thn (am _ _ _ _ _ _ s8 ai H8 _ I8 q8) fun b s9 ⟨H9,I9,q9⟩=>?_;rcases q9 with⟨rfl,q9⟩|⟨rfl,n9⟩
   .obtain⟨b1,b2,b3,b4⟩:=a2 I9
    have fD:lD (bO X N' scope P2.objs.size s2 G fp pins) (pE fp s7.heap) H9 s2.heap.objs.size:=by
     refine⟨b4,E,a1,.inr (A8 _),fun x c e=>C3<|cne x c e,fun p hp=>?_⟩;rcases C9.mp hp with hp|hp
     .exact C3<|B6 (O.pin p hp).1
     .exact C3<|t p.1 (HG hp).1
    refine .inl ⟨rfl,thn (aCs ⟨_,_,_,_,_,_,_,_,rfl⟩ hc (ao _ _ _ _ _) (ap _ _ _ _ _) (a8 _ _ _ _ _) (he _ _ _ _ _) (I9.pins_of fun p hp=>I9.pin p<|B5 _<|B5 _ hp) fD b3 va la q9) fun x bb b6=>thn b6 fun ar bc b7 R hR=>b7 R fun b8 ⟨f,H',aj,ak,b9,J1,J2,J3,J4,J5,J6⟩=>hR b8 ?_⟩;obtain⟨m',hm,ba⟩:=hN _ _ _ J6;refine⟨m',hm,i+1,f,H',aj,ak,b9,J1.pins_of fun p hp=>absurd hp 53,T.keep _ _ _ t7 fun b a o e=>(J1.pin (b,o)<|B5 _<|cN a e).1,fun b a=>?_,J2,J3,J4,J5,ba⟩;obtain⟨o,e,_⟩:=T.obj _ _ t7 b a;exact(J1.pin (b,o)<|B5 _<|cN a e).2.1
   .obtain⟨m',hm,w9⟩:=hN _ _ _ n9;obtain⟨b1,b2,b3,b4⟩:=a2 I9;exact .inr ⟨rfl,m',hm,i+1,ai,H9,acc,j,P,I9.pins_of fun p hp=>absurd hp 53,T.keep _ _ _ t7 b1,b2,b4,b3,va,la,w9⟩
 exact codeAny_compStart_list (a0 _ rfl)<|T.self _ 0 _ _ _ (T.keep _ _ _ a4 fun b _ o e=>a5 b o e)<|a0 _ rfl
def pe_lcT{pos:Pos}(w:X.calm=true)(S:nI X N' cap scope)(hi:PI X tg b r)
 (y:∀C s H fp pn,PG (bO X N' scope C s H fp pn) tg g) (l:∀C s H fp pn,uH (bO X N' scope C s H fp pn) f t) (n:∀C s H fp pn,PI (bO X N' scope C s H fp pn) d a i) (o:∀C s H fp pn,PG (bO X N' scope C s H fp pn) d u) (k:∀C s H fp pn,uH (bO X N' scope C s H fp pn) c j) (z:∀C s H fp pn,PE (bO X N' scope C s H fp pn) e v)
 (hs:∀x,foldedSetIterable b X.env x=pure x:=by intro _;rfl) (p:∀(env:Env) x,foldedSetIterable a env x=pure x:=by intro _ _;rfl):PE X (mQ e tg b f d a c scope pos) (aGA cap r g t i u j v):=by
 intro pins s F H Q I h;refine VW w S hi y l n o k z hs p I h fun D C H' acc G A ⟨m,hn⟩ B _ E=>⟨m,hn,fun h' q=>?_⟩;exact⟨.ref D,_,B h' q,rfl,E⟩
def aAt{i:Nat}{x:Str}{l tg d:Ug}{n:Tb}{k c:Ug}{f:Tb}{pos pos' j:Pos}{M:TI}{g:TG}{O:TT}{q:TI}{P:TG}{r:TT}{Q:TE}(U:X.N.Nodup)(u:X.N[i]?=Z x)(V:X.calm=true)(S:nI X N' cap scope)(hi:PI X tg d M)
 (W:∀C s H fp pn,PG (bO X N' scope C s H fp pn) tg g) (y:∀C s H fp pn,uH (bO X N' scope C s H fp pn) n O) (A:∀C s H fp pn,PI (bO X N' scope C s H fp pn) k c q) (B:∀C s H fp pn,PG (bO X N' scope C s H fp pn) k P) (t:∀C s H fp pn,uH (bO X N' scope C s H fp pn) f r) (he:∀C s H fp pn,PE (bO X N' scope C s H fp pn) l Q)
 (F:swapsWith (mQ l tg d n k c f scope pos) (Z (.Name x pos')) j.line X.env=pure true:=by rfl) (R:X.env.scope.names.lookup x=Z .local:=by rfl)
 (hs:∀x,foldedSetIterable d X.env x=pure x:=by intro _;rfl) (p:∀(env:Env) x,foldedSetIterable c env x=pure x:=by intro _ _;rfl):PS X (.Assign [.Name x pos'] (mQ l tg d n k c f scope pos) j) (aBw (aGA cap M g O q P r Q)<|NB i):=by
 intro pins s σ H D I h;rw[exec_Assign_Name_used _ _ _ _ F];refine A0<|Y6<|A0 ?_;refine A0 (thn (VW V S hi W y A B t he hs p I h fun E C H' acc T a0 ⟨m,hn⟩ hI fC hq=>?_) fun _ T hz=>A3<|A3 hz);have I1:=hI T.heap<|A1u ..;refine wpAny_assign_Name<|yI I1 U u (.inl R) (v:=.ref E) rfl (fun s2 I2 G=>?_) (.inr R);obtain⟨a,p,ha⟩:=G
 have J:C≠a:=by
  rcases ha with z|z
  .rw[z];exact fC.2.1
  .exact fun w=>fC.2.2.2.2.1 x a z w.symm
 refine⟨m,hn.extBut p.extBut J,fun h' L=>?_⟩;exact⟨_,_,I2.turned (fun b o hb e=>L.extBut b o hb e) fC.1 fC.2.1 fC.2.2.2.1 fC.2.2.2.2.1 fC.2.2.2.2.2,hq⟩
end
def lcG(g:GF)(c:TF)(e:EF):T8->Ga->Sto->Ub ((T8×Ga)×Sto)
 |[],d,M=>Z (([],d),M)
 |x::xs,d,M=>(g x d M).bind fun a=>(c a.1 a.2).bind fun b=>if b.1=true then(e a.1 b.2).bind fun r=>(lcG g c e xs a.1 r.2).bind fun q=>Z ((r.1::q.1.1,q.1.2),q.2)else lcG g c e xs a.1 b.2
def PP(g:GF)(c:TF)(d:AF)(f:GF)(h:TF)(e:EF):T8->Ga->Sto->Ub (T8×Sto)
 |[],i,M=>Z ([],M)
 |x::xs,i,M=>(g x i M).bind fun a=>(c a.1 a.2).bind fun b=>if b.1=true then(d a.1 b.2).bind fun r=>(lcG f h e r.1 a.1 r.2).bind fun q=>(PP g c d f h e xs q.1.2 q.2).bind fun z=>Z (q.1.1++z.1,z.2)else PP g c d f h e xs a.1 b.2
def aBZ(cap:T4)(f:AF)(g:GF)(c:TF)(f2:AF)(b:GF)(h:TF)(e:EF):EF:=fun a M=>(f a M).bind fun r=>(PP g c f2 b h e r.1 (tI cap a) r.2).bind fun q=>(jL q.1).bind fun ds=>if ds.length<sizeLine then Z (.d (.list ds),q.2)else Y
section
variable{K:Fg}{tg:TG}{tt:TT}{hg:GF}{ft:TF}{fa:AF}{tg2:TG}{tt2:TT}{hg2:GF}{ft2:TF}{fa2:AF}{te:TE}{fe:EF}
def aLg{wi:TI}(i:SI K wi fa)(a:SG K tg hg)(c:STt K tt ft)(b:SE K te fe){γ n:Ga}{M M1 M':Sto}{ys A:T8}(h1:fa γ M=Z (ys,M1))(hh:lcG hg ft fe ys γ M1=Z ((A,n),M'))
 {W:Wd} {H:Hp} {Q:St} {N:Tf->St->Hp->Prop} {pre:T8} {acc:Tf} (G:Good K W M H) (R:cF K W γ Q) (rp:bR K W pre acc) (hl:pre.length+A.length<sizeLine)
 (k:∀s f W' H',W.Ext W'->Good K W' M' H'->cF K W' n f->bR K W' (pre++A) s->N s f H'):tIn wi tg tt te N acc Q H:=by
 refine i _ _ _ _ h1 W H Q _ G R fun J W1 H1 S G1 gv=>?_
 refine⟨fun j m acc f H'=>∃w M2 t d o,j<=ys.length/\m=ys.length-j/\W1.Ext t/\Good K t M2 H'/\cF K t w f/\bR K t d acc/\d++o=pre++A/\lcG hg ft fe (ys.drop j) w M2=Z ((o,n),M'),
  ⟨_,γ,M1,W1,pre,A,F9 _,rfl,.refl _,G1,R.up S,bR.up rp S,rfl,hh⟩,?_⟩
 rintro j m acc f H' ⟨w,M2,t,d,o,hj,rfl,T,G2,R2,p,C,l⟩;obtain⟨U,X⟩:=gv t M2 H' T G2;by_cases x:j<ys.length
 .obtain⟨go,yl⟩:=U j ys[j]<|C0 x;rw[A0e x]at l
  have la:acc.length<sizeLine:=by
   have l1:=A0h List.length C;rw[C1,C1]at l1;have l2:=Paired.len p;omega
  refine .inr ⟨go,la,fun u D I=>∃q L B g h,t.Ext B/\Good K B L I/\cF K B q D/\bR K B g u/\g++h=pre++A/\lcG hg ft fe (ys.drop (j+1)) q L=Z ((h,n),M'),?_,fun y I hy=>?_⟩
  .rintro u D I ⟨q,L,B,g,h,e3,G3,R3,a0,a1,h3⟩;exact⟨_,50,q,L,B,g,h,x,rfl,T.trans e3,G3,R3,a0,a1,h3⟩
  .obtain⟨W8,e8,G8,ry⟩:=yl y I hy;obtain⟨⟨E,M4⟩,h4,l⟩:=aI l;obtain⟨⟨b5,M5⟩,h5,l⟩:=aI l;refine a _ _ _ _ _ h4 W8 _ f y _ G8 (R2.up e8) ry fun F W4 H4 e4 G4 O=>?_;refine c _ _ _ _ h5 W4 H4 F _ G4 O fun W5 H5 P G5=>?_;have r:=(e8.trans e4).trans P;cases b5 with
   |true=>
    obtain⟨⟨z,M6⟩,h6,l⟩:=aI l;obtain⟨⟨⟨a2,a3⟩,M7⟩,h7,l⟩:=aI l;cases l;refine .inl ⟨rfl,b _ _ _ _ h6 W5 H5 F _ G5 (O.up P) fun v W6 H6 e6 G6 r6=>?_⟩;exact⟨E,M6,W6,d++[z],a2,r.trans e6,G6,O.up<|P.trans e6,Paired.app (bR.up p<|r.trans e6) (.cons r6 .nil),by rw[<- C,Y4];rfl,h7⟩
   |false=>
    exact .inr ⟨rfl,E,M5,W5,d,o,r,G5,O.up P,bR.up p r,C,l⟩
 .have e:j=ys.length:=50
  subst e;rw[A1r]at l;cases l;rw[L6]at C;subst C;exact .inl ⟨X,k acc f t H' (S.trans T) G2 R2 p⟩
def aLU{wi w:TI}{cap:T4}(i:SI K wi fa)(a:SG K tg hg)(c:STt K tt ft)(i2:SI K w fa2)(a2:SG K tg2 hg2)(c2:STt K tt2 ft2)(b:SE K te fe):SE K (aGA cap wi tg tt w tg2 tt2 te) (aBZ cap fa hg ft fa2 hg2 ft2 fe):=by
 intro γ M x M' h W H σ Q G R kk;obtain⟨⟨r,M1⟩,h1,h⟩:=aI h;obtain⟨⟨xs,M9⟩,h9,h⟩:=aI h;obtain⟨ds,z,h⟩:=aI h;by_cases I:ds.length<sizeLine
 .rw[A7 I]at h;cases h;have a4:xs.length<sizeLine:=by rw[<- DR z];exact I
  refine i _ _ _ _ h1 W H σ _ G R fun J W1 H1 e1 G1 gv=>?_
  refine⟨fun j m acc k H'=>∃s M2 t pre l,j<=r.length/\m=r.length-j/\W1.Ext t/\Good K t M2 H'/\cF K t s k/\bR K t pre acc/\pre++l=xs/\PP hg ft fa2 hg2 ft2 fe (r.drop j) s M2=Z (l,M9),
   ⟨_,tI cap γ,M1,W1,[],xs,F9 _,rfl,.refl _,G1,DS (R.up e1) cap,.nil,rfl,h9⟩,?_⟩
  rintro j m acc k H' ⟨s,M2,t,pre,l,hj,rfl,L,G2,R2,N,A,d⟩;obtain⟨O,P⟩:=gv t M2 H' L G2;by_cases u:j<r.length
  .obtain⟨go,yl⟩:=O j r[j]<|C0 u;rw[A0e u]at d;refine .inr ⟨go,fun q B D=>∃n E v f g,t.Ext v/\Good K v E D/\cF K v n B/\bR K v f q/\f++g=xs/\PP hg ft fa2 hg2 ft2 fe (r.drop (j+1)) n E=Z (g,M9),?_,fun y D hy=>?_⟩
   .rintro q B D ⟨n,E,v,f,g,F,S,R3,T,U,h3⟩;exact⟨_,50,n,E,v,f,g,u,rfl,L.trans F,S,R3,T,U,h3⟩
   .obtain⟨W8,e8,G8,ry⟩:=yl y D hy;obtain⟨⟨V,M4⟩,h4,d⟩:=aI d;obtain⟨⟨b5,M5⟩,h5,d⟩:=aI d;refine a _ _ _ _ _ h4 W8 _ k y _ G8 (R2.up e8) ry fun X W4 H4 e4 G4 R4=>?_;refine c _ _ _ _ h5 W4 H4 X _ G4 R4 fun W5 H5 e5 G5=>?_;have o:=(e8.trans e4).trans e5;cases b5 with
    |true=>
     obtain⟨⟨us,M6⟩,h6,d⟩:=aI d;obtain⟨⟨⟨zs,a0⟩,M7⟩,h7,d⟩:=aI d;obtain⟨⟨ws,M8⟩,h8,d⟩:=aI d;cases d
     have C:pre.length+zs.length<sizeLine:=by
      have:=A0h List.length A;simp only[C1]at this;omega
     refine .inl ⟨rfl,aLg i2 a2 c2 b h6 h7 G5 (R4.up e5) (bR.up N o) C fun a3 k W' H' e' G' R' a1=>?_⟩;exact⟨a0,M7,W',pre++zs,ws,o.trans e',G',R',a1,by rw[<- A,Y4],h8⟩
    |false=>
     exact .inr ⟨rfl,V,M5,W5,pre,l,o,G5,R4.up e5,bR.up N o,A,d⟩
  .have e:j=r.length:=50
   subst e;rw[A1r]at d;cases d;rw[L6]at A;subst A;refine .inl ⟨P,fun p hp=>?_⟩;obtain⟨F,S⟩:=G2.lay hp;exact kk _ _ _ ((e1.trans L).trans F) S ⟨p,acc,rfl,SqL.of aT,aM.same F.ff _ _<|fG z N⟩
 .rw[B7 I]at h;cases h
end
section
variable{K:Fg}{ι:Type}{X:ι->Cx}{N':Te}{cap:T4}{scope:Scope}{tg iter elt tg2 iter2:Ug}{ifs ifs2:Tb}{pos:Pos}{fa fa2:AF}{gf gf2:GF}{ft ft2:TF}{f:EF}
def aAg(i:Nat){b:Str}{a:Pos}(p:∀j,(X j).N.Nodup)(q:∀i,(X i).calm=true)(S:∀i,nI (X i) N' cap scope)(x:MI K X tg iter fa)(y:MG K (jD X N' scope) tg gf)(z:MF K (jD X N' scope) ifs ft)(r:MI K (jD X N' scope) tg2 iter2 fa2)(A:MG K (jD X N' scope) tg2 gf2)(B:MF K (jD X N' scope) ifs2 ft2)(w:ME K (jD X N' scope) elt f)
 (c:∀j,(X j).N[i]?=Z b:=by intro _;rfl) (d:∀j,swapsWith (.ListComp elt [⟨tg,iter,ifs,0⟩,⟨tg2,iter2,ifs2,0⟩] scope pos) (Z (.Name b pos')) a.line (X j).env=pure true:=by intro _;rfl) (D:∀j,(X j).env.scope.names.lookup b=Z .local:=by intro _;rfl)
 (hs:∀(env:Env)(x:Uc),foldedSetIterable iter env x=pure x:=by intro _ _;rfl) (e:∀(env:Env)(x:Uc),foldedSetIterable iter2 env x=pure x:=by intro _ _;rfl):
 MS K X (.Assign [.Name b pos'] (.ListComp elt [⟨tg,iter,ifs,0⟩,⟨tg2,iter2,ifs2,0⟩] scope pos) a) (aW (aBZ cap fa gf ft fa2 gf2 ft2 f)<|hName i):=by
 obtain⟨t,E,F⟩:=x.ex;obtain⟨u,G,I⟩:=y.ex;obtain⟨v,J,L⟩:=z.ex;obtain⟨P,g,h⟩:=r.ex;obtain⟨Q,k,l⟩:=A.ex;obtain⟨R,m,n⟩:=B.ex;obtain⟨o,M,O⟩:=w.ex;exact⟨_,fun i=>aAt (p i) (c i) (q i) (S i) (E i) (fun C s H fp pn=>G (i,C,s,H,fp,pn)) (fun C s H fp pn=>J (i,C,s,H,fp,pn)) (fun C s H fp pn=>g (i,C,s,H,fp,pn)) (fun C s H fp pn=>k (i,C,s,H,fp,pn)) (fun C s H fp pn=>m (i,C,s,H,fp,pn)) (fun C s H fp pn=>M (i,C,s,H,fp,pn)) (d i) (D i) (hs _) e,KZ (aLU F I L h l n O) AK⟩
end
def aIA:V->Tf->Hp->VK->Prop:=fun x vs H Q=>∃l xs y,x=.ref l/\vs=[.int 0,y]/\H l=Z (.lst xs)/\xs.length<sizeLine/\Q .non (upd H l (.lst (y::xs)))
def aGf:MtM X "list.insert" aIA:=by
 intro pins s i H x vs v us Q I c d h;obtain⟨l,xs,y,rfl,rfl,b,j,q⟩:=h;cases c;obtain⟨u0,u,rfl,f,g⟩:=d.two;obtain⟨t,rfl⟩:=f;obtain⟨z,a,n,r,k,e⟩:=I.lstM b;refine call_meets F.slot_list_insert ⟨_,e,rfl⟩ F.entry_list_insert (F.args_list_insert_3 _ _ _) (PySem.AutoSeq1.list_insert_list_int_val_1 l a.toArray n 0 t u 52 54) ⟨e,?_⟩;refine⟨.non,_,I.lset b e ?_ (.cons g r) ?_,rfl,q⟩
 .show(a.toArray.extract 0 (if (0:Int)<0 then((0:Int)+(a.toArray.size:Int)).toNat else min (0:Int).toNat a.toArray.size)).push u++a.toArray.extract (if (0:Int)<0 then((0:Int)+(a.toArray.size:Int)).toNat else min (0:Int).toNat a.toArray.size)=(u::a).toArray;simp
 .rw[D3];omega
def ER:FM:=fun x a M=>match x,a with
 |.c i,[.d (.int 0),y]=>match M[i]? with
  |some (.lst xs)=>if xs.length<sizeLine then Z (.d .none,M.set i (.lst (y::xs)))else Y
  |_=>Y
 |_,_=>Y
def aHc:PM K aIA ER:=by
 intro x j M z M' h W H v vs Q G d rs k;unfold ER at h;split at h
 .rename_i i y;split at h
  .rename_i xs b;by_cases a:xs.length<sizeLine
   .rw[A7 a]at h;cases h;obtain⟨us,e,c⟩:=G.lstAt b;rcases rs with _|⟨f,_|⟨g,_|_⟩⟩;refine⟨W.α i,us,_,d.2,by rw[show _=V.int 0 from f],e,by rw[<- Paired.len c];exact a,?_⟩;exact k _ W _ (.refl _) (G.set b 53 (.cons g c)) rfl
   .rw[B7 a]at h;cases h
  .cases h
 .cases h
def aGM{ι:Type}{X:ι->Cx}{e a:Ug}{fa:AF}{apos cpos:Pos}(b:∀i,(X i).K=K)(x:ME K X o f)(y:MA K X [e,a] fa)(c:∀env:Env,attributeBase o "insert" env (eval o env)=eval o env:=by intro _;rfl)(d:(apos.endLine==cpos.line)=true:=by rfl):
 ME K X (.Call (.Attribute o "insert" apos) [e,a] [] cpos) (cZ "list" ER f fa):=by
 obtain⟨t,g,h⟩:=x.ex;obtain⟨u,j,k⟩:=y.ex;refine⟨_,fun i=>?_,WZ aHc h k⟩;have:=aIF A1j F.slot_list_insert F.type_list_insert aGf (g i) (j i) (c _) (by rw[y.st.1,y.st.2.1];rfl) d (y.st.1 _)<|y.st.2.plain _ _;rw[b i]at this;exact this
abbrev emS(b:Bool):Obj:={ cls:=.type "set",dict:=Y,data:=.set #[] 0 (.fresh 0 0 b) }
section
variable{prog:Uh}{w:World}{A:Ui}{E:T2}{s:Ue}
def aAl{x:Uc}{Q:T2}
 (hi:∀b,wpAny (model prog w) A.in1.in1 (Builtin.«set.__init__» ⟨[.ref s.heap.objs.size,x],[]⟩) (fun a c=>a=.done (.ret .none)/\Q (.ref s.heap.objs.size) c) 58 { s with heap:=s.heap.push (emS b) }):
 wpAny (model prog w) A (call (.type "set") [x]) Q E s:=by
 have TC:=F.called_set;obtain⟨j,g,k⟩:=TC.mro;have l:=TC.made;have m:=TC.sub;have n:=TC.notType;have o:=TC.canCreate;have p:=F.typeCall_set_1 x;refine wpAny_call<|codeAny_of_tree (?_:wpAny _ _ (callAny (.type "set") _) _ _ _);refine A3 ⟨Code.quiet_builtin _ 53,A1o F.entry_type_call ?_⟩;rw[Around.under_plain (weight_type_call_type "set" [x] []) rfl]
 repeat any_goals first|assumption|wp_step
 refine A0z (code_set_new_1 x (E:=E) (Q₁:=fun v s1=>∃b,v=.ref s.heap.objs.size/\s1={ s with heap:=s.heap.push (emS b) }) fun b=>⟨b,rfl,rfl⟩) fun r s1 f=>?_;rcases r with e|fl
 .exact f
 rcases fl with _|_|_|v
 all_goals first|(exact False.elim f)|skip
 obtain⟨b,rfl,rfl⟩:=f;have ty:Shared.TypeIs { s with heap:=s.heap.push (emS b) } (.ref s.heap.objs.size) "set":=⟨_,C2 _ rfl,rfl⟩;have q:=TC.init.lookup;have t:=TC.init.bind (.ref s.heap.objs.size)
 repeat any_goals first|assumption|wp_step
 refine A0z (codeAny_call_builtin (R:=wants (fun r c=>r=.none/\Q (.ref s.heap.objs.size) c) fun _ _=>False) TC.init.plain F.entry_set_init<|check_set_init_1 ty ?_) fun i s2 d=>?_
 .refine E5 (hi b) (fun a c h=>?_) fun _ _ h=>h;obtain⟨rfl,h⟩:=h;exact⟨rfl,h⟩
 .rcases i with e|fl
  .exact False.elim d
  rcases fl with _|_|_|v
  all_goals first|(exact False.elim d)|skip
  obtain⟨rfl,d⟩:=d
  repeat any_goals first|assumption|wp_step
def PV{l:Uf}{items:Tl}{Ps:Heap->Prop}{Q:T2}(u:A.handled=Y)(p:s.heap.IsList l items\/s.heap.IsTuple l items)
 (g:∀(b:Bool)(j:Obj)(St:Nat->Heap->Prop)(R:Result->Ue->Prop),Walks prog w A.in1.in1.in1 (s.heap.objs.size+1) [s.heap.objs.size+1,l] [s.heap.objs.size+1] items.size (fun i v=>items[i]?=Z v) St->St 0 ((s.heap.push<|emS b).push j)->s.heap.objs.size∉[s.heap.objs.size+1,l]->
  (∀f,Moved (s.heap.objs.size::[s.heap.objs.size+1]) (fun a b=>b=a) { s with heap:=(s.heap.push (emS b)).push j } f->Ps f.heap->R (.ok (.ret .none)) f)->codeAny (model prog w) A.in1.in1 (.builtin "set.update.loop" ⟨[.ref s.heap.objs.size,.ref (s.heap.objs.size+1)],[]⟩) R { s with heap:=(s.heap.push (emS b)).push j })
 (h:∀(h':Heap)(tk:Nat),Ps h'->(∀b o,s.heap.get? b=Z o->h'.get? b=Z o)->Q (.ref s.heap.objs.size) { s with heap:=h',toks:=tk }):
 wpAny (model prog w) A (call (.type "set") [.ref l]) Q E s:=by
 have k:A.in1.in1.in1.handled=Y:=u;refine aAl fun b=>?_
 have lt:l<s.heap.objs.size:=by
  rcases p with⟨o,r,_⟩|⟨o,r,_⟩<;>exact B6 r
 have kp:∀c o,s.heap.get? c=Z o->(s.heap.push<|emS b).get? c=Z o:=fun c o e=>A2 _ e;have n:(s.heap.push<|emS b).objs.size=s.heap.objs.size+1:=Y7 ..
 have ne:s.heap.objs.size∉[s.heap.objs.size+1,l]:=fun hm=>by
  rcases B8.mp hm with e|hm
  .exact C3 (S6 _) e
  .exact O7 lt<|A6.mp hm
 have m:∀{j:Obj}(f:Ue),Moved (s.heap.objs.size::[s.heap.objs.size+1]) (fun a b=>b=a) { s with heap:=(s.heap.push<|emS b).push j } f->Ps f.heap->Q (.ref s.heap.objs.size) f:=fun{j} f hm z=>by
  rw[Moved.eq_with hm];refine h _ _ z fun c o e=>hm.heap c o (fun x=>?_)<|A2 _<|kp c o e;have:=B6 e;rcases B8.mp x with q|q
  .exact C3 this q
  .exact C3 (Nat.lt_succ_of_lt this)<|A6.mp q
 unfold Builtin.«set.__init__» noKeywords Builtin.Frozenset.updateFrom;generalize t:@pyIter=PI;rcases p with hl|hl
 .have d:(s.heap.push<|emS b).IsList l items:=hl.push _;have ty:Shared.TypeIs { s with heap:=s.heap.push (emS b) } (.ref l) "list":=d.typeIs;have f1:=F.sub_list_set;have f2:=F.sub_list_frozenset;have y:(Value.type "list"==Value.type "dict")=false:=52
  wp_walk using A1a ty,A0w ty f1,A0w ty f2
  subst t;refine wpAny_pyIter_list d<|A0<|wpAny_runValue ?_;have W:=Walks.list (prog:=prog) (w:=w) k (s.heap.objs.size+1) l (C3<|Nat.lt_succ_of_lt lt) items;rw[n];exact g b _ _ _ W ⟨⟨_,by rw[<- n];exact C2 _ rfl,rfl,rfl⟩,d.push _⟩ ne fun f hm z=>A3<|A3 ⟨rfl,m f hm z⟩
 .have d:(s.heap.push<|emS b).IsTuple l items:=hl.at fun o e=>kp _ o e;have ty:Shared.TypeIs { s with heap:=s.heap.push (emS b) } (.ref l) "tuple":=d.typeIs;have f1:=F.sub_tuple_set;have f2:=F.sub_tuple_frozenset;have y:(Value.type "tuple"==Value.type "dict")=false:=52
  wp_walk using A1a ty,A0w ty f1,A0w ty f2
  subst t;refine A0k d<|A0<|wpAny_runValue ?_;have W:=Walks.tuple (prog:=prog) (w:=w) k (s.heap.objs.size+1) l (C3<|Nat.lt_succ_of_lt lt) items;rw[n];exact g b _ _ _ W ⟨⟨_,by rw[<- n];exact C2 _ rfl,rfl,rfl⟩,d.at fun o e=>A2 _ e⟩ ne fun f hm z=>A3<|A3 ⟨rfl,m f hm z⟩
def aAm{Q:T2}(a:A.handled=Y)(c:s.heap.IsList l items\/s.heap.IsTuple l items)(hi:IntsAre items.toList ns)(hn:ns.length<1000)
 (h:∀(h':Heap)(tk:Nat),h'.SetOf (intKind prog w) s.heap.objs.size (fun k=>(firstMet (fun i=>ns.getD i 0) items.size).any (·==k)) (firstMet (fun i=>ns.getD i 0) items.size).length->(∀b o,s.heap.get? b=Z o->h'.get? b=Z o)->Q (.ref s.heap.objs.size) { s with heap:=h',toks:=tk }):
 wpAny (model prog w) A (call (.type "set") [.ref l]) Q E s:=by
 have sz:items.size=ns.length:=by rw[<- E8];exact hi.length
 have bd:items.size+1<scanBound:=by unfold scanBound;omega
 refine PV (Ps:=fun h'=>h'.SetOf (intKind prog w) s.heap.objs.size (fun k=>(firstMet (fun i=>ns.getD i 0) items.size).any (·==k)) (firstMet (fun i=>ns.getD i 0) items.size).length) a c (fun b e St R W st ne d=>?_) h;refine codeAny_set_update_loopS W.toS _ ne (fun i=>ns.getD i 0) (fun i v f=>IntsAre.int_at hi i v 54) bd items.size 0 _ (Nat.sub_zero _) (F9 _) st ?_ d;exact SetOf_congr ((setObjOf_fresh (knd:=intKind prog w) b).setOf (A2 _<|C2 _ rfl) 50) 51 rfl
end
section
variable{X:Cx}{a:Ug}{ta:TA}{p p' pos pos':Pos}
def aAF(K:Fg)(ta:TA):TE:=fun c H Q=>ta c H fun vs b=>∃(p:Uf)(ns:Ta),vs=[.ref p]/\(SqL K b p (ns.map .int)\/SqT K b p (ns.map .int))/\ns.length<64/\Q (.int ((qA ns).length:Nat)) b
def aHi(m:X.calm=true)(n:Gl X "set")(hm:X.mg "set"=Y)(f:Gl X "len")(g:X.mg "len"=Y)(ha:PA X [a] ta)(hs:starEach [a] X.env=[(false,eval a X.env)]):
 PE X (.Call (.Name "len" p) [.Call (.Name "set" p') [a] [] pos'] [] pos) (aAF X.K ta):=by
 intro pins s v H Q I h;refine Y9<|iH I f g (u:=.builtin "len") rfl ?_ 52 52;refine A0n ?_ tF rfl;rw[tF];show wpAny _ _ (spliced ((false,eval (.Call (.Name "set" p') [a] [] pos') X.env)::[])) _ _ s;refine A0y ?_;refine Call_<|iH I n hm (u:=.type "set") rfl<|U6 (thn (ha pos' pins s v H _ I h) fun us s1 ⟨vs,w,d,x,y⟩=>?_) hs rfl;obtain⟨j,ns,e,sq,z,q⟩:=y;subst e;cases x with
 |cons r A=>
  cases A;cases r
  have sm:∃b,(s1.heap.IsList j b\/s1.heap.IsTuple j b)/\IntsAre b.toList ns:=by
   rcases sq with sq|sq
   .obtain⟨c,i,k,B⟩:=d.list sq;exact⟨c.toArray,.inl k.isList,by simpa using intsAre_of i⟩
   .obtain⟨c,i,k,B⟩:=d.tuple sq;exact⟨c.toArray,.inr k,by simpa using intsAre_of i⟩
  obtain⟨b,C,hi⟩:=sm;refine aAm (d.ok.hd m) C hi 50 fun h' tk l D=>A1s ?_;have sz:b.size=ns.length:=by rw[<- E8];exact hi.length
  rw[sz,vE]at l;obtain⟨o,es,ep,t,E,F,hd,_,_,_,G,len⟩:=l;have dl:=aHw ns;refine call_len_set E F hd G 50 ?_;rw[len];exact⟨.int ((qA ns).length:Nat),w,(d.kept (t':=tk) D).tok _,⟨_,rfl⟩,q⟩
end
section
variable{K:Fg}{tA:TA}{fa:AF}
def OI(ds:T5)(M:Sto):Ub (CD×Sto):=(qZ ds).bind fun ns=>if ns.length<64 then Z (.d (.int ((qA ns).length:Nat)),M)else Y
def BW(f:AF):EF:=fun a M=>(f a M).bind fun r=>match r.1 with
 |[.d (.list ds)]=>OI ds r.2
 |[.d (.tuple ds)]=>OI ds r.2
 |_=>Y
def aHh(b:SA K tA fa):SE K (aAF K tA) (BW fa):=by
 intro t M x M' c W H n Q G R k;obtain⟨⟨u,M1⟩,o,c⟩:=aI c;refine b _ _ _ _ o W H n _ G R fun vs d j q l e=>?_
 have i:∀(ds:T5)(p:Uf)(us:Tf),OI ds M1=Z (x,M')->aM K d.F ds us->vs=[.ref p]->(SqL K d.F p us\/SqT K d.F p us)->∃(p:Uf)(ns:Ta),vs=[.ref p]/\(SqL K j p (ns.map .int)\/SqT K j p (ns.map .int))/\ns.length<64/\Q (.int ((qA ns).length:Nat)) j:=fun ds p us hs f r g=>by
  obtain⟨ns,s,hs⟩:=aI hs;by_cases m:ns.length<64
  .rw[A7 m]at hs;cases hs;rw[EK s]at f;rw[qX f]at g;exact⟨p,ns,r,g.imp (fun h=>l.fh.seq h) fun h=>l.fh.seqT h,m,k _ _ _ q l rfl⟩
  .rw[B7 m]at hs;cases hs
 revert c;dsimp only;split
 .rename_i ds;intro c;rcases e with _|⟨e,_|_⟩;obtain⟨p,us,rfl,g,f⟩:=(show ∃a us,_=V.ref a/\SqL K d.F a us/\aM K d.F ds us from e);exact i ds p us c f rfl (.inl g)
 .rename_i ds;intro c;rcases e with _|⟨e,_|_⟩;obtain⟨p,us,rfl,g,f⟩:=(show ∃a us,_=V.ref a/\SqT K d.F a us/\aM K d.F ds us from e);exact i ds p us c f rfl (.inr g)
 .intro c;cases c
def WB{ι:Type}{X:ι->Cx}{a:Ug}{p p' pos pos':Pos}(d:∀i,(X i).K=K)(e:∀i,(X i).calm=true)(hm:∀i,(X i).mg "set"=Y)(b:∀i,(X i).mg "len"=Y)(x:MA K X [a] fa)(f:∀i,Gl (X i) "set":=by intro _;rfl)(c:∀i,Gl (X i) "len":=by intro _;rfl):
 ME K X (.Call (.Name "len" p) [.Call (.Name "set" p') [a] [] pos'] [] pos) (BW fa):=by
 obtain⟨t,g,h⟩:=x.ex
 exact⟨aAF K t,fun i=>by
  have:=aHi (p:=p) (p':=p') (pos:=pos) (pos':=pos') (e i) (f i) (hm i) (c i) (b i) (g i) (x.st.1 _);rw[d i]at this;exact this,aHh h⟩
end
section
variable{prog:Uh}{w:World}{A:Ui}{E:T2}{s:Ue}
noncomputable def accN(val:Nat->Uf×Ua Key)(i:Nat):Ua (Uf×Ua Key):=(List.range i).map val
def aAC(val:Nat->Uf×Ua Key)(i:Nat):accN val (i+1)=accN val i++[val i]:=by
 unfold accN;rw[List.range_succ,F7];rfl
def TK.same{h':Heap}(t:(TK prog w).is h k a)(e:∀o,h.get? a=Z o->h'.get? a=Z o):(TK prog w).is h' k a:=by
 obtain⟨o,b,n,c,d,f,g⟩:=t;exact⟨o,b,n,e o c,d,f,g⟩
def DZ.le{xs:Ua (Ua Key×Uf)}(e:DZ acc xs)(nd:(xs.map (·.1)).Nodup):xs.length<=acc.length:=by
 rw[e.len nd (AC (acc.map (·.2))) fun k=>wJ k _];have:=OC (acc.map (·.2))
 rwa [A4]at this
theorem HX{R:Result->Ue->Prop}{I:Uf}{P:Nat->Uc->Prop}{St:Nat->Ue->Prop}(W:WalksS prog w A.in1 I fp t G n P St)(S:Uf)(a:S∉fp)(val:Nat->Uf×Ua Key)(c:∀i v,P i v->v=.ref (val i).1)(g:∀i,i<n->(val i).1∉S::t)(d:n<=70)(Q:A.units+1<cLine):
 ∀(k i:Nat)(s:Ue),n-i=k->i<=n->St i s->(∀j,j<n->(TK prog w).is s.heap (val j).2 (val j).1)->(∃xs,STu prog w b s.heap S xs/\DZ (accN val i) xs)->
  (∀f,Moved (S::t) G s f->(∃xs,STu prog w b f.heap S xs/\DZ (accN val n) xs)->R (.ok (.ret .none)) f)->
  codeAny (model prog w) A (.builtin "set.update.loop" ⟨[.ref S,.ref I],[]⟩) R s
 |0=>fun i s V hi st ht hS B=>by
  have C:i=n:=50
  subst C;have D:=fun h=>a<|W.sub _ h;obtain⟨xs,hS,el⟩:=hS;refine A1o F.entry_set_update_loop ?_;refine A0 (W.done s _ _ st fun f hm=>?_);exact A3<|B f (hm.mono fun b d=>A9 _ d) ⟨xs,hS.same fun o e=>hm.heap S _ D e,el⟩
 |k+1=>fun i s V hi st ht hS B=>by
  have l:i<n:=50
  have D:=fun h=>a<|W.sub _ h;have sub:∀b∈t,b∈S::t:=fun b d=>A9 _ d;obtain⟨xs,hS,el⟩:=hS;refine A1o F.entry_set_update_loop ?_;refine A0 (W.item i s _ _ l st fun v f X H hm=>?_);have hv:=c i v X;subst hv;have J:=hS.same fun o e=>hm.heap S _ D e;have m:=fun j q=>TK.same (ht j q) fun o e=>hm.heap _ _ (fun z=>g j q<|sub _ z) e
  have L:∀x∈xs,(TK prog w).is f.heap x.1 x.2:=fun x L=>by
   obtain⟨j,q,e⟩:=C7.mp<|el.fr x L;have:=m j 54;rw[e]at this;exact this
  have T:=el.le hS.nd;unfold accN at T;rw[A4,List.length_range]at T;refine A0<|J8 ?_;refine aFN J L (m i l) (A0j Q) 50 fun h' M r t' U p N stp=>?_;refine A3 ⟨plainId_quiet F.plain_set_update_loop _,HX W S a val c g d Q k (i+1) _ 50 l (W.frame _ f _ _ H U fun b d o e=>?_) (fun j q=>TK.same (m j q) fun o e=>?_) ⟨M,N,by rw[aAC];exact el.step stp⟩ fun O u y=>?_⟩
  .rw[p.2 b (fun h:b=S=>a 54)];exact e
  .rw[p.2 _ (fun h:(val j).1=S=>g j q 54)];exact e
  .refine B O (Moved.trans W.gtrans ((hm.mono sub).then_heap U fun b o d e=>?_) u) y;rw[p.2 b (fun h:b=S=>d 54)];exact e
def ZS{val:Nat->Uf×Ua Key}{Q:T2}(f:A.handled=Y)(u:A.units+64<cLine)(g:s.heap.IsList l items)
 (a:∀(i:Nat)(v:Uc),items[i]?=Z v->v=.ref (val i).1) (ht:∀j,j<items.size->(TK prog w).is s.heap (val j).2 (val j).1) (k:items.size<=70)
 (h:∀(h':Heap)(tk:Nat),(∃b xs,STu prog w b h' s.heap.objs.size xs/\DZ (accN val items.size) xs)->(∀b o,s.heap.get? b=Z o->h'.get? b=Z o)->Q (.ref s.heap.objs.size) { s with heap:=h',toks:=tk }):
 wpAny (model prog w) A (call (.type "set") [.ref l]) Q E s:=by
 refine PV (Ps:=fun h'=>∃b xs,STu prog w b h' s.heap.objs.size xs/\DZ (accN val items.size) xs) f (.inl g) (fun b y St R W st ne m=>?_) h
 have c:∀j,j<items.size->(val j).1∉s.heap.objs.size::[s.heap.objs.size+1]:=fun j d hm=>by
  obtain⟨o,_,_,n,_⟩:=ht j d;have:=B6 n;rcases B8.mp hm with q|q
  .exact C3 this q
  .exact C3 (Nat.lt_succ_of_lt this)<|A6.mp q
 exact HX (b:=b) W.toS _ ne val a c k 54 items.size 0 _ rfl (F9 _) st (fun j d=>TK.same (ht j d) fun o e=>A2 _<|A2 _ e) ⟨[],⟨⟨_,#[],0,_,A2 _<|C2 _ rfl,⟨rfl,rfl,rfl⟩,rfl,rfl,aPp _,rfl⟩,A0p⟩,⟨fun x p=>(by simp at p),fun q r=>(by simp[accN]at r)⟩⟩ fun t hm ⟨xs,z⟩=>m t hm ⟨b,xs,z⟩
end
section
variable{X:Cx}{a:Ug}{ta:TA}{p p' pos pos':Pos}
def RO(K:Fg)(ta:TA):TE:=fun c H Q=>ta c H fun vs b=>∃(p:Uf)(acc:Ua (Uf×Ua Key)),vs=[.ref p]/\SqL K b p (acc.map fun q=>.ref q.1)/\(∀q∈acc,SqT K b q.1<|q.2.map kV)/\acc.length<=70/\Q (.int ((nO (acc.map (·.2))).length:Nat)) b
def aDT(acc:Ua (Uf×Ua Key)):accN (fun i=>acc.getD i (0,[])) acc.length=acc:=by
 unfold accN;refine A1m fun i=>?_;rw[D6];by_cases h:i<acc.length
 .rw[A2a h,C0 h];simp[h]
 .rw[Y8 54,Y8 50];rfl
def aEd(F:X.calm=true)(G:X.A.units+64<cLine)(J:Gl X "set")(hm:X.mg "set"=Y)(f:Gl X "len")(g:X.mg "len"=Y)(ha:PA X [a] ta)(hs:starEach [a] X.env=[(false,eval a X.env)]):
 PE X (.Call (.Name "len" p) [.Call (.Name "set" p') [a] [] pos'] [] pos) (RO X.K ta):=by
 intro pins s L H Q I h;refine Y9<|iH I f g (u:=.builtin "len") rfl ?_ 52 52;refine A0n ?_ tF rfl;rw[tF];show wpAny _ _ (spliced ((false,eval (.Call (.Name "set" p') [a] [] pos') X.env)::[])) _ _ s;refine A0y ?_;refine Call_<|iH I J hm (u:=.type "set") rfl<|U6 (thn (ha pos' pins s L H _ I h) fun us s1 C=>?_) hs rfl;obtain⟨vs,M,d,N,O⟩:=C;obtain⟨j,acc,e,P,R,S,q⟩:=O;subst e;cases N with
 |cons r U=>
  cases U;cases r;obtain⟨l,D,V,C⟩:=d.list P;have len:l.length=acc.length:=by rw[<- D.length,A4]
  have at_:∀i,i<acc.length->acc[i]?=Z (acc.getD i (0,[])):=fun i hi=>by rw[C0 hi];simp[hi]
  refine ZS (val:=fun i=>acc.getD i (0,[])) (d.ok.hd F) G V.isList (fun i v m=>?_) (fun i hi=>?_) 54 fun h' tk ⟨b,xs,E,el⟩ W=>A1s ?_
  .have hi:i<acc.length:=by
    have:=(E9.mp m).1
    rwa [F4,len]at this
   obtain⟨u,w,ru⟩:=D.get (i:=i) (x:=.ref (acc.getD i (0,[])).1) 54;rw[A0x,w]at m;cases m;exact ru
  .rw[F4,len]at hi;obtain⟨c,y,⟨o,z,B,n,hd⟩,_⟩:=d.tuple<|R _<|O6<|at_ i hi;exact⟨o,c.toArray,n,z,B,hd,by simpa using sR y⟩
  .rw[F4,len,aDT]at el;have nd:=E.nd;obtain⟨⟨o,es,ep,t,z,hx,hd,he,T,_⟩,_⟩:=E;have ez:es.size=xs.length:=by rw[<- E8,he];unfold enT;rw[A4]
   have xl:=el.le nd;have xe:=el.len nd (AC (acc.map (·.2))) fun k=>wJ k _;refine call_len_set z hx hd (T.fits 54) 50 ?_;rw[ez,xe];exact⟨.int ((nO (acc.map (·.2))).length:Nat),M,(d.kept (t':=tk) W).tok _,⟨_,rfl⟩,q⟩
end
section
variable{K:Fg}{tA:TA}{fa:AF}
def aHX:Ud->Ub (Ua Key)
 |.tuple ds=>(qZ ds).bind fun ns=>Z<|ns.map .inl
 |_=>Y
def CG:T5->Ub (Ua<|Ua Key)
 |[]=>Z []
 |d::ds=>(aHX d).bind fun k=>(CG ds).bind fun ks=>Z (k::ks)
def aNu(ds:T5)(M:Sto):Ub (CD×Sto):=(CG ds).bind fun ks=>if ks.length<=70 then Z (.d (.int ((nO ks).length:Nat)),M)else Y
def xQ(f:AF):EF:=fun a M=>(f a M).bind fun r=>match r.1 with
 |[.d (.list ds)]=>aNu ds r.2
 |_=>Y
theorem DE:∀{ds:T5}{ks:Ua (Ua Key)}{us:Tf},CG ds=Z ks->aM K H ds us->∃acc:Ua (Uf×Ua Key),us=(acc.map fun q=>.ref q.1)/\acc.map (·.2)=ks/\∀q∈acc,SqT K H q.1 (q.2.map kV)
 |[],_,_=>fun e h=>by
  cases e;exact⟨[],h,rfl,fun q b=>by simp at b⟩
 |d::ds,_,_=>fun e h=>by
  obtain⟨k,c,e⟩:=aI e;obtain⟨ks,g,e⟩:=aI e;cases e;obtain⟨v,us,rfl,i,j⟩:=h;obtain⟨acc,rfl,rfl,l⟩:=DE g j;cases d with
  |tuple es=>
   obtain⟨ns,m,e⟩:=aI c;cases e;obtain⟨a,vs,rfl,b,f⟩:=i;rw[EK m]at f;rw[qX f]at b;refine⟨(a,ns.map .inl)::acc,rfl,rfl,fun q hq'=>?_⟩;rcases B8.mp hq' with rfl|hq'
   .rw[I0];exact b
   .exact l q hq'
  |_=>cases c
def aCF(b:SA K tA fa):SE K (RO K tA) (xQ fa):=by
 intro o M x M' a W H g Q G R k;obtain⟨⟨r,M1⟩,h,a⟩:=aI a;refine b _ _ _ _ h W H g _ G R fun vs s t i c d=>?_;revert a;dsimp only;split
 .rename_i ds;intro a;rcases d with _|⟨d,_|_⟩;obtain⟨p,us,rfl,j,l⟩:=d;obtain⟨ks,m,hs⟩:=aI a;by_cases e:ks.length<=70
  .rw[A7 e]at hs;cases hs;obtain⟨acc,rfl,rfl,n⟩:=DE m l;exact⟨p,acc,rfl,c.fh.seq j,fun q f=>c.fh.seqT<|n q f,by rwa [A4]at e,k _ _ _ i c rfl⟩
  .rw[B7 e]at hs;cases hs
 .intro a;cases a
def PD{ι:Type}{X:ι->Cx}{a:Ug}{p p' pos pos':Pos}(d:∀i,(X i).K=K)(e:∀i,(X i).calm=true)(f:∀i,(X i).A.units+64<cLine)(hm:∀i,(X i).mg "set"=Y)(b:∀i,(X i).mg "len"=Y)(x:MA K X [a] fa)(g:∀i,Gl (X i) "set":=by intro _;rfl)(c:∀i,Gl (X i) "len":=by intro _;rfl):
 ME K X (.Call (.Name "len" p) [.Call (.Name "set" p') [a] [] pos'] [] pos) (xQ fa):=by
 obtain⟨t,h,j⟩:=x.ex
 exact⟨RO K t,fun i=>by
  have:=aEd (p:=p) (p':=p') (pos:=pos) (pos':=pos') (e i) (f i) (g i) (hm i) (c i) (b i) (h i) (x.st.1 _);rw[d i]at this;exact this,aCF j⟩
end
section
variable{K:Fg}
def CV(K:Fg)(ty e:TE):TE:=fun d H Q=>ty d H fun y f=>e d f fun x c=>∃a b kvs k,x=.ref a/\y=.ref b/\Rd c a (.dT kvs)/\SqT K c b (k.map kV)/\Q (.bl (!(gO kvs k).isSome)) c
def SD{X:Cx}(l:X.A.units+1<cLine)(hi:PE X i ty)(m:PE X o g):PC X .NotIn i o (CV X.K ty g):=by
 intro pins s j H Q I h;refine thn (hi pins s j H _ I h) fun O s1 ⟨y,p,t,v,w⟩=>thn (m pins s1 j p _ t w) fun u s2 B=>?_;obtain⟨x,C,c,D,a,b,kvs,k,ex,E,e,F,G⟩:=B;subst ex;subst E;obtain rfl:=D;cases v;obtain⟨z,hd,xs,d,J⟩:=zJ c.hok e;obtain⟨f,r,⟨ob,L,M,n,N⟩,_⟩:=c.tuple F;refine wpAny_notIn_heap (A0j l) ⟨ob,f.toArray,n,L,M,N,by simpa using sR r⟩ hd J ?_;have q:=(d.val k).isSome_eq;rw[Z2]at q;rw[<- q];exact⟨.bl (!(gO kvs k).isSome),C,c.tok _,rfl,G⟩
def MU{X:Cx}(b:X.K=K)(c:X.A.units+1<cLine)(hi:PE X i ty)(d:PE X o a):PC X .NotIn i o (CV K ty a):=by subst b;exact SD c hi d
def vK(b fo:EF):EF:=fun a M=>(b a M).bind fun k=>(fo a k.2).bind fun o=>match k.1 with
 |.d (.tuple ds)=>(keysOf<|ds.map .d).bind fun ks=>(atD o.2 o.1 (.inr ks)).bind fun r=>Z (.d (.bool (!r.isSome)),o.2)
 |_=>Y
def UK(b:SE K ty A)(a:SE K z fo):SE K (CV K ty z) (vK A fo):=by
 intro γ M x M' h W H B Q G R c;obtain⟨⟨I,M1⟩,J,h⟩:=aI h;obtain⟨⟨o,M2⟩,C,h⟩:=aI h;dsimp only at h C;cases I with
 |d e=>cases e with
  |tuple ds=>
   obtain⟨ks,L,h⟩:=aI h;obtain⟨r,j,h⟩:=aI h;cases (h);refine b _ _ _ _ J W H B _ G R fun y N O n P S=>a _ _ _ _ C N O B _ P (R.up n) fun v D E s G2 F=>?_;obtain⟨q,us,rfl,T,U⟩:=(Rep.same s.ff (.tuple ds) y S);have ev:=uY L<|eV U;subst ev;have l:=G2.fh.seqT T;cases o with
   |c i=>
    have j:(match M'[i]? with|some (Cell.dt kvs)=>Z (lkC kvs ks)|_=>Y)=Z r:=j;split at j
    .rename_i kvs X;obtain⟨us,u,w⟩:=G2.dtAt X;have m:=AO (k:=ks) w;rw[F0 j]at m;refine⟨_,q,us,ks,F.2,rfl,.inl u,l,c _ D E (n.trans s) G2 ?_⟩;show _=V.bl (!r.isSome);rw[tE m]
    .cases j
   |f kvs=>
    obtain⟨p,ob,us,rfl,u,w⟩:=F;have m:=BR (k:=ks) w;rw[F0 j]at m;refine⟨_,q,us,ks,rfl,rfl,.inr ⟨ob,G2.fh _ _ u⟩,l,c _ D E (n.trans s) G2 ?_⟩;show _=V.bl (!r.isSome);rw[tE m]
   |d _=>cases j
   |t _=>cases j
   |g _=>cases j
  |_=>cases h
 |_=>cases h
def SY{ι:Type}{X:ι->Cx}(a:∀j,(X j).K=K)(b:∀j,(X j).A.units+1<cLine)(y:ME K X i g)(x:ME K X o f)(hm:behindInMarks .NotIn o=false:=by rfl):MT K X (.Compare i [.NotIn] [o] pos) (gB<|vK g f):=by
 obtain⟨t,c,d⟩:=x.ex;obtain⟨u,e,h⟩:=y.ex;exact⟨_,fun j=>UJ (MU (a j) (b j) (e j)<|c j) hm,aBa<|UK h d⟩
end
end L2
section
noncomputable section
namespace Q57
open PySem PySem.Spec PyProof.Rows L2
noncomputable def top(i:Nat):Stmt:=PySem.Challenge.pw_cutstree_k57_ways_told.main.body.getD i (.Pass ⟨0,0,0,0⟩)
def fQ:Ua (Str×Bool):=[("NoPlace",true)]
def jA:Ua (Str×Bool):=[("NoPlace",true)]
def ar1{a:Type}{P:Ua a->Prop}{us:Ua a}(d:us.length=1)(h:∀b,P [b]):P us:=by
 rcases us with _|⟨b,_|⟨c,r⟩⟩<;>first|exact h _|cases d
def ar2{a:Type}{P:Ua a->Prop}{us:Ua a}(e:us.length=2)(h:∀b d,P [b,d]):P us:=by
 rcases us with _|⟨b,_|⟨d,_|⟨c,r⟩⟩⟩<;>first|exact h _ _|cases e
def ar3{a:Type}{P:Ua a->Prop}{us:Ua a}(f:us.length=3)(h:∀b d e,P [b,d,e]):P us:=by
 rcases us with _|⟨b,_|⟨d,_|⟨e,_|⟨c,r⟩⟩⟩⟩<;>first|exact h _ _ _|cases f
def ar4{a:Type}{P:Ua a->Prop}{us:Ua a}(g:us.length=4)(h:∀b d e f,P [b,d,e,f]):P us:=by
 rcases us with _|⟨b,_|⟨d,_|⟨e,_|⟨f,_|⟨c,r⟩⟩⟩⟩⟩<;>first|exact h _ _ _ _|cases g
def ar5{a:Type}{P:Ua a->Prop}{us:Ua a}(i:us.length=5)(h:∀b d e f g,P [b,d,e,f,g]):P us:=by
 rcases us with _|⟨b,_|⟨d,_|⟨e,_|⟨f,_|⟨g,_|⟨c,r⟩⟩⟩⟩⟩⟩<;>first|exact h _ _ _ _ _|cases i
set_option hygiene false
local macro_rules | `(tactic| sleep 990) => `(tactic| exact ⟨rfl, rfl, rfl, by decide +kernel, rfl, by decide +kernel, by decide +kernel⟩)|`(tactic| sleep 988) => `(tactic| (intro _; exact T.hB.of _))|`(tactic| sleep 989) => `(tactic| (intro _; dsimp only [jD, bO]; decide +kernel))|`(tactic| sleep 987) => `(tactic| (intro _; exact eX rfl rfl (by kernel_rfl)))|`(tactic| sleep 991) => `(tactic| (intro _ _ _ _ _ _ _ hl; apply ar1 hl; intros; rfl))|`(tactic| sleep 992) => `(tactic| (intro _ _ _ _ _ _ _ hl; apply ar2 hl; intros; rfl))|`(tactic| sleep 993) => `(tactic| (intro _ _ _ _ _ _ _ hl; apply ar3 hl; intros; rfl))|`(tactic| sleep 994) => `(tactic| (intro _ _ _ _ _ _ _ hl; apply ar4 hl; intros; rfl))|`(tactic| sleep 995) => `(tactic| (intro _ _ _ _ _ _ _ hl; apply ar5 hl; intros; rfl))
set_option hygiene true
abbrev oZ:Stmt:=top 28
abbrev zL:Te:=["_law_script","_law_many","_law_row","_law_odd","_law_deck_here","_law_k","_law_at","_law_one"]
abbrev rX:Te:=["_law_script","_law_many"]
def sc__law_deck:aU zL rX (aH oZ):=56
def tT:EF:=(dW<|aC (fC (.int 48271))<|aC (fC (.int 69621))<|aC (fC (.int 39373))<|aC (fC (.int 40692)) aO)
def AV(γ:Ga)(M:Sto):tT γ M=Z (.d (.list [(.int 48271),(.int 69621),(.int 39373),(.int 40692)]),M):=rfl
abbrev FF:=aC (aD 2) aO
abbrev aJS:=gB<|fOp (eqX false) (aD 3)<|fC (.int 0)
def eE:SF:=(aY (aW (fOp dC (aD 5)<|aP iE FF)<|hName 6)<|aY (aW (fOp dC (fOp ixF (aD 2)<|aD 6)<|fC (.int 1000000))<|hName 7)<|aY (sIf aJS (aY (aW (fOp dC (fOp dU (fOp dU (fOp ixF (aD 2)<|aD 6)<|fOp IZ (fOp IZ (aD 5)<|aD 5)<|fC (.int 16807))<|fOp IZ (fC (.int 3))<|aD 5)<|fC (.int 2147483629))<|hName 7)<|aY (aW (fOp dC (fOp dU (fOp IZ (aD 7)<|fOp ixF tT<|fOp dC (aD 5)<|fC (.int 4))<|fC (.int 7))<|fC (.int 2147483647))<|hName 7)<|aW (fOp dC (fOp IZ (aD 7)<|aD 7)<|fC (.int 2147483629))<|hName 7)<|aW (fOp iV (fOp ixF (aD 2)<|aD 6)<|fC (.int 1000000))<|hSub (aD 2) (aD 6) OD)<|eA<|cZ "list" cU (aD 4)<|aC (aD 7) aO)
abbrev xT:=aC (aD 0) aO
abbrev aKJ:=gB<|fOp (eqY false) (aD 2)<|dW aO
abbrev aIZ:=aW (mH<|aC (fC (.int 4)) aO)<|hName 2
abbrev aDU:=fOp ixF (aD 2)<|fC (.int 0)
abbrev aIT:=fOp dC aDU<|fC (.int 2)
abbrev aNL:=aW (fOp iV aDU<|fC (.int 2))<|hSub (aD 2) (fC (.int 0)) OD
abbrev xq1:=aC (aD 1) aO
def zH:SF:=(aY (aW (aP yQ xT)<|hName 2)<|aY (sIf aKJ aIZ cS)<|aY (aW aIT<|hName 3)<|aY aNL<|aY (aW (mH aO)<|hName 4)<|aY (nM (fH xq1) (hName 5) eE)<|aY (eA<|cZ "list" kF (aD 4) aO)<|cQ<|aD 4)
def qQ:FN:=fnF 2 8 zH
abbrev mL:Stmt:=top 31
abbrev wX:Te:=["_law_deck_here","_law_many","_law_kind","_law_found","_law_draw","_law_middle","_law_j"]
abbrev pM:Te:=["_law_deck_here","_law_many"]
def sc__law_pairs:aU wX pM (aH mL):=56
abbrev aNr:=aC (aD 1)<|aC (fOp dC (fOp dU (aD 1)<|fC (.int 1))<|aD 0) aO
def kM:EF:=(JC [Z 1,Y] (fH xq1) (hName 1) dP<|bI aNr)
def rB:EF:=(JC [Y] (yX<|aC (fC (.int 1)) xq1) (hName 0) dP<|bI<|aC (fC (.int 0)) xT)
abbrev xq0:=cZ "list" CK (aD 0) aO
abbrev aEH:=fOp dC xq0<|aD 1
def qY:EF:=(JC [Z 0,Y] (yX<|aC (fC (.int 1)) xq1) (hName 1) dP<|bI<|aC aEH xq1)
abbrev PR:=aC (aD 6) aO
abbrev aMM:=fOp (eqX false) (fOp ltI (aD 2)<|aD 1)<|fOp ltI (aD 0)<|aD 1
abbrev aHK:=aC (aD 2) xT
def sF:EF:=(fLc [Z 6,Z 5,Y] (fH PR) (hName 2) (gB aMM)<|bI aHK)
def lB:SF:=(aW (fOp FQ (aD 3) sF)<|hName 3)
abbrev aOx:=aC (aD 1)<|aC (fOp dC (fOp dU (aD 1)<|fC (.int 1))<|fOp dU (aD 0)<|fC (.int 1)) aO
def kK:EF:=(JC [Z 5,Y] (fH<|aC (fOp dU (aD 5)<|fC (.int 1)) aO) (hName 1) dP<|bI aOx)
abbrev aFI:=fOp KR (aD 1)<|fC (.int 1)
abbrev aIV:=aC (aD 5)<|aC aFI aO
abbrev aMX:=aC (aD 0)<|aC (fOp dU (aD 0)<|fC (.int 1)) aO
def rN:EF:=(fLc [Y] (yX aIV) (hName 0) dP<|bI aMX)
abbrev aLR:=cZ "list" CK (aD 1) aO
def qU:EF:=(fLc [Z 6,Z 0,Y] (fH PR) (hName 2) (gB<|fOp gtI (fOp dC aLR<|fC (.int 3))<|fC (.int 0))<|bI aHK)
def lH:SF:=(aW (fOp FQ (aD 3) qU)<|hName 3)
abbrev aAU:=fOp dC xq0<|fC (.int 9)
abbrev aJE:=aC (fOp dC (aD 4)<|aD 1)<|aC (fOp dC (fOp iV (aD 4)<|fC (.int 11))<|aD 1) aO
abbrev aLp:=aC (fOp dC (fOp iV (aD 4)<|fC (.int 97))<|aD 1)<|aC (fOp dC (fOp iV (aD 4)<|fC (.int 7))<|aD 1) aO
abbrev aLP:=fOp iV (aD 1)<|fC (.int 2)
def nT:SF:=(aY (aW aAU<|hName 2)<|aY (aW (mH aO)<|hName 3)<|aY (sIf (gB<|fOp ltI (aD 2)<|fC (.int 2)) (aY (aW kM<|hName 3)<|sIf (gB<|fOp (eqX false) (aD 2)<|fC (.int 1)) (aY (aW xq0<|hName 4)<|aW (fOp FQ (aD 3)<|dW<|aC (bI aJE)<|aC (bI aLp) aO)<|hName 3) cS)<|sIf (gB<|fOp (eqX false) (aD 2)<|fC (.int 2)) (aW rB<|hName 3)<|sIf (gB<|fOp (eqX false) (aD 2)<|fC (.int 3)) (aW qY<|hName 3)<|sIf (gB<|fOp (eqX false) (aD 2)<|fC (.int 4)) (aY (aW aLP<|hName 5)<|aY (nM (fH xq1) (hName 6) lB)<|eA<|cZ "list" cU (aD 3)<|aC (bI<|aC (fC (.int 0))<|aC aFI aO) aO)<|sIf (gB<|fOp (eqX false) (aD 2)<|fC (.int 5)) (aY (aW aLP<|hName 5)<|aY (aW kK<|hName 3)<|aW (fOp FQ (fOp FQ (aD 3) rN)<|dW<|aC (bI aIV) aO)<|hName 3)<|sIf (gB<|fOp ltI (aD 2)<|fC (.int 8)) (nM (fH xq1) (hName 6) lH) cS)<|cQ<|aD 3)
def fF:FN:=fnF 2 7 nT
abbrev kJ:Stmt:=top 30
abbrev tX:Te:=["_law_draw","_law_some"]
abbrev mG:Te:=["_law_draw"]
def sc__law_weight:aU tX mG (aH kJ):=56
abbrev NF:=fC (.int 55440)
def pW:EF:=(dW<|aC NF<|aC NF<|aC (fC (.int 110880))<|aC (fC (.int 27720))<|aC (fC (.int 41580))<|aC (fC (.int 0))<|aC (fC (.int 23100))<|aC (fC (.int 166320))<|aC (fOp IZ NF<|fOp ZA (fC (.int 10))<|fC (.int 9))<|aC (fC (.int 1))<|aC NF<|aC (fC (.int 27720)) aO)
def yD(γ:Ga)(M:Sto):pW γ M=Z (.d (.list [(.int 55440),(.int 55440),(.int 110880),(.int 27720),(.int 41580),(.int 0),(.int 23100),(.int 166320),(.int 55440000000000),(.int 1),(.int 55440),(.int 27720)]),M):=rfl
def mD:SF:=(aY (aW pW<|hName 1)<|cQ<|fOp ixF (aD 1)<|fOp dC (aD 0)<|fC (.int 12))
def iP:FN:=fnF 1 2 mD
abbrev qI:Stmt:=top 32
abbrev CQ:Te:=["_law_deck_here","_law_many","_law_alike","_law_found","_law_i","_law_j","_law_weight_here"]
def sc__law_web:aU CQ pM (aH qI):=56
abbrev aKX:=fOp (eqX false) (fOp dC (aD 2)<|fC (.int 2))<|fC (.int 1)
abbrev aMY:=aW (aP iP<|aC xq0 aO)<|hName 6
abbrev LO:=aC (aD 5) aO
def oV:SF:=(aY (aW NF<|hName 6)<|aY (sIf (gB aKX) aMY cS)<|sIf (FG (gB<|fOp (eqX true) (aD 4)<|aD 5)<|gB<|fOp gtI (aD 6)<|fC (.int 0)) (gC (aD 3) (gT<|aC (aP wY<|aC (aD 4) LO)<|aC (aP vN<|aC (aD 4) LO) aO)<|aD 6) cS)
abbrev FJ:=aC (aD 0) xq1
def BH:SF:=(aY (aW xq0<|hName 2)<|aY (aW rO<|hName 3)<|aY (nM (cA<|sW<|aP fF FJ) (gU 2<|cG (hName 4)<|cG (hName 5) pH) oV)<|cQ<|aD 3)
def oB:FN:=fnF 2 7 BH
abbrev rW:Stmt:=top 5
abbrev AY:Te:=["thing"]
def PQ:aU AY AY (aH rW):=56
def EA:SF:=(cQ<|lL (zW "int"<|aD 0)<|aDm<|zW "bool"<|aD 0)
def fW:FN:=fnF 1 1 EA
abbrev yJ:Stmt:=top 6
def aAo:aU AY AY (aH yJ):=56
def OG:SF:=(cQ<|MM "list" "tuple"<|aD 0)
def jB:FN:=fnF 1 1 OG
abbrev xG:Stmt:=top 18
abbrev QP:Te:=["one","other"]
def sc_common:aU QP QP (aH xG):=56
abbrev aNc:=QG 0 1<|aC (aD 1)<|aC (fOp dC (aD 0)<|aD 1) aO
def uQ:SF:=(pJ (RC<|aD 1) aNc)
def PJ:SF:=(aY uQ<|cQ<|aD 0)
def DC:FN:=fnF 2 2 PJ
abbrev pB:Stmt:=top 7
abbrev zI:Te:=["thing","length"]
def IS:aU zI zI (aH pB):=56
def zG:SF:=(cQ<|lL (aP jB xT)<|fOp (eqX false) (aP iE xT)<|aD 1)
def lN:FN:=fnF 2 2 zG
abbrev eF:Stmt:=top 17
def pZ:aU AY AY (aH eF):=56
abbrev aFx:=fOp ixF (aD 0)<|fC (.int 0)
abbrev aGR:=fOp ixF (aD 0)<|fC (.int 1)
abbrev ZV:=fC (.bool false)
abbrev zQ:=cQ ZV
def cJ:SF:=(aY (sIf (gOr (fX<|gB<|aP lN<|aC (aD 0)<|aC (fC (.int 2)) aO)<|gOr (fX<|gB<|aP fW<|aC aFx aO)<|fX<|gB<|aP fW<|aC aGR aO) zQ cS)<|cQ<|lL (fOp geI aFx<|fC (.int 0))<|fOp geI aGR<|fC (.int 1))
def bZ:FN:=fnF 1 1 cJ
abbrev lA:Stmt:=top 16
def CC:aU AY AY (aH lA):=56
def eD:SF:=(cQ<|lL (aP bZ xT)<|lL (fOp (eqX false) (fOp dC NF aGR)<|fC (.int 0))<|fOp (eqX false) (aP DC<|aC aFx<|aC aGR aO)<|fC (.int 1))
def cY:FN:=fnF 1 1 eD
abbrev pL:Stmt:=top 15
def JQ:aU AY AY (aH pL):=56
def iY:SF:=(cQ<|lL (aP cY xT)<|fOp leI aFx<|fC (.int 1000000000000))
def eO:FN:=fnF 1 1 iY
abbrev rF:Stmt:=top 8
abbrev DL:Te:=["many","thing"]
def NM:aU DL DL (aH rF):=56
def nZ:SF:=(cQ<|lL (aP fW xq1)<|ED leI ltI (fC (.int 0)) (aD 1)<|aD 0)
def gE:FN:=fnF 2 2 nZ
abbrev eT:Stmt:=top 9
abbrev jR:Te:=["many","i","j"]
def rR:aU jR jR (aH eT):=56
def cT:SF:=(cQ<|lL (aP gE FJ)<|lL (aP gE<|aC (aD 0) FF)<|fOp (eqX true) (aD 1)<|aD 2)
def bV:FN:=fnF 3 3 cT
abbrev eU:Stmt:=top 11
def qO:aU DL DL (aH eU):=56
def cP:SF:=(cQ<|lL (aP lN<|aC (aD 1)<|aC (fC (.int 3)) aO)<|lL (aP bV<|aC (aD 0)<|aC (fOp ixF (aD 1)<|fC (.int 0))<|aC (fOp ixF (aD 1)<|fC (.int 1)) aO)<|fOp ltI (fOp ixF (aD 1)<|fC (.int 0))<|fOp ixF (aD 1)<|fC (.int 1))
def bN:FN:=fnF 2 2 cP
abbrev xK:Stmt:=top 23
def YQ:aU DL DL (aH xK):=56
def nB:SF:=(cQ<|lL (aP bN FJ)<|aP eO<|aC (fOp ixF (aD 1)<|fC (.int 2)) aO)
def kN:FN:=fnF 2 2 nB
abbrev kA:Stmt:=top 22
abbrev rQ:Te:=["many","ties","weights","at","row"]
abbrev sN:Te:=["many","ties"]
def sc_kept_ties:aU rQ sN (aH kA):=56
abbrev xq4:=aC (aD 4) aO
abbrev aNV:=gT<|aC (fOp ixF (aD 4)<|fC (.int 0))<|aC (fOp ixF (aD 4)<|fC (.int 1)) aO
def fT:SF:=(aY (sIf (gOr (fX<|gB<|aP kN<|aC (aD 0) xq4)<|gB<|RY false aNV<|aD 2) KQ cS)<|gC (aD 2) aNV<|aP kX<|aC (fOp ixF (aD 4)<|fC (.int 2)) aO)
abbrev aKh:=gU 2<|cG (hName 0)<|cG (hName 1) pH
abbrev xq3:=aC (aD 1) FF
def tU:EF:=(fLc [Y,Y,Y] (cA<|yB<|aD 2) (gU 2<|cG aKh<|cG (hName 2) pH) (gB<|fOp gtI aDU<|fC (.int 0))<|bI<|aC (aD 0) xq3)
def qJ:SF:=(aY (sIf (fX<|gB<|aP jB xq1) KQ cS)<|aY (aW rO<|hName 2)<|aY (nM (MV xq1) (gU 2<|cG (hName 3)<|cG (hName 4) pH) fT)<|cQ<|aP kX<|aC tU aO)
def iW:FN:=fnF 2 5 qJ
abbrev fB:Stmt:=inClass (top 21) 0
abbrev sI:Te:=["self","many","ties"]
def JY:aU sI sI (aH fB):=56
abbrev xq7:=cG (hName 1)<|cG (hName 2) pH
def mU:EF:=(fDc (.dt []) [Y,Y,Y] (cA<|uT "Web" "ties"<|aD 0) (gU 3<|cG (hName 0) xq7) dP (gT FJ)<|aD 2)
def sJ:SF:=(aY (sIf (gOr (fX<|gB<|aP fW xq1)<|gOr (gB<|fOp ltI (aD 1)<|fC (.int 1))<|gB<|fOp gtI (aD 1)<|fC (.int 40)) KQ cS)<|aY (GN "Web" "many" (aD 0)<|aD 1)<|aY (GN "Web" "ties" (aD 0)<|aP iW xq3)<|GN "Web" "weights" (aD 0) mU)
def gJ:FN:=fnF 3 3 sJ
abbrev kZ:Stmt:=top 29
abbrev tN:Te:=["_law_above","_law_below","_law_one","_law_other"]
abbrev mC:Te:=["_law_above","_law_below"]
def sc__law_lowest:aU tN mC (aH kZ):=56
abbrev aND:=QG 2 3<|aC (aD 3)<|aC (fOp dC (aD 2)<|aD 3) aO
def pV:SF:=(pJ (gB<|fOp gtI (aD 3)<|fC (.int 0)) aND)
def mI:SF:=(aY (QG 2 3 FJ)<|aY pV<|cQ<|bI<|aC (fOp iV (aD 0)<|aD 2)<|aC (fOp iV (aD 1)<|aD 2) aO)
def iL:FN:=fnF 2 4 mI
abbrev jZ:Stmt:=top 33
abbrev qH:Te:=["_law_ties"]
def JX:aU qH qH (aH jZ):=56
abbrev aOO:=bI<|aC (aD 1)<|aC (aD 2)<|aC (aP iL<|aC (qL (aD 0)<|gT xq3)<|aC NF aO) aO
def tQ:EF:=(fLc [Z 0,Y,Y] (cA<|aP uO xT) (gU 2 xq7) dP aOO)
def qK:SF:=(cQ tQ)
def lX:FN:=fnF 1 1 qK
abbrev sD:Stmt:=top 40
abbrev DW:Te:=["_law_deck_here","_law_many","_law_one"]
def sc__law_two:aU DW pM (aH sD):=56
abbrev aOp:=fOp dU (fOp dU (aD 2)<|fC (.int 1))<|fOp dC xq0 aFI
def CS:SF:=(aY (aW aEH<|hName 2)<|cQ<|bI<|aC (aD 2)<|aC (fOp dC aOp<|aD 1) aO)
def oX:FN:=fnF 2 3 CS
abbrev mS:Stmt:=top 39
abbrev xE:Te:=["_law_ties","_law_room","_law_i","_law_j"]
def sc__law_rooms:aU xE qH (aH mS):=56
abbrev xq5:=aC (aD 3) aO
abbrev ZK:=aC (aD 2) xq5
def kH:SF:=(aY (gC (aD 1) (gT ZK)<|qL (aD 0)<|gT ZK)<|gC (aD 1) (gT<|aC (aD 3) FF)<|qL (aD 0)<|gT ZK)
def wA:SF:=(aY (aW rO<|hName 1)<|aY (nM (VF<|aD 0) (gU 2<|cG (hName 2)<|cG (hName 3) pH) kH)<|cQ<|aD 1)
def jU:FN:=fnF 1 4 wA
abbrev qS:Stmt:=top 34
abbrev BC:Te:=["_law_room","_law_many","_law_froms","_law_tos","_law_before","_law_place","_law_waiting","_law_at","_law_found","_law_other"]
abbrev uV:Te:=["_law_room","_law_many","_law_froms","_law_tos"]
def sc__law_way:aU BC uV (aH qS):=56
def oQ:SF:=(gC (aD 4) (FW<|aD 5)<|fC .none)
abbrev aNp:=qL (aD 4)<|FW<|fOp ixF (aD 8)<|fC (.int 0)
abbrev aMf:=fOp (aEQ true) aNp<|fC .none
abbrev aMh:=aC (fC (.int 0))<|aC aNp aO
def IV:SF:=(pJ (gB aMf)<|eA<|cZ "list" ER (aD 8) aMh)
abbrev aJr:=RY true (FW<|aD 9)<|aD 4
abbrev aAn:=aC (aD 9) aO
abbrev aJm:=fOp gtI (pK (aD 0) (gT<|aC (aD 5) aAn)<|fC (.int 0))<|fC (.int 0)
abbrev aNW:=aY (gC (aD 4) (FW<|aD 9)<|aD 5)<|eA<|cZ "list" cU (aD 6) aAn
def jY:SF:=(sIf (FG (gB aJr)<|gB aJm) aNW cS)
abbrev aCj:=fOp dU (aD 7)<|fC (.int 1)
abbrev xq8:=aY (aW (fOp ixF (aD 6)<|aD 7)<|hName 5)<|aY (aW aCj<|hName 7)<|aY (sIf (gB<|fOp (inD false) (aD 5)<|aD 3) (aY (aW (mH LO)<|hName 8)<|aY IV<|cQ<|aD 8) cS)<|nM (fH xq1) (hName 9) jY
def KG:SF:=(pJ (gB<|fOp ltI (aD 7)<|aP iE PR) xq8)
def BK:SF:=(aY (aW JM<|hName 4)<|aY (nM (cA<|aD 2) (hName 5) oQ)<|aY (aW (aP yQ FF)<|hName 6)<|aY (aW (fC (.int 0))<|hName 7)<|aY KG<|cQ<|mH aO)
def nW:FN:=fnF 4 10 BK
abbrev gS:Stmt:=top 45
abbrev nQ:Te:=["_law_deck_here","_law_ties","_law_many","_law_i","_law_j","_law_room","_law_found","_law_k","_law_way_here","_law_a","_law_b"]
abbrev iI:Te:=["_law_deck_here","_law_ties","_law_many","_law_i","_law_j"]
def sc__law_some_ways:aU nQ iI (aH gS):=56
def gF:SF:=(aY (gC (aD 5) (gT<|aC (aD 9)<|aC (aD 10) aO)<|fC (.int 0))<|gC (aD 5) (gT<|aC (aD 10) aAn)<|fC (.int 0))
abbrev aNI:=aC (aD 5)<|aC (aD 2)<|aC (dW xq5)<|aC (dW xq4) aO
abbrev aMU:=cZ "list" cU (aD 6)<|aC (aP kX<|aC (aD 8) aO) aO
abbrev xq2:=fUn aAr<|fC (.int 1)
abbrev zP:=cR<|fC (.int 1)
def lE:SF:=(aY (aW (sW<|aP nW aNI)<|hName 8)<|sIf (gB<|fOp (eqX true) (aD 8)<|dW aO) (aY (eA aMU)<|nM (lW<|aC (fSl (aD 8) bF<|cR xq2)<|aC (fSl (aD 8) zP bF) aO) (gU 2<|cG (hName 9)<|cG (hName 10) pH) gF) cS)
def mW:SF:=(aY (aW (aP jU xq1)<|hName 5)<|aY (aW (mH aO)<|hName 6)<|aY (nM (fH<|aC (fOp dC xq0<|fC (.int 5)) aO) (hName 7) lE)<|cQ<|aP kX PR)
def gX:FN:=fnF 5 11 mW
abbrev dX:Stmt:=top 10
def nL:aU jR jR (aH dX):=56
def cW:SFX:=(aFM (fX<|gB<|aP bV<|aC (aD 0) xq3) (IY "NoPlace")<|liS cS)
def bS:FX:=fnX 3 3 cW
abbrev iX:Stmt:=inClass (top 21) 1
abbrev DF:Te:=["self","i","j"]
def OE:aU DF DF (aH iX):=56
abbrev aGw:=aC (fC (.int 1)) aO
abbrev aMc:=bI<|aC (fC (.int 0)) aGw
def nV:EF:=aMc
def FS(γ:Ga)(M:Sto):nV γ M=Z (.d (.tuple [(.int 0),(.int 1)]),M):=rfl
abbrev aGy:=aC (aP wY xq3)<|aC (aP vN xq3) aO
def DG:SF:=(cQ<|pK (uT "Web" "weights"<|aD 0) (gT aGy) nV)
def nY:FN:=fnF 3 3 DG
abbrev mV:Stmt:=top 26
abbrev vF:Te:=["web","i","j","thing"]
def aAp:aU vF vF (aH mV):=56
abbrev aDF:=uT "Web" "many"<|aD 0
def EJ:EF:=(fLc [Z 0,Y] (cA<|aD 3) (hName 1) dP<|aP gE<|aC aDF xq1)
def EH:EF:=aMc
def NJ(γ:Ga)(M:Sto):EH γ M=Z (.d (.tuple [(.int 0),(.int 1)]),M):=rfl
def DY:EF:=(fLc [Z 0,Y,Y] (lW<|aC (aD 3)<|aC (fSl (aD 3) zP bF) aO) (gU 2 xq7) dP<|fOp (eqX true) (BA "Web" "tie" nY (aD 0) xq3) EH)
def EN:SF:=(aY (sIf (gOr (fX<|gB<|aP jB xq5)<|gOr (gB<|fOp ltI (aP iE xq5)<|fC (.int 2))<|fX<|gB<|aP FI<|aC EJ aO) zQ cS)<|aY (sIf (gOr (gB<|fOp (eqX true) (fOp ixF (aD 3)<|fC (.int 0))<|aD 1)<|gOr (gB<|fOp (eqX true) (fOp ixF (aD 3) xq2)<|aD 2)<|gB<|fOp ltI (BW xq5)<|aP iE xq5) zQ cS)<|cQ<|aP FI<|aC DY aO)
def xB:FN:=fnF 4 4 EN
abbrev dJ:Stmt:=top 25
abbrev fE:Te:=["web","i","j","ways","steps"]
abbrev iD:Te:=["web","i","j","ways"]
def sc_are_ways_apart:aU fE iD (aH dJ):=56
def kR:EF:=(fLc [Z 0,Z 1,Z 2,Y] (cA<|aD 3) (hName 3) dP<|aP xB<|aC (aD 0)<|aC (aD 1) ZK)
abbrev aFF:=aC (fSl (aD 0) zP bF) aO
def kT:EF:=(aBZ [Y,Y,Y] (cA<|aD 3) (hName 0) dP (lW<|aC (aD 0) aFF) (gU 2 xq7) dP<|bI aGy)
def nF:SFX:=(zA (pF<|xC bS<|liA<|aC aDF xq3)<|liS<|aY (sIf (gOr (fX<|gB<|aP jB xq5)<|fX<|gB<|aP FI<|aC kR aO) zQ cS)<|aY (aW kT<|hName 4)<|cQ<|fOp (eqX false) (xQ xq4)<|aP iE xq4)
def bM:FX:=fnX 4 5 nF
abbrev gM:Stmt:=top 35
abbrev iN:Te:=["_law_thing"]
def sH:aU iN iN (aH gM):=56
def zS(self:FN):EF:=(fLc [Y] (cA<|aD 0) (hName 0) dP<|aP self xT)
def tR(self:FN):SF:=(aY (sIf (gB<|zW "tuple"<|aD 0) (cQ<|zS self) cS)<|cQ<|aD 0)
def cX:Nat->FN
 |0=>fun _ _=>Y
 |n+1=>fnF 1 1<|tR<|cX n
abbrev rL:Stmt:=top 38
abbrev DP:Te:=["_law_deck_here","_law_some"]
abbrev uP:Te:=["_law_deck_here"]
def sc__law_any:aU DP uP (aH rL):=56
abbrev CW:=aC (fC (.int 0)) aO
def nR:EF:=(dW CW)
def eK__law_any_0(γ:Ga)(M:Sto):nR γ M=Z (.d (.list [(.int 0)]),M):=rfl
def oR:EF:=(bI CW)
def eK__law_any_1(γ:Ga)(M:Sto):oR γ M=Z (.d (.tuple [(.int 0)]),M):=rfl
abbrev RB:=fC (.bool true)
def oW:EF:=(dW<|aC (bI<|aC (fC (.int 1)) CW)<|aC (bI<|aC (bI CW) aGw)<|aC (bI<|aC (fC .none) aO)<|aC (bI<|aC RB aO)<|aC (bI<|aC (fC (.int 0))<|aC RB aO)<|aC (bI<|aC (fC (.str "0")) aGw)<|aC (bI<|aC (bI aO) aO)<|aC (bI<|aC (bI aO)<|aC (bI aO) aO) aO)
def eK__law_any_2(γ:Ga)(M:Sto):oW γ M=Z (.d (.list [(.tuple [(.int 1),(.int 0)]),(.tuple [(.tuple [(.int 0)]),(.int 1)]),(.tuple [.none]),(.tuple [(.bool true)]),(.tuple [(.int 0),(.bool true)]),(.tuple [(.str "0"),(.int 1)]),(.tuple [(.tuple [])]),(.tuple [(.tuple []),(.tuple [])])]),M):=rfl
def oA:EF:=(dW<|aC (bI<|aC (fC (.int 0))<|aC (fC (.int 1))<|aC (fC (.int 2))<|aC (fC (.int 40)) aO)<|aC (dW<|aC (dW CW) aO)<|aC (bI<|aC xq2 CW)<|aC (bI<|aC (fC (.int 0)) CW)<|aC (bI<|aC (bI<|aC (fC (.int 0))<|aC (fC (.int 1))<|aC (bI<|aC (fC (.int 1)) aGw) aO) aO) aO)
def eK__law_any_3(γ:Ga)(M:Sto):oA γ M=Z (.d (.list [(.tuple [(.int 0),(.int 1),(.int 2),(.int 40)]),(.list [(.list [(.int 0)])]),(.tuple [(.int (-1)),(.int 0)]),(.tuple [(.int 0),(.int 0)]),(.tuple [(.tuple [(.int 0),(.int 1),(.tuple [(.int 1),(.int 1)])])])]),M):=rfl
abbrev aKG:=fOp ZA (fC (.int 10))<|fC (.int 30)
def EO:SF:=(aY (aW (dW<|aC (fC .none)<|aC RB<|aC ZV<|aC (fC (.int 0))<|aC (fC (.int 1))<|aC xq2<|aC aKG<|aC (fC (.str ""))<|aC (fC (.str "0"))<|aC (fC (.str "01"))<|aC (bI aO)<|aC (dW aO)<|aC CM<|aC (IE [((fC (.int 0)),(fC (.int 1)))])<|aC oR<|aC nR aO)<|hName 1)<|aY (aW (fOp dU (aD 1) oW)<|hName 1)<|aY (aW (fOp dU (aD 1) oA)<|hName 1)<|cQ<|fOp ixF (aD 1)<|fOp dC xq0<|fC (.int 29))
def uK:FN:=fnF 1 2 EO
abbrev gK:Stmt:=top 46
abbrev nA:Te:=["_law_deck_here","_law_ways","_law_many","_law_kind","_law_at","_law_way_here","_law_draw","_law_place","_law_bent","_law_more"]
abbrev hW:Te:=["_law_deck_here","_law_ways","_law_many"]
def sc__law_bent_ways:aU nA hW (aH gK):=56
def fY:EF:=(dW<|aC (bI aO)<|aC (bI CW)<|aC (fC .none)<|aC aMc<|aC (bI<|aC (fC (.int 1)) CW)<|aC (fC (.str "01"))<|aC (bI<|aC (fC (.int 0)) CW)<|aC (fC (.int 7)) aO)
def tK(γ:Ga)(M:Sto):fY γ M=Z (.d (.list [(.tuple []),(.tuple [(.int 0)]),.none,(.tuple [(.int 0),(.int 1)]),(.tuple [(.int 1),(.int 0)]),(.str "01"),(.tuple [(.int 0),(.int 0)]),(.int 7)]),M):=rfl
def fV:EF:=(bI<|aC RB aO)
def tM(γ:Ga)(M:Sto):fV γ M=Z (.d (.tuple [(.bool true)]),M):=rfl
abbrev aNz:=fOp dU (aD 1)<|bI<|aC (fOp ixF fY<|fOp dC xq0<|fC (.int 8)) aO
abbrev xq9:=mH<|aC (NA (aD 5)<|cR xq2)<|aC (fOp dU (fSl (aD 5) bF<|cR<|aD 7)<|fSl (aD 5) (cR aCj) bF)<|aC (fOp dU (aD 5)<|fSl (aD 5) bF zP)<|aC (fSl (aD 5) bF<|cR xq2) aO
abbrev aOI:=bI<|aC (fOp ixF (aD 5)<|fC (.int 0))<|aC (fOp ixF (aD 5) xq2) aO
abbrev aNm:=fSl (fSl (aD 1) (cR<|aD 4)<|cR<|fOp dU (aD 4)<|fC (.int 1)) bF<|cR<|fOp dC (fOp iV (aD 6)<|fC (.int 64))<|fC (.int 2)
def nG:SF:=(aY (aW aAU<|hName 3)<|aY (sIf (gOr (gB<|fOp (eqX false) (aD 1)<|bI aO) aJS) (cQ aNz) cS)<|aY (aW (fOp dC xq0<|aP iE xq1)<|hName 4)<|aY (aW (fOp ixF (aD 1)<|aD 4)<|hName 5)<|aY (aW xq0<|hName 6)<|aY (aW (fOp dC (aD 6)<|aP iE LO)<|hName 7)<|aY (aW xq9<|hName 8)<|aY (eA<|cZ "list" cU (aD 8)<|aC (fOp dU (fOp dU (fSl (aD 5) bF<|cR<|aD 7)<|bI<|aC (fOp dC (fOp iV (aD 6)<|fC (.int 8))<|aD 2) aO)<|fSl (aD 5) (cR<|aD 7) bF) aO)<|aY (eA<|cZ "list" cU (aD 8)<|aC (fOp dU (fOp dU (fSl (aD 5) bF<|cR<|aD 7) fV)<|fSl (aD 5) (cR aCj) bF) aO)<|aY (eA<|cZ "list" cU (aD 8)<|aC (fOp dU (fSl (aD 5) bF<|cR xq2) aOI) aO)<|aY (eA<|cZ "list" cU (aD 8)<|aC aOI aO)<|aY (aW aNm<|hName 9)<|cQ<|fOp dU (fOp dU (fOp dU (fSl (aD 1) bF<|cR<|aD 4)<|bI<|aC (fOp ixF (aD 8)<|fOp KR (aD 3)<|fC (.int 1)) aO)<|fSl (aD 1) (cR<|fOp dU (aD 4)<|fC (.int 1)) bF)<|aD 9)
def hZ:FN:=fnF 3 10 nG
abbrev kQ:Stmt:=top 36
def CZ:aU iN iN (aH kQ):=56
def uA:SF:=(cQ<|MM "list" "tuple"<|aD 0)
def mJ:FN:=fnF 1 1 uA
abbrev gW:Stmt:=top 37
abbrev pS:Te:=["_law_thing","_law_least","_law_most"]
def xV:aU pS pS (aH gW):=56
def jK:SF:=(cQ<|lL (zW "int"<|aD 0)<|lL (aDm<|zW "bool"<|aD 0)<|ED leI leI (aD 1) (aD 0)<|aD 2)
def dZ:FN:=fnF 3 3 jK
abbrev iR:Stmt:=top 42
abbrev nX:Te:=["_law_way_here"]
def FE:aU nX nX (aH iR):=56
def EZ:EF:=(fLc [Y,Y] (lW<|aC (fSl (aD 0) bF<|cR xq2) aFF) aKh dP<|bI<|aC (aP wY FJ)<|aC (aP vN FJ) aO)
def wV:SF:=(cQ EZ)
def fA:FN:=fnF 1 1 wV
abbrev eS:Stmt:=top 43
abbrev iM:Te:=["_law_ties","_law_many","_law_i","_law_j","_law_way_here"]
def DI:aU iM iM (aH eS):=56
abbrev aKH:=aC (fC (.int 0))<|aC (fOp KR (aD 0)<|fC (.int 1)) aO
def jG:EF:=(fLc [Z 1,Y] (cA<|aD 4) (hName 1) (fX<|gB<|aP dZ<|aC (aD 1) aKH)<|aD 1)
def pU:EF:=(fLc [Z 0,Y] (cA<|aP fA xq4) (hName 1) (gB<|vK (aD 1)<|aD 0)<|aD 1)
abbrev aGg:=aP mJ xq4
def uD:SF:=(aY (sIf (gOr (fX<|gB aGg)<|gB<|fOp ltI (aP iE xq4)<|fC (.int 2)) zQ cS)<|aY (sIf (gB<|fOp (eqX true) jG<|dW aO) zQ cS)<|aY (sIf (gOr (gB<|fOp (eqX true) (fOp ixF (aD 4)<|fC (.int 0))<|aD 2)<|gOr (gB<|fOp (eqX true) (fOp ixF (aD 4) xq2)<|aD 3)<|gB<|fOp ltI (BW xq4)<|aP iE xq4) zQ cS)<|cQ<|fOp (eqX false) pU<|dW aO)
def mP:FN:=fnF 5 5 uD
abbrev gV:Stmt:=top 44
abbrev pN:Te:=["_law_ties","_law_many","_law_i","_law_j","_law_ways","_law_steps_here","_law_way_here"]
abbrev jM:Te:=["_law_ties","_law_many","_law_i","_law_j","_law_ways"]
def sc__law_are_ways:aU pN jM (aH gV):=56
abbrev aOh:=gB<|aP mP<|aC (aD 0)<|aC (aD 1)<|aC (aD 2)<|aC (aD 3) PR
def eI:SF:=(aY (sIf (fX aOh) zQ cS)<|aW (fOp dU (aD 5)<|aP fA PR)<|hName 5)
def pX:SF:=(aY (sIf (fX<|gB aGg) zQ cS)<|aY (aW (dW aO)<|hName 5)<|aY (nM (cA<|aD 4) (hName 6) eI)<|cQ<|fOp (eqX false) (xQ LO)<|aP iE LO)
def jJ:FN:=fnF 5 7 pX
abbrev mT:Stmt:=top 47
abbrev vZ:Te:=["_law_world","_law_ties","_law_i","_law_j","_law_ways","_law_kept","_law_found","_law_due"]
abbrev oH:Te:=["_law_world","_law_ties","_law_i","_law_j","_law_ways"]
def sc__law_right:aU vZ oH (aH mT):=56
abbrev aHa:=aC (aD 2)<|aC (aD 3) xq4
abbrev aMO:=aP jJ<|aC (aD 1)<|aC aDF aHa
def vP:SF:=(aY (aW (aP wG xq4)<|hName 5)<|aY (aW (oS bM<|aC (aD 0) aHa)<|hName 6)<|aY (aW aMO<|hName 7)<|cQ<|lL (zW "bool"<|aD 6)<|lL (fOp (eqX false) (aD 6)<|aD 7)<|fOp (eqX false) (aP wG xq4)<|aD 5)
def oP:FN:=fnF 5 8 vP
abbrev lF:Stmt:=top 41
abbrev tO:Te:=["_law_deck_here","_law_i","_law_j","_law_many","_law_some"]
abbrev mM:Te:=["_law_deck_here","_law_i","_law_j","_law_many"]
def sc__law_no_two:aU tO mM (aH lF):=56
def zU:EF:=(bI CW)
abbrev aDB:=aC (aD 1) xq5
def uC:SF:=(aY (aW (dW<|aC (bI<|aC (aD 1) xq1)<|aC (bI aDB)<|aC (bI<|aC xq2 FF)<|aC (bI<|aC (aD 1)<|aC (fC .none) aO)<|aC (bI<|aC (fC (.str "0")) FF)<|aC (bI<|aC (aD 1)<|aC RB aO) aO)<|hName 4)<|aY (aW (fOp dU (aD 4)<|dW<|aC (bI<|aC ZV FF)<|aC (bI<|aC zU FF)<|aC (bI<|aC (aD 1)<|aC aKG aO)<|aC (bI<|aC (aD 3) xq5) aO)<|hName 4)<|cQ<|fOp ixF (aD 4)<|fOp dC xq0<|fC (.int 10))
def iS:FN:=fnF 4 5 uC
abbrev jI:Stmt:=top 48
abbrev rC:Te:=["_law_world","_law_i","_law_j","_law_ways","_law_found","error"]
abbrev lJ:Te:=["_law_world","_law_i","_law_j","_law_ways"]
def sc__law_refused:aU rC lJ (aH jI):=56
def eW:SF:=(aW (lL (QE jA (Z false)<|aD 5)<|QE fQ (Z false)<|aD 5)<|hName 4)
def hV:SFX:=(pF<|xC bM<|liA<|aC (aD 0)<|aC (aD 1) ZK)
def qN:SF:=(aY (aW ZV<|hName 4)<|aY (ZE hV [⟨[("NoPlace",true)],(Z 5),eW⟩])<|cQ<|aD 4)
def gL:FN:=fnF 4 6 qN
abbrev IR:Stmt:=top 49
abbrev aEq:Te:=["_law_script","_law_deck_here","_law_k","_law_many","_law_ties","_law_world","_law_i","_law_j","_law_ways","_law_things","_law_turn","_law_one","_law_other"]
abbrev aHW:Te:=["_law_script"]
def sc_law:aU aEq aHW (aH IR):=56
def LP:SF:=(eA<|cZ "list" cU (aD 9)<|aC (aP hZ<|aC (aD 1)<|aC (aD 8) xq5) aO)
def LV:EF:=(fLc [Z 5,Z 4,Z 6,Z 7,Y] (cA<|aD 9) (hName 4) dP<|aP oP<|aC (aD 0)<|aC (aD 1) aHa)
abbrev aOJ:=fOp dU (fC (.int 2))<|fOp dC aLR<|fC (.int 7)
abbrev aLY:=aC (aD 3)<|aC (aP lX xq4) aO
abbrev aNf:=aP gX<|aC (aD 1)<|aC (aD 4)<|aC (aD 3)<|aC (aD 6)<|aC (aD 7) aO
abbrev aMQ:=gOr (fX<|gB<|oS bM<|aC (aD 5)<|aC (aD 6)<|aC (aD 7)<|aC (aD 8) aO)<|fX<|gB<|oS bM<|aC (aD 5)<|aC (aD 6)<|aC (aD 7)<|aC (aP (cX 8)<|aC (aD 8) aO) aO
abbrev xq6:=mH<|aC (NA (aD 8)<|cR xq2)<|aC (bI aO)<|aC (dW aO)<|aC (fOp dU (aD 8)<|fSl (aD 8) bF zP)<|aC (bI<|aC (bI<|aC (aD 6)<|aC (aD 7) aO) aO)<|aC (bI<|aC (bI<|aC (aD 6)<|aC (aD 7) aO)<|aC (bI<|aC (aD 6)<|aC (aD 7) aO) aO) aO
abbrev aEC:=aP uK xq1
abbrev aOA:=fOp FQ (aD 9)<|dW<|aC aEC<|aC aEC aO
abbrev aJW:=cZ "list" cU (aD 9)<|aC (aP (cX 8)<|aC (fOp ixF (aD 9) xq2) aO) aO
abbrev aNd:=aC (aD 1)<|aC (aD 6)<|aC (aD 7) xq5
abbrev aLl:=aP gL<|aC (aD 5)<|aC (aD 11)<|aC (aD 12)<|aC (aD 8) aO
abbrev aJO:=aP gL<|aC (aD 5)<|aC (aD 11)<|aC (aD 12)<|aC aEC aO
def XO:SF:=(aY (aW aOJ<|hName 3)<|aY (aW (aP oB aDB)<|hName 4)<|aY (QC 4<|aW (IK "Web" gJ aLY)<|hName 5)<|aY (aW (aP oX aDB)<|gU 2<|cG (hName 6)<|cG (hName 7) pH)<|aY (aW aNf<|hName 8)<|aY (sIf aMQ zQ cS)<|aY (aW xq6<|hName 9)<|aY (aW aOA<|hName 9)<|aY (nM (fH<|aC (fC (.int 6)) aO) (hName 10) LP)<|aY (aDj 9<|eA aJW)<|aY (sIf (fX<|gB<|aP FI<|aC LV aO) zQ cS)<|aY (aW (aP iS aNd)<|gU 2<|cG (hName 11)<|cG (hName 12) pH)<|sIf (gOr (fX<|gB aLl)<|fX<|gB aJO) zQ cS)
abbrev aOM:=aP qQ<|aC (aD 0)<|aC (fC (.int 480)) aO
def aIH:SF:=(aY (aW aOM<|hName 1)<|aY (nM (fH<|aC (fC (.int 4)) aO) (hName 2) XO)<|cQ RB)
def F_law:FN:=fnF 1 13 aIH
structure Txt(K:Fg)(mg:Str->Ti):Prop where
 hB:YU mg ["ValueError","all","bool","enumerate","int","isinstance","len","list","max","min","range","repr","set","sorted","tuple","zip"]
 v99:∃t:Tok,mg "MOST_ABOVE"=Z (.int 1000000000000 t)
 v100:∃t:Tok,mg "BELOW"=Z (.int 55440 t)
 v101:∃t:Tok,mg "MOST_PLACES"=Z (.int 40 t)
 v92:mg "NoPlace"=Z (.ref (bQ K "NoPlace"))
 v20:W.excIn K (bQ K "NoPlace") bmV "ValueError.__new__"=true
 v93:mg "Web"=Z (.ref (bQ K "Web"))
 v94:Cls K (bQ K "Web")
 v26:iJ K (bQ K "Web") "many"
 v27:W.exmOne K (.ref (bQ K "NoPlace")) (.ref (bQ K "NoPlace"))=Z true
 v95:XC K (bQ K "NoPlace")
 v36:NP K (.type "ValueError") fQ=true
 v37:W.kitOne K (.type "NoneType") (.type "ValueError")=Z false
 v96:mg "CutError"=Z (.ref (bQ K "CutError"))
 v39:NP K (.ref (bQ K "CutError")) jA=true
 v40:W.kitOne K (.type "NoneType") (.ref (bQ K "CutError"))=Z false
 v41:iJ K (bQ K "Web") "ties"
 v42:iJ K (bQ K "Web") "weights"
 v97:UB K "Web" "__init__" "Web.__init__" fB
 v48:W.makesIn K (bQ K "Web")=true
 v49:W.keepIn K (.ref (bQ K "Web"))=true
 v98:UB K "Web" "tie" "Web.tie" iX
 v55:Def K mg "_law_deck" oZ
 v56:Def K mg "_law_pairs" mL
 v57:Def K mg "_law_weight" kJ
 v58:Def K mg "_law_web" qI
 v59:Def K mg "is_whole" rW
 v60:Def K mg "is_row" yJ
 v61:Def K mg "common" xG
 v62:Def K mg "is_row_of" pB
 v63:Def K mg "has_amount_numbers" eF
 v64:Def K mg "is_in_parts" lA
 v65:Def K mg "is_weight" pL
 v66:Def K mg "is_place" rF
 v67:Def K mg "are_unlike_places" eT
 v68:Def K mg "is_between_places" eU
 v69:Def K mg "is_tie" xK
 v70:Def K mg "kept_ties" kA
 v71:Def K mg "_law_lowest" kZ
 v72:Def K mg "_law_rows" jZ
 v73:Def K mg "_law_two" sD
 v74:Def K mg "_law_rooms" mS
 v75:Def K mg "_law_way" qS
 v76:Def K mg "_law_some_ways" gS
 v77:Def K mg "refuse_no_two_places" dX
 v78:Def K mg "is_way" mV
 v79:Def K mg "are_ways_apart" dJ
 v80:Def K mg "_law_listed" gM
 v81:Def K mg "_law_any" rL
 v82:Def K mg "_law_bent_ways" gK
 v83:Def K mg "_law_is_row" kQ
 v84:Def K mg "_law_is_whole" gW
 v85:Def K mg "_law_steps" iR
 v86:Def K mg "_law_is_way" eS
 v87:Def K mg "_law_are_ways" gV
 v88:Def K mg "_law_right" mT
 v89:Def K mg "_law_no_two" lF
 v90:Def K mg "_law_refused" jI
 v91:Def K mg "law" IR
section
variable{P:Uh}{w:World}{K:Fg}{mg:Str->Ti}{base:Heap}
def VU(T:Txt K mg):∀nm∈(["NoPlace"]:Te),XC K (bQ K nm):=(aBd T.v95 aFw)
def IM(T:Txt K mg):Callee P w K mg base 1 "_law_deck" rX (spM K qQ):=
 T.v55.okG (N:=zL) (ps:=rX) (k:=0) (b:=zH) sc__law_deck (by sleep 992) fun f cdv A outer s H E a=>
  (aJ (bB 2 (fun _=>sc__law_deck.nd)<|mY (WA fun _=>rfl) 55 boot_list<|aA (aB 0) aE)
   (aJ (dE (bT (aOC 51 fun _=>a.units) (aB 2)<|dD aE)
    (aN<|bB 2 (fun _=>sc__law_deck.nd)<|rV<|aA aF aE)
    cK)
   (aJ (bB 3 (fun _=>sc__law_deck.nd)<|aS cL (bX dM (aB 2) aF) aF)
   (aJ (JA (aS kO (bX dM (aB 2) aF) aF)<|aCo aHY (aB 2) aF)
   (aJ (bB 4 (fun _=>sc__law_deck.nd)<|rV aE)
   (aJ (iK (fun _=>L8) 51 (gR 55<|aA (aB 1) aE) (bA 5 fun _=>sc__law_deck.nd)
    (aJ (bB 6 (fun _=>sc__law_deck.nd)<|aS cL (aB 5)<|bL qP 55 A1w<|aA (aB 2) aE)
   (aJ (bB 7 (fun _=>sc__law_deck.nd)<|aS cL (bX dM (aB 2)<|aB 6) aF)
   (aJ (dE (bT (qB 51 fun _=>a.units) (aB 3) aF)
    (aJ (bB 7 (fun _=>sc__law_deck.nd)<|aS cL (aS dA (aS dA (bX dM (aB 2)<|aB 6)<|aS ID (aS ID (aB 5)<|aB 5) aF)<|aS ID aF<|aB 5) aF)
   (aJ (bB 7 (fun _=>sc__law_deck.nd)<|aS cL (aS dA (aS ID (aB 7)<|bX dM (dD<|aA aF<|aA aF<|aA aF<|aA aF aE)<|aS cL (aB 5) aF) aF) aF)
   (aN (bB 7 (fun _=>sc__law_deck.nd) (aS cL (aS ID (aB 7) (aB 7)) aF)))))
    (aN (JA (aS kO (bX dM (aB 2) (aB 6)) aF) (aCo aHY (aB 2) (aB 6)))))
   (aN (fU (eC 51 (aB 4) (aA (aB 7) aE))))))))
   (aJ (fU<|RH 51<|aB 4)
   (aN (bD (aB 4))))))))))
def FL(T:Txt K mg):Callee P w K mg base 1 "_law_pairs" pM (spM K fF):=
 T.v56.okG (N:=wX) (ps:=pM) (k:=0) (b:=nT) sc__law_pairs (by sleep 992) fun f cdv A outer s H E a=>
  (aJ (bB 2 (fun _=>sc__law_pairs.nd)<|aS cL (fI 51<|aB 0) aF)
   (aJ (bB 3 (fun _=>sc__law_pairs.nd)<|rV aE)
   (aJ (dE (bT zT (aB 2) aF)
    (aJ (sT 3 (fun _=>sc__law_pairs.nd) (N':=(["_law_many","_law_k"]:Te)) (cap:=[Z 1,Y]) 51 (by sleep 987) (gR 55<|aA (aB 1) aE) (bA 1 57) gA<|aV<|aA (aB 1)<|aA (aS cL (aS dA (aB 1) aF)<|aB 0) aE)
   (aN (dE (bT (qB 51 fun _=>a.units) (aB 2) aF)
    (aJ (bB 4 (fun _=>sc__law_pairs.nd)<|fI 51<|aB 0)
   (aN (bB 3 (fun _=>sc__law_pairs.nd) (aS (xY 51) (aB 3) (dD (aA (aV (aA (aS cL (aB 4) (aB 1)) (aA (aS cL (aS kO (aB 4) aF) (aB 1)) aE))) (aA (aV (aA (aS cL (aS kO (aB 4) aF) (aB 1)) (aA (aS cL (aS kO (aB 4) aF) (aB 1)) aE))) aE)))))))
    cK)))
    (aN (dE (bT (qB 51 fun _=>a.units) (aB 2) aF)
    (aN<|sT 3 (fun _=>sc__law_pairs.nd) (N':=(["_law_k"]:Te)) (cap:=[Y]) 51 (by sleep 987) (LA 55<|aA aF<|aA (aB 1) aE) (bA 0 57) gA<|aV<|aA aF<|aA (aB 0) aE)
    (aN (dE (bT (qB 51 fun _=>a.units) (aB 2) aF)
    (aN<|sT 3 (fun _=>sc__law_pairs.nd) (N':=(["_law_deck_here","_law_k"]:Te)) (cap:=[Z 0,Y]) 51 (by sleep 987) (LA 55<|aA aF<|aA (aB 1) aE) (bA 1 57) gA<|aV<|aA (aS cL (fI 51<|aB 0)<|aB 1)<|aA (aB 1) aE)
    (aN (dE (bT (qB 51 fun _=>a.units) (aB 2) aF)
    (aJ (bB 5 (fun _=>sc__law_pairs.nd)<|aS kO (aB 1) aF)
   (aJ (iK (fun _=>L8) 51 (gR 55<|aA (aB 1) aE) (bA 6 fun _=>sc__law_pairs.nd)
    (aN (bB 3 (fun _=>sc__law_pairs.nd) (aS (xY 51) (aB 3) (nD (N':=(["_law_j","_law_middle","_law_i"]:Te)) (cap:=[Z 6,Z 5,Y]) 51 (by sleep 987) (gR 55 (aA (aB 6) aE)) (bA 2 57) (EI (bT (qB 51 (fun _=>a.units)) (fM zT (aB 2) (aB 1)) (fM zT (aB 0) (aB 1)))) (aV (aA (aB 2) (aA (aB 0) aE))))))))
   (aN (fU (eC 51 (aB 3) (aA (aV (aA aF (aA (aS GZ (aB 1) aF) aE))) aE))))))
    (aN (dE (bT (qB 51 fun _=>a.units) (aB 2) aF)
    (aJ (bB 5 (fun _=>sc__law_pairs.nd)<|aS kO (aB 1) aF)
   (aJ (sT 3 (fun _=>sc__law_pairs.nd) (N':=(["_law_middle","_law_k"]:Te)) (cap:=[Z 5,Y]) 51 (by sleep 987) (gR 55<|aA (aS dA (aB 5) aF) aE) (bA 1 57) gA<|aV<|aA (aB 1)<|aA (aS cL (aS dA (aB 1) aF)<|aS dA (aB 0) aF) aE)
   (aN (bB 3 (fun _=>sc__law_pairs.nd) (aS (xY 51) (aS (xY 51) (aB 3) (nD (N':=(["_law_k"]:Te)) (cap:=[Y]) 51 (by sleep 987) (LA 55 (aA (aB 5) (aA (aS GZ (aB 1) aF) aE))) (bA 0 57) gA (aV (aA (aB 0) (aA (aS dA (aB 0) aF) aE))))) (dD (aA (aV (aA (aB 5) (aA (aS GZ (aB 1) aF) aE))) aE)))))))
    (aN (dE (bT zT (aB 2) aF)
    (aN (iK (fun _=>L8) 51 (gR 55<|aA (aB 1) aE) (bA 6 fun _=>sc__law_pairs.nd)
    (aN (bB 3 (fun _=>sc__law_pairs.nd) (aS (xY 51) (aB 3) (nD (N':=(["_law_j","_law_deck_here","_law_i"]:Te)) (cap:=[Z 6,Z 0,Y]) 51 (by sleep 987) (gR 55 (aA (aB 6) aE)) (bA 2 57) (EI (bT aAf (aS cL (fI 51 (aB 1)) aF) aF)) (aV (aA (aB 2) (aA (aB 0) aE)))))))))
    cK)))))))))))
   (aN (bD (aB 3))))))
def CB(T:Txt K mg):Callee P w K mg base 1 "_law_weight" mG (spM K iP):=
 T.v57.okG (N:=tX) (ps:=mG) (k:=0) (b:=mD) sc__law_weight (by sleep 991) fun f cdv A outer s H E a=>
  (aJ (bB 1 (fun _=>sc__law_weight.nd)<|dD<|aA aF<|aA aF<|aA aF<|aA aF<|aA aF<|aA aF<|aA aF<|aA aF<|aA (aS ID aF<|aS aBe aF aF)<|aA aF<|aA aF<|aA aF aE)
   (aN (bD (bX dM (aB 1) (aS cL (aB 0) aF)))))
def OX(T:Txt K mg):Callee P w K mg base 2 "_law_web" pM (spM K oB):=
 T.v58.okG (N:=CQ) (ps:=pM) (k:=1) (b:=BH) sc__law_web (by sleep 992) fun f cdv A outer s H E a=>
  (aJ (bB 2 (fun _=>sc__law_web.nd)<|fI 51<|aB 0)
   (aJ (bB 3 (fun _=>sc__law_web.nd) DO)
   (aJ (iK (fun _=>L8) 51 (iF 51<|GM<|aX (fun _=>FL T) a.le<|aA (aB 0)<|aA (aB 1) aE) (gZ 51 51<|bK (bA 4 fun _=>sc__law_web.nd)<|bK (bA 5 fun _=>sc__law_web.nd) eZ)
    (aJ (bB 6 (fun _=>sc__law_web.nd) aF)
   (aJ (dE (bT (qB 51 fun _=>a.units) (aS cL (aB 2) aF) aF)
    (aN<|bB 6 (fun _=>sc__law_web.nd)<|aX (fun _=>CB T) a.le<|aA (fI 51<|aB 0) aE)
    cK)
   (aN (dE (yC<|aBb (bT (JF 51 fun _=>a.units) (aB 4)<|aB 5)<|YA<|bT aAf (aB 6) aF)
    (aN<|lQ (fun _=>a.u1) (aB 3) (hJ<|aA (bL (JZ fun _=>rfl) 55 boot_min<|aA (aB 4)<|aA (aB 5) aE)<|aA (bL (IX fun _=>rfl) 55 boot_max<|aA (aB 4)<|aA (aB 5) aE) aE)<|aB 6)
    cK)))))
   (aN (bD (aB 3))))))
def mB(T:Txt K mg):Callee P w K mg base 1 "is_whole" AY (spM K fW):=
 T.v59.okG (N:=AY) (ps:=AY) (k:=0) (b:=EA) PQ (by sleep 991) fun f cdv A outer s H E a=>
  (aN<|bD<|eP (xM (T:="int") 51 52 (aB 0) (fun _=>cD) 55 55 boot_int)<|jN<|aCV<|xM (T:="bool") 51 52 (aB 0) (fun _=>cD) 55 55 boot_bool)
def sY(T:Txt K mg):Callee P w K mg base 1 "is_row" AY (spM K jB):=
 T.v60.okG (N:=AY) (ps:=AY) (k:=0) (b:=OG) aAo (by sleep 991) fun f cdv A outer s H E a=>
  (aN<|bD<|XD (T:="list") (U:="tuple") 51 52 52 (aB 0) (fun _=>cD) 55 55 55 boot_list A2p)
def YF(T:Txt K mg):Callee P w K mg base 1 "common" QP (spM K DC):=
 T.v61.okG (N:=QP) (ps:=QP) (k:=0) (b:=PJ) sc_common (by sleep 992) fun f cdv A outer s H E a=>
  (aJ (vT (fun _=>L8) (aJY 51<|aB 1)<|aN<|TV 0 1 51 (fun _=>sc_common.nd)<|aA (aB 1)<|aA (aS cL (aB 0)<|aB 1) aE)
   (aN (bD (aB 0))))
def vS(T:Txt K mg):Callee P w K mg base 2 "is_row_of" zI (spM K lN):=
 T.v62.okG (N:=zI) (ps:=zI) (k:=1) (b:=zG) IS (by sleep 992) fun f cdv A outer s H E a=>
  (aN<|bD<|eP (aX (fun _=>sY T) a.le<|aA (aB 0) aE)<|jN<|fM (qB 51 fun _=>a.units) (bL qP 55 A1w<|aA (aB 0) aE)<|aB 1)
def qC(T:Txt K mg):Callee P w K mg base 3 "has_amount_numbers" AY (spM K bZ):=
 T.v63.okG (N:=AY) (ps:=AY) (k:=2) (b:=cJ) pZ (by sleep 991) fun f cdv A outer s H E a=>
  (aJ (dE (yC<|jQ (dR<|dN<|aX (fun _=>vS T) a.le<|aA (aB 0)<|aA aF aE)<|jQ (dR<|dN<|aX (fun _=>mB T) a.le<|aA (bX dM (aB 0) aF) aE)<|kP<|dR<|dN<|aX (fun _=>mB T) a.le<|aA (bX dM (aB 0) aF) aE)
   (aN<|bD fR)
   cK)
   (aN (bD (eP (fM aOE (bX dM (aB 0) aF) aF) (jN (fM aOE (bX dM (aB 0) aF) aF))))))
def CT(T:Txt K mg):Callee P w K mg base 4 "is_in_parts" AY (spM K cY):=
 T.v64.okG (N:=AY) (ps:=AY) (k:=3) (b:=eD) CC (by sleep 991) fun f cdv A outer s H E a=>
  (aN<|bD<|eP (aX (fun _=>qC T) a.le<|aA (aB 0) aE)<|eP (fM (qB 51 fun _=>a.units) (aS cL (DH fun _=>T.v100)<|bX dM (aB 0) aF) aF)<|jN<|fM (qB 51 fun _=>a.units) (aX (fun _=>YF T) a.le<|aA (bX dM (aB 0) aF)<|aA (bX dM (aB 0) aF) aE) aF)
def JL(T:Txt K mg):Callee P w K mg base 5 "is_weight" AY (spM K eO):=
 T.v65.okG (N:=AY) (ps:=AY) (k:=4) (b:=iY) JQ (by sleep 991) fun f cdv A outer s H E a=>
  (aN<|bD<|eP (aX (fun _=>CT T) a.le<|aA (aB 0) aE)<|jN<|fM aHF (bX dM (aB 0) aF)<|DH fun _=>T.v99)
def sA(T:Txt K mg):Callee P w K mg base 2 "is_place" DL (spM K gE):=
 T.v66.okG (N:=DL) (ps:=DL) (k:=1) (b:=nZ) NM (by sleep 992) fun f cdv A outer s H E a=>
  (aN<|bD<|eP (aX (fun _=>mB T) a.le<|aA (aB 1) aE)<|jN<|QD aHF zT aF (aB 1)<|aB 0)
def iU(T:Txt K mg):Callee P w K mg base 3 "are_unlike_places" jR (spM K bV):=
 T.v67.okG (N:=jR) (ps:=jR) (k:=2) (b:=cT) rR (by sleep 993) fun f cdv A outer s H E a=>
  (aN<|bD<|eP (aX (fun _=>sA T) a.le<|aA (aB 0)<|aA (aB 1) aE)<|eP (aX (fun _=>sA T) a.le<|aA (aB 0)<|aA (aB 2) aE)<|jN<|fM (JF 51 fun _=>a.units) (aB 1)<|aB 2)
def qG(T:Txt K mg):Callee P w K mg base 4 "is_between_places" DL (spM K bN):=
 T.v68.okG (N:=DL) (ps:=DL) (k:=3) (b:=cP) qO (by sleep 992) fun f cdv A outer s H E a=>
  (aN<|bD<|eP (aX (fun _=>vS T) a.le<|aA (aB 1)<|aA aF aE)<|eP (aX (fun _=>iU T) a.le<|aA (aB 0)<|aA (bX dM (aB 1) aF)<|aA (bX dM (aB 1) aF) aE)<|jN<|fM zT (bX dM (aB 1) aF)<|bX dM (aB 1) aF)
def ZI(T:Txt K mg):Callee P w K mg base 6 "is_tie" DL (spM K kN):=
 T.v69.okG (N:=DL) (ps:=DL) (k:=5) (b:=nB) YQ (by sleep 992) fun f cdv A outer s H E a=>
  (aN<|bD<|eP (aX (fun _=>qG T) a.le<|aA (aB 0)<|aA (aB 1) aE)<|jN<|aX (fun _=>JL T) a.le<|aA (bX dM (aB 1) aF) aE)
def JS(T:Txt K mg):Callee P w K mg base 7 "kept_ties" sN (spM K iW):=
 T.v70.okG (N:=rQ) (ps:=sN) (k:=6) (b:=qJ) sc_kept_ties (by sleep 992) fun f cdv A outer s H E a=>
  (aJ (dE (dR<|dN<|aX (fun _=>sY T) a.le<|aA (aB 1) aE)
   (aN DT)
   cK)
   (aJ (bB 2 (fun _=>sc_kept_ties.nd) DO)
   (aJ (iK (fun _=>L8) 51 (aFc 51 55<|aA (aB 1) aE) (gZ 51 51<|bK (bA 3 fun _=>sc_kept_ties.nd)<|bK (bA 4 fun _=>sc_kept_ties.nd) eZ)
    (aJ (dE (yC<|jQ (dR<|dN<|aX (fun _=>ZI T) a.le<|aA (aB 0)<|aA (aB 4) aE)<|kP<|aMl (fun _=>a.u1) (hJ<|aA (bX dM (aB 4) aF)<|aA (bX dM (aB 4) aF) aE)<|aB 2)
    (aN DT)
    cK)
   (aN (lQ (fun _=>a.u1) (aB 2) (hJ (aA (bX dM (aB 4) aF) (aA (bX dM (aB 4) aF) aE))) (mY (AE 51) 55 A2p (aA (bX dM (aB 4) aF) aE))))))
   (aN (bD (mY (AE 51) 55 A2p (aA (nD (N':=(["i","j","weight"]:Te)) (cap:=[Y,Y,Y]) 51 (fun _=>eX (sc0:=aH kA) (N:=rQ) rfl rfl rfl) (iF 51 (aBq 51 (fun _=>a.units2) 51 55 (aB 2))) (gZ 51 51 (bK (gZ 51 51 (bK (bA 0 57) (bK (bA 1 57) eZ))) (bK (bA 2 57) eZ))) (EI (bT aAf (bX dM (aB 2) aF) aF)) (aV (aA (aB 0) (aA (aB 1) (aA (aB 2) aE))))) aE)))))))
def IT(T:Txt K mg):IU P w K mg base 8 "Web" sI (spM K gJ):=
 T.v97.okI (N:=sI) (ps:=sI) (k:=7) (b:=sJ) T.v48 T.v49 T.v93 JY (by sleep 993) fun f cdv A outer s H E a=>
  (aJ (dE (yC<|jQ (dR<|dN<|aX (fun _=>mB T) a.le<|aA (aB 1) aE)<|jQ (bT zT (aB 1) aF)<|kP<|bT aAf (aB 1)<|DH fun _=>T.v101)
   (aN DT)
   cK)
   (aJ (TU (nm:="Web") 51 T.v94 T.v26 (aB 0)<|aB 1)
   (aJ (TU (nm:="Web") 51 T.v94 T.v41 (aB 0)<|aX (fun _=>JS T) a.le<|aA (aB 1)<|aA (aB 2) aE)
   (aN (TU (nm:="Web") 51 T.v94 T.v42 (aB 0) (aLZ (N':=(["i","j","weight"]:Te)) (cap:=[Y,Y,Y]) (fun _=>a.u0) 51 (fun _=>eX (sc0:=aH fB) (N:=sI) rfl rfl rfl) (iF 51 (CA (nm:="Web") 51 T.v94 T.v41 (aB 0))) (gZ 51 51 (bK (bA 0 57) (bK (bA 1 57) (bK (bA 2 57) eZ)))) gA (hJ (aA (aB 0) (aA (aB 1) aE))) (aB 2)))))))
def CL(T:Txt K mg):Callee P w K mg base 1 "_law_lowest" mC (spM K iL):=
 T.v71.okG (N:=tN) (ps:=mC) (k:=0) (b:=mI) sc__law_lowest (by sleep 992) fun f cdv A outer s H E a=>
  (aJ (TV 2 3 51 (fun _=>sc__law_lowest.nd)<|aA (aB 0)<|aA (aB 1) aE)
   (aJ (vT (fun _=>L8) (bT aAf (aB 3) aF)<|aN<|TV 2 3 51 (fun _=>sc__law_lowest.nd)<|aA (aB 3)<|aA (aS cL (aB 2)<|aB 3) aE)
   (aN (bD (aV (aA (aS kO (aB 0) (aB 2)) (aA (aS kO (aB 1) (aB 2)) aE)))))))
def IW(T:Txt K mg):Callee P w K mg base 2 "_law_rows" qH (spM K lX):=
 T.v72.okG (N:=qH) (ps:=qH) (k:=1) (b:=qK) JX (by sleep 991) fun f cdv A outer s H E a=>
  (aN<|bD<|nD (N':=(["_law_ties","_law_i","_law_j"]:Te)) (cap:=[Z 0,Y,Y]) 51 (fun _=>eX (sc0:=aH jZ) (N:=qH) rfl rfl rfl) (iF 51<|bL (aHp 51 (fun _=>a.units2) fun _=>rfl) 55 boot_sorted<|aA (aB 0) aE) (gZ 51 51<|bK (bA 1 57)<|bK (bA 2 57) eZ) gA<|aV<|aA (aB 1)<|aA (aB 2)<|aA (aX (fun _=>CL T) a.le<|aA (vJ (fun _=>a.u1) (aB 0)<|hJ<|aA (aB 1)<|aA (aB 2) aE)<|aA aF aE) aE)
def NT(T:Txt K mg):Callee P w K mg base 1 "_law_two" pM (spM K oX):=
 T.v73.okG (N:=DW) (ps:=pM) (k:=0) (b:=CS) sc__law_two (by sleep 992) fun f cdv A outer s H E a=>
  (aJ (bB 2 (fun _=>sc__law_two.nd)<|aS cL (fI 51<|aB 0)<|aB 1)
   (aN (bD (aV (aA (aB 2) (aA (aS cL (aS dA (aS dA (aB 2) aF) (aS cL (fI 51 (aB 0)) (aS GZ (aB 1) aF))) (aB 1)) aE))))))
def FD(T:Txt K mg):Callee P w K mg base 1 "_law_rooms" qH (spM K jU):=
 T.v74.okG (N:=xE) (ps:=qH) (k:=0) (b:=wA) sc__law_rooms (by sleep 991) fun f cdv A outer s H E a=>
  (aJ (bB 1 (fun _=>sc__law_rooms.nd) DO)
   (aJ (iK (fun _=>L8) 51 (aGv<|aB 0) (gZ 51 51<|bK (bA 2 fun _=>sc__law_rooms.nd)<|bK (bA 3 fun _=>sc__law_rooms.nd) eZ)
    (aJ (lQ (fun _=>a.u1) (aB 1) (hJ<|aA (aB 2)<|aA (aB 3) aE)<|vJ (fun _=>a.u1) (aB 0)<|hJ<|aA (aB 2)<|aA (aB 3) aE)
   (aN (lQ (fun _=>a.u1) (aB 1) (hJ (aA (aB 3) (aA (aB 2) aE))) (vJ (fun _=>a.u1) (aB 0) (hJ (aA (aB 2) (aA (aB 3) aE))))))))
   (aN (bD (aB 1)))))
def OO(T:Txt K mg):Callee P w K mg base 1 "_law_way" uV (spM K nW):=
 T.v75.okG (N:=BC) (ps:=uV) (k:=0) (b:=BK) sc__law_way (by sleep 994) fun f cdv A outer s H E a=>
  (aJ (bB 4 (fun _=>sc__law_way.nd) aCr)
   (aJ (iK (fun _=>L8) 51 (iF 51<|aB 2) (bA 5 fun _=>sc__law_way.nd)
    (aN (lQ (fun _=>a.u1) (aB 4) (mk_one (aB 5)) xN)))
   (aJ (bB 6 (fun _=>sc__law_way.nd)<|mY (WA fun _=>rfl) 55 boot_list<|aA (aB 2) aE)
   (aJ (bB 7 (fun _=>sc__law_way.nd) aF)
   (aJ (vT (fun _=>L8) (bT zT (aB 7)<|bL qP 55 A1w<|aA (aB 6) aE) (aJ (bB 5 (fun _=>sc__law_way.nd)<|bX dM (aB 6)<|aB 7)
   (aJ (bB 7 (fun _=>sc__law_way.nd)<|aS dA (aB 7) aF)
   (aJ (dE (bT (aPb 51 fun _=>a.units1) (aB 5)<|aB 3)
    (aJ (bB 8 (fun _=>sc__law_way.nd)<|rV<|aA (aB 5) aE)
   (aJ (vT (fun _=>L8) (bT aLk (vJ (fun _=>a.u1) (aB 4)<|mk_one<|bX dM (aB 8) aF) xN)<|aN<|fU<|aGM 51 (aB 8)<|aA aF<|aA (vJ (fun _=>a.u1) (aB 4)<|mk_one<|bX dM (aB 8) aF) aE)
   (aN (bD (aB 8)))))
    cK)
   (aN (iK (fun _=>L8) 51 (gR 55<|aA (aB 1) aE) (bA 9 fun _=>sc__law_way.nd)
    (aN (dE (yC<|aBb (aAD (fun _=>a.u1) (mk_one<|aB 9)<|aB 4)<|YA<|bT aAf (OJ (fun _=>a.u1) (aB 0) (hJ<|aA (aB 5)<|aA (aB 9) aE) aF (fun _=>kL) fun _=>FV) aF)
    (aJ (lQ (fun _=>a.u1) (aB 4) (mk_one<|aB 9)<|aB 5)
   (aN (fU (eC 51 (aB 6) (aA (aB 9) aE)))))
    cK))))))))
   (aN (bD (rV aE))))))))
def wR(T:Txt K mg):Callee P w K mg base 2 "_law_some_ways" iI (spM K gX):=
 T.v76.okG (N:=nQ) (ps:=iI) (k:=1) (b:=mW) sc__law_some_ways (by sleep 995) fun f cdv A outer s H E a=>
  (aJ (bB 5 (fun _=>sc__law_some_ways.nd)<|aX (fun _=>FD T) a.le<|aA (aB 1) aE)
   (aJ (bB 6 (fun _=>sc__law_some_ways.nd)<|rV aE)
   (aJ (iK (fun _=>L8) 51 (gR 55<|aA (aS cL (fI 51<|aB 0) aF) aE) (bA 7 fun _=>sc__law_some_ways.nd)
    (aJ (bB 8 (fun _=>sc__law_some_ways.nd)<|GM<|aX (fun _=>OO T) a.le<|aA (aB 5)<|aA (aB 2)<|aA (dD<|aA (aB 3) aE)<|aA (dD<|aA (aB 4) aE) aE)
   (aN (dE (bT (JF 51 fun _=>a.units) (aB 8)<|dD aE)
    (aJ (fU<|eC 51 (aB 6)<|aA (mY (AE fun _=>rfl) 55 A2p<|aA (aB 8) aE) aE)
   (aN (iK (fun _=>L8) 51 (AS 51 55<|aA (gH 51 (aB 8) cV<|cB<|lY lR aF)<|aA (gH 51 (aB 8) (cB aF) cV) aE) (gZ 51 51<|bK (bA 9 fun _=>sc__law_some_ways.nd)<|bK (bA 10 fun _=>sc__law_some_ways.nd) eZ)
    (aJ (lQ (fun _=>a.u1) (aB 5) (hJ<|aA (aB 9)<|aA (aB 10) aE) aF)
   (aN (lQ (fun _=>a.u1) (aB 5) (hJ (aA (aB 10) (aA (aB 9) aE))) aF))))))
    cK))))
   (aN (bD (mY (AE 51) 55 A2p (aA (aB 6) aE)))))))
def nH(T:Txt K mg):pA P w K mg base 4 "refuse_no_two_places" jR (spX K bS):=
 T.v77.okX (N:=jR) (ps:=jR) (k:=3) (b:=cW) nL (by sleep 993) fun f cdv A outer s H E a=>
  (KH (aLr (dR<|dN<|aX (fun _=>iU T) a.le<|aA (aB 0)<|aA (aB 1)<|aA (aB 2) aE)
   (KH<|RW (fun i=>aIl i) 51 51 (fun _=>T.v92) T.v20)
   (aAV cK)))
def NO(T:Txt K mg):JG P w K mg base 1 "Web" "tie" DF (spM K nY):=
 T.v98.okM (N:=DF) (ps:=DF) (k:=0) (b:=DG) OE (by sleep 993) fun f cdv A outer s H E a=>
  (aN<|bD<|OJ (fun _=>a.u1) (CA (nm:="Web") 51 T.v94 T.v42<|aB 0) (hJ<|aA (bL (JZ fun _=>rfl) 55 boot_min<|aA (aB 1)<|aA (aB 2) aE)<|aA (bL (IX fun _=>rfl) 55 boot_max<|aA (aB 1)<|aA (aB 2) aE) aE) (aV<|aA aF<|aA aF aE) (fun _=>kL) fun _=>kL)
def YH(T:Txt K mg):Callee P w K mg base 3 "is_way" vF (spM K xB):=
 T.v78.okG (N:=vF) (ps:=vF) (k:=2) (b:=EN) aAp (by sleep 994) fun f cdv A outer s H E a=>
  (aJ (dE (yC<|jQ (dR<|dN<|aX (fun _=>sY T) a.le<|aA (aB 3) aE)<|jQ (bT zT (bL qP 55 A1w<|aA (aB 3) aE) aF)<|kP<|dR<|dN<|bL (XT 51 fun _=>rfl) 55 boot_all<|aA (nD (N':=(["web","place"]:Te)) (cap:=[Z 0,Y]) 51 (fun _=>eX (sc0:=aH mV) (N:=vF) rfl rfl rfl) (iF 51<|aB 3) (bA 1 57) gA<|aX (fun _=>sA T) a.le<|aA (CA (nm:="Web") 51 T.v94 T.v26<|aB 0)<|aA (aB 1) aE) aE)
   (aN<|bD fR)
   cK)
   (aJ (dE (yC<|jQ (bT (JF 51 fun _=>a.units) (bX dM (aB 3) aF)<|aB 1)<|jQ (bT (JF 51 fun _=>a.units) (bX dM (aB 3)<|lY lR aF)<|aB 2)<|kP<|bT zT (WB 51 51 55 55<|aA (aB 3) aE)<|bL qP 55 A1w<|aA (aB 3) aE)
    (aN<|bD fR)
    cK)
   (aN (bD (bL (XT 51 51) 55 boot_all (aA (nD (N':=(["web","here","there"]:Te)) (cap:=[Z 0,Y,Y]) 51 (fun _=>eX (sc0:=aH mV) (N:=vF) rfl rfl rfl) (AS 51 55 (aA (aB 3) (aA (gH 51 (aB 3) (cB aF) cV) aE))) (gZ 51 51 (bK (bA 1 57) (bK (bA 2 57) eZ))) gA (fM (JF 51 (fun _=>a.units)) (aGi (nm:="Web") (fun _=>NO T) 51 T.v94 a.le (aB 0) (aA (aB 1) (aA (aB 2) aE))) (aV (aA aF (aA aF aE))))) aE))))))
def eL(T:Txt K mg):pA P w K mg base 5 "are_ways_apart" iD (spX K bM):=
 T.v79.okX (N:=fE) (ps:=iD) (k:=4) (b:=nF) sc_are_ways_apart (by sleep 994) fun f cdv A outer s H E a=>
  (aDt (NG<|UW (fun i=>aIl i) (fun _=>nH T) a.le<|aDH<|aA (CA (nm:="Web") 51 T.v94 T.v26<|aB 0)<|aA (aB 1)<|aA (aB 2) aE)
   (aAV (aJ (dE (yC<|jQ (dR<|dN<|aX (fun _=>sY T) a.le<|aA (aB 3) aE)<|kP<|dR<|dN<|bL (XT 51 fun _=>rfl) 55 boot_all<|aA (nD (N':=(["web","i","j","way"]:Te)) (cap:=[Z 0,Z 1,Z 2,Y]) 51 (fun _=>eX (sc0:=aH dJ) (N:=fE) rfl rfl rfl) (iF 51<|aB 3) (bA 3 57) gA<|aX (fun _=>YH T) a.le<|aA (aB 0)<|aA (aB 1)<|aA (aB 2)<|aA (aB 3) aE) aE)
    (aN<|bD fR)
    cK)
   (aJ (aAg 4 (fun _=>sc_are_ways_apart.nd) (N':=(["way","here","there"]:Te)) (cap:=[Y,Y,Y]) 51 (fun _=>eX (sc0:=aH dJ) (N:=fE) rfl rfl rfl) (iF 51<|aB 3) (bA 0 57) gA (AS 51 55<|aA (aB 0)<|aA (gH 51 (aB 0) (cB aF) cV) aE) (gZ 51 51<|bK (bA 1 57)<|bK (bA 2 57) eZ) gA<|aV<|aA (bL (JZ fun _=>rfl) 55 boot_min<|aA (aB 1)<|aA (aB 2) aE)<|aA (bL (IX fun _=>rfl) 55 boot_max<|aA (aB 1)<|aA (aB 2) aE) aE)
   (aN (bD (fM (qB 51 (fun _=>a.units)) (PD 51 51 (fun _=>a.units) 55 55 (aA (aB 4) aE)) (bL qP 55 A1w (aA (aB 4) aE)))))))))
theorem kS(T:Txt K mg):∀n:Nat,Callee P w K mg base (n+1) "_law_listed" iN (spM K<|cX n)
 |0=>(T.v80.okNone (N:=iN) (ps:=iN) (k:=0) sH (by intro _ _ _ _ _ _ _ a;apply ar1 a;intros;rfl)).mono 52
 |n+1=>(T.v80.okG (N:=iN) (ps:=iN) (k:=n+1) (b:=tR<|cX n) sH (by sleep 991) fun f cdv A outer s H E c=>
  (aJ (dE (dN<|xM (T:="tuple") 51 52 (aB 0) (fun _=>cD) 55 55 A2p)
   (aN<|bD<|nD (N':=(["_law_part"]:Te)) (cap:=[Y]) 51 (fun _=>eX (sc0:=aH gM) (N:=iN) rfl rfl rfl) (iF 51<|aB 0) (bA 0 57) gA<|aX (fun _=>kS T n) (fun _=>c.mono 50)<|aA (aB 0) aE)
   cK)
   (aN (bD (aB 0))))).mono 50
def sE(T:Txt K mg):Callee P w K mg base 1 "_law_any" uP (spM K uK):=
 T.v81.okG (N:=DP) (ps:=uP) (k:=0) (b:=EO) sc__law_any (by sleep 991) fun f cdv A outer s H E a=>
  (aJ (bB 1 (fun _=>sc__law_any.nd)<|dD<|aA xN<|aA fR<|aA fR<|aA aF<|aA aF<|aA (lY lR aF)<|aA (aS aBe aF aF)<|aA xW<|aA xW<|aA xW<|aA (aV aE)<|aA (dD aE)<|aA aDP<|aA (aFL<|aFk aF aF aLX)<|aA (aV<|aA aF aE)<|aA (dD<|aA aF aE) aE)
   (aJ (bB 1 (fun _=>sc__law_any.nd)<|aS dA (aB 1)<|dD<|aA (aV<|aA aF<|aA aF aE)<|aA (aV<|aA (aV<|aA aF aE)<|aA aF aE)<|aA (aV<|aA xN aE)<|aA (aV<|aA fR aE)<|aA (aV<|aA aF<|aA fR aE)<|aA (aV<|aA xW<|aA aF aE)<|aA (aV<|aA (aV aE) aE)<|aA (aV<|aA (aV aE)<|aA (aV aE) aE) aE)
   (aJ (bB 1 (fun _=>sc__law_any.nd)<|aS dA (aB 1)<|dD<|aA (aV<|aA aF<|aA aF<|aA aF<|aA aF aE)<|aA (dD<|aA (dD<|aA aF aE) aE)<|aA (aV<|aA (lY lR aF)<|aA aF aE)<|aA (aV<|aA aF<|aA aF aE)<|aA (aV<|aA (aV<|aA aF<|aA aF<|aA (aV<|aA aF<|aA aF aE) aE) aE) aE)
   (aN (bD (bX dM (aB 1) (aS cL (fI 51 (aB 0)) aF)))))))
def xD(T:Txt K mg):Callee P w K mg base 1 "_law_bent_ways" hW (spM K hZ):=
 T.v82.okG (N:=nA) (ps:=hW) (k:=0) (b:=nG) sc__law_bent_ways (by sleep 993) fun f cdv A outer s H E a=>
  (aJ (bB 3 (fun _=>sc__law_bent_ways.nd)<|aS cL (fI 51<|aB 0) aF)
   (aJ (dE (yC<|jQ (bT (qB 51 fun _=>a.units) (aB 1)<|aV aE)<|kP<|bT (qB 51 fun _=>a.units) (aB 3) aF)
    (aN<|bD<|aS dA (aB 1)<|aV<|aA (bX dM (dD<|aA (aV aE)<|aA (aV<|aA aF aE)<|aA xN<|aA (aV<|aA aF<|aA aF aE)<|aA (aV<|aA aF<|aA aF aE)<|aA xW<|aA (aV<|aA aF<|aA aF aE)<|aA aF aE)<|aS cL (fI 51<|aB 0) aF) aE)
    cK)
   (aJ (bB 4 (fun _=>sc__law_bent_ways.nd)<|aS cL (fI 51<|aB 0)<|bL qP 55 A1w<|aA (aB 1) aE)
   (aJ (bB 5 (fun _=>sc__law_bent_ways.nd)<|bX dM (aB 1)<|aB 4)
   (aJ (bB 6 (fun _=>sc__law_bent_ways.nd)<|fI 51<|aB 0)
   (aJ (bB 7 (fun _=>sc__law_bent_ways.nd)<|aS cL (aB 6)<|bL qP 55 A1w<|aA (aB 5) aE)
   (aJ (bB 8 (fun _=>sc__law_bent_ways.nd)<|rV<|aA (aBA 51 (aB 5)<|cB<|lY lR aF)<|aA (aS dA (gH 51 (aB 5) cV<|cB<|aB 7)<|gH 51 (aB 5) (cB<|aS dA (aB 7) aF) cV)<|aA (aS dA (aB 5)<|gH 51 (aB 5) cV<|cB aF)<|aA (gH 51 (aB 5) cV<|cB<|lY lR aF) aE)
   (aJ (fU<|eC 51 (aB 8)<|aA (aS dA (aS dA (gH 51 (aB 5) cV<|cB<|aB 7)<|aV<|aA (aS cL (aS kO (aB 6) aF)<|aB 2) aE)<|gH 51 (aB 5) (cB<|aB 7) cV) aE)
   (aJ (fU<|eC 51 (aB 8)<|aA (aS dA (aS dA (gH 51 (aB 5) cV<|cB<|aB 7)<|aV<|aA fR aE)<|gH 51 (aB 5) (cB<|aS dA (aB 7) aF) cV) aE)
   (aJ (fU<|eC 51 (aB 8)<|aA (aS dA (gH 51 (aB 5) cV<|cB<|lY lR aF)<|aV<|aA (bX dM (aB 5) aF)<|aA (bX dM (aB 5)<|lY lR aF) aE) aE)
   (aJ (fU<|eC 51 (aB 8)<|aA (aV<|aA (bX dM (aB 5) aF)<|aA (bX dM (aB 5)<|lY lR aF) aE) aE)
   (aJ (bB 9 (fun _=>sc__law_bent_ways.nd)<|gH 51 (gH 51 (aB 1) (cB<|aB 4)<|cB<|aS dA (aB 4) aF) cV<|cB<|aS cL (aS kO (aB 6) aF) aF)
   (aN (bD (aS dA (aS dA (aS dA (gH 51 (aB 1) cV (cB (aB 4))) (aV (aA (bX dM (aB 8) (aS GZ (aB 3) aF)) aE))) (gH 51 (aB 1) (cB (aS dA (aB 4) aF)) cV)) (aB 9))))))))))))))))
def rY(T:Txt K mg):Callee P w K mg base 1 "_law_is_row" iN (spM K mJ):=
 T.v83.okG (N:=iN) (ps:=iN) (k:=0) (b:=uA) CZ (by sleep 991) fun f cdv A outer s H E a=>
  (aN<|bD<|XD (T:="list") (U:="tuple") 51 52 52 (aB 0) (fun _=>cD) 55 55 55 boot_list A2p)
def xJ(T:Txt K mg):Callee P w K mg base 1 "_law_is_whole" pS (spM K dZ):=
 T.v84.okG (N:=pS) (ps:=pS) (k:=0) (b:=jK) xV (by sleep 993) fun f cdv A outer s H E a=>
  (aN<|bD<|eP (xM (T:="int") 51 52 (aB 0) (fun _=>cD) 55 55 boot_int)<|eP (aCV<|xM (T:="bool") 51 52 (aB 0) (fun _=>cD) 55 55 boot_bool)<|jN<|QD aHF aHF (aB 1) (aB 0)<|aB 2)
def tW(T:Txt K mg):Callee P w K mg base 1 "_law_steps" nX (spM K fA):=
 T.v85.okG (N:=nX) (ps:=nX) (k:=0) (b:=wV) FE (by sleep 991) fun f cdv A outer s H E a=>
  (aN<|bD<|nD (N':=(["_law_a","_law_b"]:Te)) (cap:=[Y,Y]) 51 (fun _=>eX (sc0:=aH iR) (N:=nX) rfl rfl rfl) (AS 51 55<|aA (gH 51 (aB 0) cV<|cB<|lY lR aF)<|aA (gH 51 (aB 0) (cB aF) cV) aE) (gZ 51 51<|bK (bA 0 57)<|bK (bA 1 57) eZ) gA<|aV<|aA (bL (JZ fun _=>rfl) 55 boot_min<|aA (aB 0)<|aA (aB 1) aE)<|aA (bL (IX fun _=>rfl) 55 boot_max<|aA (aB 0)<|aA (aB 1) aE) aE)
def BM(T:Txt K mg):Callee P w K mg base 2 "_law_is_way" iM (spM K mP):=
 T.v86.okG (N:=iM) (ps:=iM) (k:=1) (b:=uD) DI (by sleep 995) fun f cdv A outer s H E a=>
  (aJ (dE (yC<|jQ (dR<|dN<|aX (fun _=>rY T) a.le<|aA (aB 4) aE)<|kP<|bT zT (bL qP 55 A1w<|aA (aB 4) aE) aF)
   (aN<|bD fR)
   cK)
   (aJ (dE (bT (JF 51 fun _=>a.units) (nD (N':=(["_law_many","_law_place"]:Te)) (cap:=[Z 1,Y]) 51 (fun _=>eX (sc0:=aH eS) (N:=iM) rfl rfl rfl) (iF 51<|aB 4) (bA 1 57) (EI<|dR<|dN<|aX (fun _=>xJ T) a.le<|aA (aB 1)<|aA aF<|aA (aS GZ (aB 0) aF) aE)<|aB 1)<|dD aE)
    (aN<|bD fR)
    cK)
   (aJ (dE (yC<|jQ (bT (JF 51 fun _=>a.units) (bX dM (aB 4) aF)<|aB 2)<|jQ (bT (JF 51 fun _=>a.units) (bX dM (aB 4)<|lY lR aF)<|aB 3)<|kP<|bT zT (WB 51 51 55 55<|aA (aB 4) aE)<|bL qP 55 A1w<|aA (aB 4) aE)
    (aN<|bD fR)
    cK)
   (aN (bD (fM (qB 51 (fun _=>a.units)) (nD (N':=(["_law_ties","_law_step"]:Te)) (cap:=[Z 0,Y]) 51 (fun _=>eX (sc0:=aH eS) (N:=iM) rfl rfl rfl) (iF 51 (aX (fun _=>tW T) a.le (aA (aB 4) aE))) (bA 1 57) (EI (SY 51 (fun _=>a.u1) (aB 1) (aB 0))) (aB 1)) (dD aE)))))))
def yL(T:Txt K mg):Callee P w K mg base 3 "_law_are_ways" jM (spM K jJ):=
 T.v87.okG (N:=pN) (ps:=jM) (k:=2) (b:=pX) sc__law_are_ways (by sleep 995) fun f cdv A outer s H E a=>
  (aJ (dE (dR<|dN<|aX (fun _=>rY T) a.le<|aA (aB 4) aE)
   (aN<|bD fR)
   cK)
   (aJ (bB 5 (fun _=>sc__law_are_ways.nd)<|dD aE)
   (aJ (iK (fun _=>L8) 51 (iF 51<|aB 4) (bA 6 fun _=>sc__law_are_ways.nd)
    (aJ (dE (dR<|dN<|aX (fun _=>BM T) a.le<|aA (aB 0)<|aA (aB 1)<|aA (aB 2)<|aA (aB 3)<|aA (aB 6) aE)
    (aN<|bD fR)
    cK)
   (aN (bB 5 (fun _=>sc__law_are_ways.nd) (aS dA (aB 5) (aX (fun _=>tW T) a.le (aA (aB 6) aE)))))))
   (aN (bD (fM (qB 51 (fun _=>a.units)) (PD 51 51 (fun _=>a.units) 55 55 (aA (aB 5) aE)) (bL qP 55 A1w (aA (aB 5) aE))))))))
def FH(T:Txt K mg):Callee P w K mg base 6 "_law_right" oH (spM K oP):=
 T.v88.okG (N:=vZ) (ps:=oH) (k:=5) (b:=vP) sc__law_right (by sleep 995) fun f cdv A outer s H E a=>
  (aJ (bB 5 (fun _=>sc__law_right.nd)<|bL (WC 51 (fun _=>a.gd) fun _=>a.u200) 55 boot_repr<|aA (aB 4) aE)
   (aJ (bB 6 (fun _=>sc__law_right.nd)<|yO (fun _=>eL T) a.le<|aA (aB 0)<|aA (aB 2)<|aA (aB 3)<|aA (aB 4) aE)
   (aJ (bB 7 (fun _=>sc__law_right.nd)<|aX (fun _=>yL T) a.le<|aA (aB 1)<|aA (CA (nm:="Web") 51 T.v94 T.v26<|aB 0)<|aA (aB 2)<|aA (aB 3)<|aA (aB 4) aE)
   (aN (bD (eP (xM (T:="bool") 51 52 (aB 6) (fun _=>cD) 55 55 boot_bool) (eP (fM (qB 51 (fun _=>a.units)) (aB 6) (aB 7)) (jN (fM (qB 51 (fun _=>a.units)) (bL (WC 51 (fun _=>a.gd) (fun _=>a.u200)) 55 boot_repr (aA (aB 4) aE)) (aB 5))))))))))
def CF(T:Txt K mg):Callee P w K mg base 1 "_law_no_two" mM (spM K iS):=
 T.v89.okG (N:=tO) (ps:=mM) (k:=0) (b:=uC) sc__law_no_two (by sleep 994) fun f cdv A outer s H E a=>
  (aJ (bB 4 (fun _=>sc__law_no_two.nd)<|dD<|aA (aV<|aA (aB 1)<|aA (aB 1) aE)<|aA (aV<|aA (aB 1)<|aA (aB 3) aE)<|aA (aV<|aA (lY lR aF)<|aA (aB 2) aE)<|aA (aV<|aA (aB 1)<|aA xN aE)<|aA (aV<|aA xW<|aA (aB 2) aE)<|aA (aV<|aA (aB 1)<|aA fR aE) aE)
   (aJ (bB 4 (fun _=>sc__law_no_two.nd)<|aS dA (aB 4)<|dD<|aA (aV<|aA fR<|aA (aB 2) aE)<|aA (aV<|aA (aV<|aA aF aE)<|aA (aB 2) aE)<|aA (aV<|aA (aB 1)<|aA (aS aBe aF aF) aE)<|aA (aV<|aA (aB 3)<|aA (aB 3) aE) aE)
   (aN (bD (bX dM (aB 4) (aS cL (fI 51 (aB 0)) aF))))))
def pQ(T:Txt K mg):Callee P w K mg base 6 "_law_refused" lJ (spM K gL):=
 T.v90.okG (N:=rC) (ps:=lJ) (k:=5) (b:=qN) sc__law_refused (by sleep 994) fun f cdv A outer s H E a=>
  (aJ (bB 4 (fun _=>sc__law_refused.nd) fR)
   (aJ (aLI (fun _=>⟨rfl,rfl,rfl⟩) 51 (KH<|NG<|UW (fun i=>aOT (fun _=>⟨rfl,rfl,rfl⟩) i) (fun _=>eL T) a.le<|aDH<|aA (aB 0)<|aA (aB 1)<|aA (aB 2)<|aA (aB 3) aE) (aFm (tab:=[("NoPlace",true)]) (n:=(Z 5)) (.ref (bQ K "NoPlace")) (fun _=>⟨rfl,rfl,rfl⟩) (fun _=>.inl T.v92) (fun _=>⟨sc__law_refused.nd,rfl,rfl⟩) (aAd T.v27 aBY) (aN<|bB 4 (fun _=>sc__law_refused.nd)<|eP (XZ (tab:=jA) (nn:=Z false) (c:=(.ref (bQ K "CutError"))) 51 (.own _) (aKv fun _=>T.v96) (WT (VU T) T.v39 rfl) (XB T.v40) (aB 5) (fun _=>cD) 55)<|jN<|XZ (tab:=fQ) (nn:=Z false) (c:=(.type "ValueError")) 51 (.ty _) (aOU 55 zR) (WT (VU T) T.v36 rfl) (XB T.v37) (aB 5) (fun _=>cD) 55)
   aKq))
   (aN (bD (aB 4)))))
def fn_law(T:Txt K mg):∃f fd,mg "law"=Z (.ref f)/\(∀(s:Ue)(u:Uc),BindsTo s fd ⟨[u],[]⟩ [("_law_script",u)])/\∀base,jH P w K mg base CX0 10 f fd aHW (spM K F_law):=
 T.v91.okLG (N:=aEq) (k:=9) (b:=aIH) sc_law rfl (by sleep 991) fun base f cdv A outer s H E a=>
  (aJ (bB 1 (fun _=>sc_law.nd)<|aX (fun _=>IM T) a.le<|aA (aB 0)<|aA aF aE)
   (aJ (iK (fun _=>L8) 51 (gR 55<|aA aF aE) (bA 2 fun _=>sc_law.nd)
    (aJ (bB 3 (fun _=>sc_law.nd)<|aS dA aF<|aS cL (fI 51<|aB 1) aF)
   (aJ (bB 4 (fun _=>sc_law.nd)<|aX (fun _=>OX T) a.le<|aA (aB 1)<|aA (aB 3) aE)
   (aJ (aGt 4<|bB 5 (fun _=>sc_law.nd)<|aHR (fun _=>IT T) 51 a.le<|aA (aB 3)<|aA (aX (fun _=>IW T) a.le<|aA (aB 4) aE) aE)
   (aJ (JA (aX (fun _=>NT T) a.le<|aA (aB 1)<|aA (aB 3) aE)<|gZ 51 51<|bK (bA 6 fun _=>sc_law.nd)<|bK (bA 7 fun _=>sc_law.nd) eZ)
   (aJ (bB 8 (fun _=>sc_law.nd)<|aX (fun _=>wR T) a.le<|aA (aB 1)<|aA (aB 4)<|aA (aB 3)<|aA (aB 6)<|aA (aB 7) aE)
   (aJ (dE (yC<|jQ (dR<|dN<|yO (fun _=>eL T) a.le<|aA (aB 5)<|aA (aB 6)<|aA (aB 7)<|aA (aB 8) aE)<|kP<|dR<|dN<|yO (fun _=>eL T) a.le<|aA (aB 5)<|aA (aB 6)<|aA (aB 7)<|aA (aX (fun _=>kS T 8) a.le<|aA (aB 8) aE) aE)
    (aN<|bD fR)
    cK)
   (aJ (bB 9 (fun _=>sc_law.nd)<|rV<|aA (aBA 51 (aB 8)<|cB<|lY lR aF)<|aA (aV aE)<|aA (dD aE)<|aA (aS dA (aB 8)<|gH 51 (aB 8) cV<|cB aF)<|aA (aV<|aA (aV<|aA (aB 6)<|aA (aB 7) aE) aE)<|aA (aV<|aA (aV<|aA (aB 6)<|aA (aB 7) aE)<|aA (aV<|aA (aB 6)<|aA (aB 7) aE) aE) aE)
   (aJ (bB 9 (fun _=>sc_law.nd)<|aS (xY fun _=>rfl) (aB 9)<|dD<|aA (aX (fun _=>sE T) a.le<|aA (aB 1) aE)<|aA (aX (fun _=>sE T) a.le<|aA (aB 1) aE) aE)
   (aJ (iK (fun _=>L8) 51 (gR 55<|aA aF aE) (bA 10 fun _=>sc_law.nd)
    (aN (fU (eC 51 (aB 9) (aA (aX (fun _=>xD T) a.le (aA (aB 1) (aA (aB 8) (aA (aB 3) aE)))) aE)))))
   (aJ (aJK 9<|fU<|eC 51 (aB 9)<|aA (aX (fun _=>kS T 8) a.le<|aA (bX dM (aB 9)<|lY lR aF) aE) aE)
   (aJ (dE (dR<|dN<|bL (XT 51 fun _=>rfl) 55 boot_all<|aA (nD (N':=(["_law_world","_law_ties","_law_i","_law_j","_law_thing"]:Te)) (cap:=[Z 5,Z 4,Z 6,Z 7,Y]) 51 (fun _=>eX (sc0:=aH IR) (N:=aEq) rfl rfl rfl) (iF 51<|aB 9) (bA 4 57) gA<|aX (fun _=>FH T) a.le<|aA (aB 0)<|aA (aB 1)<|aA (aB 2)<|aA (aB 3)<|aA (aB 4) aE) aE)
    (aN<|bD fR)
    cK)
   (aJ (JA (aX (fun _=>CF T) a.le<|aA (aB 1)<|aA (aB 6)<|aA (aB 7)<|aA (aB 3) aE)<|gZ 51 51<|bK (bA 11 fun _=>sc_law.nd)<|bK (bA 12 fun _=>sc_law.nd) eZ)
   (aN (dE (yC<|jQ (dR<|dN<|aX (fun _=>pQ T) a.le<|aA (aB 5)<|aA (aB 11)<|aA (aB 12)<|aA (aB 8) aE)<|kP<|dR<|dN<|aX (fun _=>pQ T) a.le<|aA (aB 5)<|aA (aB 11)<|aA (aB 12)<|aA (aX (fun _=>sE T) a.le<|aA (aB 1) aE) aE)
    (aN<|bD fR)
    cK)))))))))))))))
   (aN (bD fR))))
def txt_mk{B:Tok}{e:Tk}{g:Array (Ti)}{i:Uc}{n:Tk}{p:Array (Ti)}{q:Uc}(X:K.In h)(G:h.Ns mainGlobals mg)(v0:W.nsIn K mainGlobals "ValueError"=Z Y)(v1:W.nsIn K mainGlobals "all"=Z Y)(v2:W.nsIn K mainGlobals "bool"=Z Y)(v3:W.nsIn K mainGlobals "enumerate"=Z Y)(v4:W.nsIn K mainGlobals "int"=Z Y)(v5:W.nsIn K mainGlobals "isinstance"=Z Y)(v6:W.nsIn K mainGlobals "len"=Z Y)(v7:W.nsIn K mainGlobals "list"=Z Y)(v8:W.nsIn K mainGlobals "max"=Z Y)(v9:W.nsIn K mainGlobals "min"=Z Y)(F:W.nsIn K mainGlobals "range"=Z Y)(H:W.nsIn K mainGlobals "repr"=Z Y)(I:W.nsIn K mainGlobals "set"=Z Y)(J:W.nsIn K mainGlobals "sorted"=Z Y)(L:W.nsIn K mainGlobals "tuple"=Z Y)(M:W.nsIn K mainGlobals "zip"=Z Y)(N:W.nsIn K mainGlobals "MOST_ABOVE"=Z (Z (.int 1000000000000 z)))(O:W.nsIn K mainGlobals "BELOW"=Z (Z (.int 55440 A)))(Q:W.nsIn K mainGlobals "MOST_PLACES"=Z (Z (.int 40 B)))(C:W.nsIn K mainGlobals "NoPlace"=Z (Z (.ref b)))(v20:W.excIn K b bmV "ValueError.__new__"=true)(D:W.nsIn K mainGlobals "Web"=Z (Z (.ref a)))(R:W.plainGet K a Str.empty=true)(S:W.hasDictIn K a=true)(T:W.plainOver K a=true)(U:W.findIn K (.ref a) "__setattr__"=Z (Z (.builtin "object.__setattr__")))(v26:W.findIn K (.ref a) "many"=Z Y)(v27:W.exmOne K (.ref b) (.ref b)=Z true)(V:W.findIn K (.ref b) "__getattribute__"=Z (Z (.builtin "BaseException.__getattribute__")))(a0:W.findIn K (.ref b) "__getattr__"=Z Y)(a1:W.subIn K (.ref b) (.type "BaseException")=Z true)(a2:(W.clsIn K b).isSome=true)(a3:W.findIn K (.ref b) "__class__"=Z (Z (.builtin "object.__class__")))(a4:W.specialIn K (.builtin "object.__class__") "__get__"=Z (Z (.builtin "getset_descriptor.__get__")))(a5:W.takesIn K (.builtin "object.__class__")=Z true)(a6:W.mroIn K b (.type "object")=Z true)(v36:NP K (.type "ValueError") fQ=true)(v37:W.kitOne K (.type "NoneType") (.type "ValueError")=Z false)(E:W.nsIn K mainGlobals "CutError"=Z (Z (.ref y)))(v39:NP K (.ref y) jA=true)(v40:W.kitOne K (.type "NoneType") (.ref y)=Z false)(v41:W.findIn K (.ref a) "ties"=Z Y)(v42:W.findIn K (.ref a) "weights"=Z Y)(a7:W.findIn K (.ref a) "__init__"=Z (Z (.ref v)))(a8:K.lookup v=Z ⟨i,e,.func (W.fnOf "__init__" "Web.__init__" (dH fB) (bP fB) (aH fB) .none j k l f c m),g⟩)(a9:W.codeIn K c "Web.__init__"=true)(aa:W.keepIn K (.ref v)=true)(ab:W.isFn K (.ref v)=true)(v48:W.makesIn K a=true)(v49:W.keepIn K (.ref a)=true)(ac:W.findIn K (.ref a) "tie"=Z (Z (.ref x)))(ae:K.lookup x=Z ⟨q,n,.func (W.fnOf "tie" "Web.tie" (dH iX) (bP iX) (aH iX) .none r s t o d u),p⟩)(af:W.codeIn K d "Web.tie"=true)(ag:W.keepIn K (.ref x)=true)(ah:W.isFn K (.ref x)=true)(v55:Def K mg "_law_deck" oZ)(v56:Def K mg "_law_pairs" mL)(v57:Def K mg "_law_weight" kJ)(v58:Def K mg "_law_web" qI)(v59:Def K mg "is_whole" rW)(v60:Def K mg "is_row" yJ)(v61:Def K mg "common" xG)(v62:Def K mg "is_row_of" pB)(v63:Def K mg "has_amount_numbers" eF)(v64:Def K mg "is_in_parts" lA)(v65:Def K mg "is_weight" pL)(v66:Def K mg "is_place" rF)(v67:Def K mg "are_unlike_places" eT)(v68:Def K mg "is_between_places" eU)(v69:Def K mg "is_tie" xK)(v70:Def K mg "kept_ties" kA)(v71:Def K mg "_law_lowest" kZ)(v72:Def K mg "_law_rows" jZ)(v73:Def K mg "_law_two" sD)(v74:Def K mg "_law_rooms" mS)(v75:Def K mg "_law_way" qS)(v76:Def K mg "_law_some_ways" gS)(v77:Def K mg "refuse_no_two_places" dX)(v78:Def K mg "is_way" mV)(v79:Def K mg "are_ways_apart" dJ)(v80:Def K mg "_law_listed" gM)(v81:Def K mg "_law_any" rL)(v82:Def K mg "_law_bent_ways" gK)(v83:Def K mg "_law_is_row" kQ)(v84:Def K mg "_law_is_whole" gW)(v85:Def K mg "_law_steps" iR)(v86:Def K mg "_law_is_way" eS)(v87:Def K mg "_law_are_ways" gV)(v88:Def K mg "_law_right" mT)(v89:Def K mg "_law_no_two" lF)(v90:Def K mg "_law_refused" jI)(v91:Def K mg "law" IR):Txt K mg:=by
 cases KP C;cases KP D;cases KP E;exact⟨(cC (J0 X G v0)<|cC (J0 X G v1)<|cC (J0 X G v2)<|cC (J0 X G v3)<|cC (J0 X G v4)<|cC (J0 X G v5)<|cC (J0 X G v6)<|cC (J0 X G v7)<|cC (J0 X G v8)<|cC (J0 X G v9)<|cC (J0 X G F)<|cC (J0 X G H)<|cC (J0 X G I)<|cC (J0 X G J)<|cC (J0 X G L)<|cC (J0 X G M) aEa),⟨_,A1f X G N⟩,⟨_,A1f X G O⟩,⟨_,A1f X G Q⟩,A1f X G C,v20,A1f X G D,⟨R,S,T,U⟩,v26,v27,⟨⟨V,a0,a1,a2⟩,a3,a4,a5,a6⟩,v36,v37,A1f X G E,v39,v40,v41,v42,XN rfl a7 a8 a9 aa ab,v48,v49,XN rfl ac ae af ag ah,v55,v56,v57,v58,v59,v60,v61,v62,v63,v64,v65,v66,v67,v68,v69,v70,v71,v72,v73,v74,v75,v76,v77,v78,v79,v80,v81,v82,v83,v84,v85,v86,v87,v88,v89,v90,v91⟩
end
end Q57
end
end
section
namespace Q57
variable{L M M' M0 M3:Sto}{γ γ' γ1:Ga}{N c d l m n ps q v w:Nat}{J a b h i j md p u y z:Int}{us ws:Ua Tie}{e f g:EF}{r x:Ud}{xs:T8}{ds es ys:T5}{g10 g11 g12 g3 g4 g5 g6 g7 g8 g9 kk:Th}{fa:AF}{ns os:Ta}{c':Cell}{s:CD}
open PySem PySem.Spec PyProof.Rows L2
local macro_rules | `(tactic| simp! [$a,*]) => `(tactic| simp only [fnF, fnX, zA, aFM, aNy, pF, aOs, xC, WY, aOt, liA, liE, liS, IY, ZE, UL, aOQ, aCU, setG, QE, oS, aY, sIf, cQ, aOj, cS, aW, eA, hName, gU, cG, pH, hSub, gOr, FG, fX, gB, RC, aET, aP, aC, aO, aD, fC, fOp, fUn, lL, fOr, aDm, fIf, ED, asB, bI, dW, mH, jL, zW, MM, pI, ifS, aHn, KR, IZ, iV, dC, ZA, ltI, leI, gtI, geI, Option.bind_some, Option.bind_none, Option.map_some, List.getElem?_cons_zero, List.getElem?_cons_succ, List.length_cons, List.length_nil, List.set_cons_zero, List.set_cons_succ, List.map_cons, List.map_nil, List.replicate_zero, List.replicate_succ, List.cons_append, List.nil_append, List.append_nil, if_true, ite_true, ite_false, Nat.reduceAdd, Nat.reduceSub, reduceIte, Bool.not_true, Bool.not_false, Bool.false_eq_true, $a,*])
noncomputable def vM:Ud->Bool
 |.int _=>true
 |_=>false
def iB:Ud->Bool
 |.list _=>true
 |.tuple _=>true
 |_=>false
def kY(x:Ud)(M:Sto):fW [.d x] M=Z (.d (.bool (vM x)),M):=by cases x<;>rfl
def wN(x:Ud)(M:Sto):jB [.d x] M=Z (.d (.bool (iB x)),M):=by cases x<;>rfl
def jF(d:Ud)(n:Int):Bool:=match bC d with
 |some ds=>((ds.length:Int)==n)
 |none=>false
def gI(x:Ud)(n:Int)(M:Sto):lN [.d x,.d (.int n)] M=Z (.d (.bool (jF x n)),M):=by cases x<;>rfl
def OM(x y:Int):Int.gcd y (x % y)=Int.gcd x y:=by
 rw[Int.gcd_comm x y];have:x % y=x-y*(x / y):=by have:=Int.emod_add_mul_ediv x y;omega
 rw[this];simp
noncomputable abbrev I(n:Int):CD:=.d (.int n)
def eJ{x:Int}(h:0<y):lC x y=true:=by simp[lC,h]
theorem zD(M:Sto):∀(n:Nat)(x y:Int),0<=x->0<=y->y.toNat<n->
 dO (RC<|aD 1) aNc n [Z (I x),Z<|I y] M=Z (.nx [Z (I<|Int.gcd x y),Z<|I 0],M)
 |0=>fun _ _ _ _ h=>50
 |n+1=>fun x y A o h=>by
  by_cases e:y=0
  .subst e;have:(Int.gcd x 0:Int)=x:=by rw[Int.gcd_zero_right];omega
   rw[this];rfl
  .have k:0<y:=50
   have ih:=zD M n y (x % y) o (S5 _ e) (by have:=L7 x k;omega);rw[OM]at ih;rw[<- ih];have t:(y != 0)=true:=by simp[e]
   simp only[dO,RC,aD,aET,QG,aC,fOp,aO,dC,pI,ifS,eJ k,t,Option.bind,List.getElem?_cons_succ,List.getElem?_cons_zero,A1i,List.set]
def aBt(M:Sto)(ha:0<=a)(k:0<=b):DC [I a,I b] M=Z (I<|Int.gcd a b,M):=by
 have h:uQ [Z (I a),Z<|I b] M=_:=qR<|zD M (b.toNat+1) a b ha k<|S6 _;show((aY uQ _ [Z (I a),Z<|I b] M).bind _)=_;unfold aY;rw[h];rfl
noncomputable abbrev B(b:Bool):CD:=.d (.bool b)
def vQ(d:Ud):Bool:=match bC d with
 |some [.int a,.int b]=>decide (0<=a)&&decide (1<=b)
 |_=>false
def aEc(h:jF x 2=true):∃a b,x=.list [a,b]\/x=.tuple [a,b]:=by
 unfold jF at h;cases x with
 |list ds=>
  have h:((ds.length:Int)==2)=true:=h;rcases ds with _|⟨a,_|⟨b,_|⟨c,r⟩⟩⟩
  .simp at h
  .simp at h
  .exact⟨a,b,.inl rfl⟩
  .simp at h;omega
 |tuple ds=>
  have h:((ds.length:Int)==2)=true:=h;rcases ds with _|⟨a,_|⟨b,_|⟨c,r⟩⟩⟩
  .simp at h
  .simp at h
  .exact⟨a,b,.inr rfl⟩
  .simp at h;omega
 |_=>simp[bC]at h
def QT(h:jF x 2=false):vQ x=false:=by
 unfold vQ;unfold jF at h;cases q:bC x with
 |none=>rfl
 |some ds=>
  rw[q]at h;rcases ds with _|⟨a,_|⟨b,_|⟨c,r⟩⟩⟩
  .rfl
  .cases a<;>rfl
  .simp at h
  .cases a<;>cases b<;>rfl
def aPl{a b:Ud}:ixF (.d (.list [a,b])) (I 0) M=Z (.d a,M):=rfl
def aPg{a b:Ud}:ixF (.d (.list [a,b])) (I 1) M=Z (.d b,M):=rfl
def aPs{a b:Ud}:ixF (.d (.tuple [a,b])) (I 0) M=Z (.d a,M):=rfl
def aPv{a b:Ud}:ixF (.d (.tuple [a,b])) (I 1) M=Z (.d b,M):=rfl
def aOk{p q:Bool}:(if p=true then Z (B q,M)else Z (B false,M))=Z (B (p&&q),M):=by cases p<;>rfl
def dG(x:Ud)(M:Sto):bZ [.d x] M=Z (B<|vQ x,M):=by
 cases h:jF x 2 with
 |false=>
  rw[QT h];simp![bZ,cJ,gI,h]
 |true=>
  obtain⟨a,b,rfl|rfl⟩:=aEc h
  .cases a<;>cases b<;>first|rfl|(rename_i a b;simp![bZ,cJ,gI,h,kY,aPl,aPg,vM,aOk];rfl)
  .cases a<;>cases b<;>first|rfl|(rename_i a b;simp![bZ,cJ,gI,h,kY,aPs,aPv,vM,aOk];rfl)
noncomputable def P(k:Bool)(a b:Int):Ud:=if k then .list [.int a,.int b]else .tuple [.int a,.int b]
def aMm:ixF (.d (P k a b)) (I 0) M=Z (I a,M):=by cases k<;>rfl
def aOq:ixF (.d (P k a b)) (I 1) M=Z (I b,M):=by cases k<;>rfl
def LR:eqX false (I i) (I j) M=Z (B (i==j),M):=rfl
def aGQ:eqX true (I i) (I j) M=Z (B (!(i==j)),M):=rfl
def wD:dU (I i) (I j) M=Z (I (i+j),M):=rfl
def aBQ:vQ (P k a b)=(decide (0<=a)&&decide (1<=b)):=by cases k<;>rfl
def aPi(n m:Nat):((n:Int)==(m:Int))=(n==m):=by
 rw[A0u];simp;omega
def tJ(a b:Int):Bool:=decide (0<=a)&&decide (1<=b)&&(55440 % b==0)&&(Int.gcd a b==1)&&decide (a<=1000000000000)
def tY(k:Bool)(a b:Int)(M:Sto):cY [.d (P k a b)] M=Z (B (decide (0<=a)&&decide (1<=b)&&(55440 % b==0)&&(Int.gcd a b==1)),M):=by
 cases h:(decide (0<=a)&&decide (1<=b))with
 |false=>
  simp![cY,eD,dG,aBQ,h,A0d]
 |true=>
  have o:=h;rw[B4]at h;have A:=D7 h.1;have C:=D7 h.2;have hm:lC 55440 b=true:=eJ 50;cases t:(55440 % b==0)with
  |false=>simp![cY,eD,dG,aBQ,o,aMm,aOq,hm,LR,t,U5,A0d]
  |true=>
   simp![cY,eD,dG,aBQ,o,aMm,aOq,hm,LR,t,U5,aBt M A<|Int.le_trans 52 C];rw[show(1:Int)=((1:Nat):Int)from rfl,aPi]
def NI(k:Bool)(a b:Int)(M:Sto):eO [.d (P k a b)] M=Z (B<|tJ a b,M):=by
 cases h:(decide (0<=a)&&decide (1<=b)&&(55440 % b==0)&&(Int.gcd a b==1))with
 |false=>
  have e:tJ a b=false:=by unfold tJ;rw[h];rfl
  rw[e];simp![eO,iY,tY,h]
 |true=>
  have e:tJ a b=decide (a<=1000000000000):=by unfold tJ;rw[h];rfl
  rw[e];simp![eO,iY,tY,h,aMm]
def aFQ(h:1<=b):1<=(Int.gcd a b:Int):=by
 have:Int.gcd a b≠0:=fun z=>by have:=(Int.gcd_eq_zero_iff.mp z).2;omega
 omega
def aMa(h:1<=b):(Int.gcd a b:Int)<=b:=Int.le_of_dvd 50<|Int.gcd_dvd_right a b
def wsm(h:0<=y)(o:y<2 ^ 200):y.natAbs<zF:=by
 have k:y.natAbs<2 ^ 200:=50
 exact C5 k<|Nat.pow_le_pow_right 52 52
def zZ{x:Int}(h:0<y)(k:y.natAbs<zF):yV x y=true:=by simp[yV,h,k]
def jT(x:Ud):Bool:=match bC x with
 |some [.int a,.int b]=>tJ a b
 |_=>false
noncomputable def R2'(k:Bool)(p q:Ud):Ud:=if k then .list [p,q]else .tuple [p,q]
def aAL(k:Bool)(p q:Ud):bC (R2' k p q)=Z [p,q]:=by cases k<;>rfl
def aFg(h:jF x 2=true):∃k p q,x=R2' k p q:=by
 obtain⟨a,b,rfl|rfl⟩:=aEc h
 .exact⟨true,a,b,rfl⟩
 .exact⟨false,a,b,rfl⟩
def aGV(h:vQ x=true):∃k a b,x=P k a b:=by
 have o:jF x 2=true:=by
  cases e:jF x 2 with
  |true=>rfl
  |false=>rw[QT e]at h;cases h
 obtain⟨k,p,q,rfl⟩:=aFg o;unfold vQ at h;rw[aAL]at h;cases p<;>cases q<;>first|exact⟨k,_,_,rfl⟩|simp at h
def aGq(k:Bool)(a b:Int):jT (P k a b)=tJ a b:=by cases k<;>rfl
def NQ(h:vQ x=false):jT x=false:=by
 unfold vQ at h;unfold jT;split
 .rename_i a b e;rw[e]at h;dsimp only at h;unfold tJ;rw[h];rfl
 .rfl
def NY(x:Ud)(M:Sto):eO [.d x] M=Z (B<|jT x,M):=by
 cases h:vQ x with
 |false=>
  rw[NQ h];have e:cY [.d x] M=Z (B false,M):=by simp![cY,eD,dG,h]
  simp![eO,iY,e]
 |true=>
  obtain⟨k,a,b,rfl⟩:=aGV h;rw[aGq];exact NI k a b M
theorem kI:∀ds:T5,jL (ds.map .d)=Z ds
 |[]=>rfl
 |d::ds=>by
  show(jL<|ds.map .d).map (d::·)=_;rw[kI ds];rfl
structure Tie where
 i:Int
 j:Int
 a:Int
 b:Int
deriving DecidableEq
noncomputable def Tie.key(t:Tie):Ua Key:=[.inl t.i,.inl t.j]
noncomputable def Tie.val(t:Tie):CD:=.d (.tuple [.int t.a,.int t.b])
def bJ(ts:Ua Tie):Ua (Ua Key×CD):=ts.map fun t=>(t.key,t.val)
def aHb{ts:Ua Tie}{t:Tie}(h:∀s∈ts,s.key≠t.key):lkC (bJ ts) t.key=Y:=by
 unfold lkC bJ;rw[A0s];have:List.find? ((fun k=>decide (k.1=t.key)) ∘ fun s:Tie=>(s.key,s.val)) ts=Y:=A0b.mpr fun s hs=>by simpa using h s hs
 rw[this];rfl
def WJ{ts:Ua Tie}{t:Tie}(h:∀s∈ts,s.key≠t.key):putD (bJ ts) t.key t.val=bJ (ts++[t]):=by
 unfold putD
 have:((bJ ts).any fun k=>decide (k.1=t.key))=false:=by
  rw[bJ,List.any_map];exact List.any_eq_false.mpr fun s hs=>by simpa using h s hs
 rw[this,B7 C6];unfold bJ;rw[F7];rfl
def sz(hn:n<=1000):n<=sizeLine:=by rw[J9];exact E6 hn 52
def f1(t:Tie):T5:=[.tuple [.int t.i,.int t.j],.tuple [.int t.a,.int t.b]]
def f2(t:Tie):T5:=[.int t.i,.int t.j,.tuple [.int t.a,.int t.b]]
def eqv_tt{c d:Int}:PyData.eqv (.tuple [.int a,.int b]) (.tuple [.int c,.int d])=(a==c&&(b==d&&true)):=rfl
def xI{f:Tie->T5}{i:Nat}(h:i<us.length):(us.map f).getD i []=f us[i]:=54
def t0:Tie:=⟨0,0,0,0⟩
def HW(us:Ua Tie):(List.range us.length).map (fun i=>us.getD i t0)=us:=by
 refine A1m fun i=>?_;rw[D6];by_cases h:i<us.length
 .rw[A2a h,C0 h];show Z (us.getD i t0)=_;rw[E3,C0 h];rfl
 .rw[Y8 54,Y8 50];rfl
def aBn{i:Nat}(h:i<us.length):us.getD i t0=us[i]:=54
def aNO(s t:Tie):(lP (f1 s)<|f1 t).isSome=true:=by
 unfold f1 lP;split
 .unfold lP;split
  .rfl
  .rfl
 .rfl
def aGs(k:us.length<64):∃vs:Ua Tie,vs.Perm us/\fS (us.map f1)=Z (vs.map fun t=>.tuple (f1 t)):=by
 by_cases o:2<=us.length
 .have A:sortable (us.map f1)=true:=by
   have hd:pO (us.map f1)=true:=by unfold pO;rw[List.all_map];exact D5.mpr fun t _=>rfl
   unfold sortable;rw[A4,C4 o,C4 k,hd,Bool.or_true,U5,U5,Bool.and_true,B4];refine⟨D5.mpr fun r B=>?_,D5.mpr fun i hi=>D5.mpr fun j C=>?_⟩
   .obtain⟨t,_,rfl⟩:=C7.mp B;rfl
   .rw[xI (F5.mp hi),xI<|F5.mp C];exact aNO _ _
  have pm:=lU (n:=(us.map f1).length) (tL<|us.map f1) 54;rw[A4]at pm;have mem:∀i∈hX (tL<|us.map f1) us.length,i<us.length:=fun i hi=>F5.mp<|pm.mem_iff.mp hi
  have D:QY (us.map f1)=((hX (tL<|us.map f1) us.length).map fun i=>us.getD i t0).map fun t=>.tuple (f1 t):=by
   unfold QY;rw[A4,I0];refine Z6 fun i hi=>?_;show PyData.tuple ((us.map f1).getD i [])=.tuple (f1<|us.getD i t0);rw[xI (mem i hi),aBn<|mem i hi]
  refine⟨(hX (tL<|us.map f1) us.length).map fun i=>us.getD i t0,?_,?_⟩
  .have:=pm.map fun i=>us.getD i t0
   rwa [HW]at this
  .unfold fS;rw[A,A7 rfl,D]
 .have E:us.length<2:=50
  refine⟨us,.refl _,?_⟩;unfold fS
  have:sortable (us.map f1)=false:=by
   unfold sortable;rw[A4,F6 o];rfl
  rw[this,B7 C6,A4,A7 E,I0];rfl
def big(t:Tie):Bool:=decide (t.a > 0)
def eN(vs:Ua Tie):T5:=(vs.filter big).map fun t=>.tuple (f2 t)
def aAM{f:AF}{g:GF}{c:TF}{M1 M2:Sto}(it:f γ M=Z (xs,M1))(o:xs.length<=sizeLine)(e:lcF g c k xs (tI cap γ) M1=Z (ds.map .d,M2))(hd:ds.length<=sizeLine):fLc cap f g c k γ M=Z (.d (.list ds),M2):=by
 have t:yU cap f g c k γ M=Z (ds.map .d,M2):=by
  unfold yU;rw[it,A1,A7 o];exact e
 show(yU cap f g c k γ M).bind _=_;rw[t,A1,kI,A1,A7 hd]
abbrev kG:GF:=gU 2<|cG aKh<|cG (hName 2) pH
abbrev kC:TF:=gB<|fOp gtI aDU<|fC (.int 0)
abbrev kE:EF:=bI<|aC (aD 0) xq3
theorem HB{M:Sto}:∀(vs:Ua Tie)(s1 s2 s3:Th),lcF kG kC kE (vs.map fun t=>.d (.tuple (f1 t))) [s1,s2,s3] M=Z ((eN vs).map .d,M)
 |[]=>fun _ _ _=>rfl
 |t::vs=>fun s1 s2 s3=>by
  have ih:=HB (M:=M) vs (Z<|I t.i) (Z<|I t.j)<|Z (.d (.tuple [.int t.a,.int t.b]));have o:kG (.d (.tuple (f1 t))) [s1,s2,s3] M=Z ([Z (I t.i),Z<|I t.j,Z (.d (.tuple [.int t.a,.int t.b]))],M):=rfl;have A:kC [Z (I t.i),Z<|I t.j,Z (.d (.tuple [.int t.a,.int t.b]))] M=Z (big t,M):=rfl
  have B:kE [Z (I t.i),Z<|I t.j,Z (.d (.tuple [.int t.a,.int t.b]))] M=Z (.d (.tuple (f2 t)),M):=by
   have C:3<=sizeLine:=sz 52;simp![kE,f2,A7 C,Nat.zero_add]
  rw[D4];unfold lcF;rw[o,A1];rw[A,A1];by_cases k:big t=true
  .rw[A7 k,B,A1];rw[ih,A1];unfold eN;rw[List.filter_cons_of_pos k];rfl
  .rw[B7 k,ih];unfold eN;rw[List.filter_cons_of_neg k]
theorem QL:∀us:Ua Tie,tV (bJ us)=Z (us.map fun t=>(t.key,.tuple [.int t.a,.int t.b]))
 |[]=>rfl
 |t::us=>by
  show(tV<|bJ us).bind _=_;rw[QL us];rfl
def aFq(us:Ua Tie):(us.map fun t=>(t.key,PyData.tuple [.int t.a,.int t.b])).map YW=us.map f1:=by
 rw[I0];rfl
def aBL{vs:Ua Tie}(h:vs.length<=1000):(eN vs).length<=sizeLine:=by
 unfold eN;rw[A4];exact sz<|E6 (List.length_filter_le ..) h
def eQ(us:Ua Tie):T5:=us.map fun t=>.tuple (f2 t)
def Ok(n:Int)(us:Ua Tie):Prop:=(∀t∈us,tJ t.a t.b=true/\0<=t.i/\t.i<t.j/\t.j<n)/\(us.map Tie.key).Nodup/\us.length<64
def UC(nd:(us.map Tie.key).Nodup):((us.filter big).map Tie.key).Nodup:=(List.filter_sublist.map Tie.key).nodup nd
theorem NC{N:Sto}:∀(ws ts:Ua Tie)(s1 s2 s3:Th),((ts++ws).map Tie.key).Nodup->ts.length+ws.length<1000->
 dcF N.length (gU 3<|cG (hName 0) xq7) dP (gT FJ) (aD 2) ((eQ ws).map .d) [s1,s2,s3] (N++[.dt (bJ ts)])=Z (N++[.dt (bJ (ts++ws))])
 |[]=>fun ts _ _ _ _ _=>by rw[L6];rfl
 |t::ws=>fun ts s1 s2 s3 nd C=>by
  have k:∀s∈ts,s.key≠t.key:=fun s hs q=>by
   rw[F7,Z3]at nd;exact nd.2.2 _ (A2b hs) _ 53 q
  have ih:=NC (N:=N) ws (ts++[t]) (Z<|I t.i) (Z<|I t.j) (Z t.val) 54 54;have o:(N++[.dt (bJ ts)])[N.length]?=Z (.dt (bJ ts)):=53
  have len:(bJ ts).length<sizeLine:=by unfold bJ;rw[A4,J9];omega
  have st:qD (N++[.dt (bJ ts)]) (.c N.length) (.inr t.key) t.val=Z (N++[.dt (bJ (ts++[t]))]):=by
   simp only[qD,o,A7 len,WJ k];rw[List.set_append_right _ _ (A8 _),Nat.sub_self];rfl
  have A:(Tie.key t).length<=sizeLine:=sz (show 2<=1000 by decide)
  have B:gT FJ [Z (I t.i),Z<|I t.j,Z t.val] (N++[.dt (bJ ts)])=Z (.inr t.key,N++[.dt (bJ ts)]):=by
   have kk:keysOf [I t.i,I t.j]=Z t.key:=rfl;simp![gT,kk,A7 A]
  show dcF _ _ _ _ _ (.d (.tuple (f2 t))::(eQ ws).map .d) [s1,s2,s3] _=_;unfold dcF;rw[show gU 3 (cG (hName 0) xq7) (.d (.tuple (f2 t))) [s1,s2,s3] (N++[.dt (bJ ts)])=Z ([Z (I t.i),Z<|I t.j,Z t.val],N++[.dt (bJ ts)])from rfl,A1];rw[show dP [Z (I t.i),Z<|I t.j,Z t.val] (N++[.dt (bJ ts)])=Z (true,N++[.dt (bJ ts)])from rfl,A1];rw[A7 rfl,B,A1];rw[show aD 2 [Z (I t.i),Z<|I t.j,Z t.val] (N++[.dt (bJ ts)])=Z (t.val,N++[.dt (bJ ts)])from rfl,A1];rw[st,A1,ih,Y4];rfl
def aOZ(w:Nat)(n:Int)(vs:Ua Tie):Cell:=.obj "Web" [("many",I n),("ties",.d (.tuple (eN vs))),("weights",.c (w+2))]
def aLm(w:Nat)(n:Int)(us vs:Ua Tie):Ua Cell:=[aOZ w n vs,.dt (bJ us),.dt (bJ<|vs.filter big)]
def RQ{fs:Tz}:objOf "Web" (M++(.obj "Web" fs::L)) (.c M.length)=Z (M.length,fs):=by
 have:(M++(Cell.obj "Web" fs::L))[M.length]?=Z (.obj "Web" fs):=53
 simp only[objOf,this,A1i]
def LQ{c:Cell}:(M++(c::L)).set M.length c'=M++(c'::L):=54
def R3(k:Bool)(p q w:Ud):Ud:=if k then .list [p,q,w]else .tuple [p,q,w]
def wO(k:Bool)(p q w:Ud):bC (R3 k p q w)=Z [p,q,w]:=by cases k<;>rfl
def aES(h:jF x 3=true):∃k p q w,x=R3 k p q w:=by
 have o:∀ds:T5,((ds.length:Int)==3)=true->∃p q w,ds=[p,q,w]:=fun ds h=>by
  match ds,h with
  |[p,q,w],_=>exact⟨p,q,w,rfl⟩
  |[],h=>exact absurd h 52
  |[_],h=>exact absurd h 53
  |[_,_],h=>exact absurd h 53
  |_::_::_::_::r,h=>
   have:((r.length+1+1+1+1:Nat):Int)=3:=54
   omega
 cases x with
 |list ds=>obtain⟨p,q,w,rfl⟩:=o ds h;exact⟨true,p,q,w,rfl⟩
 |tuple ds=>obtain⟨p,q,w,rfl⟩:=o ds h;exact⟨false,p,q,w,rfl⟩
 |_=>cases h
def plc(n:Int):Ud->Bool
 |.int i=>decide (0<=i)&&decide (i<n)
 |_=>false
def pC(n:Int)(p:Ud)(M:Sto):gE [I n,.d p] M=Z (B<|plc n p,M):=by
 cases k:vM p with
 |false=>
  have e:plc n p=false:=by cases p<;>first|rfl|cases k
  rw[e];simp![gE,nZ,kY,k]
 |true=>
  obtain⟨i,rfl⟩:∃i,p=.int i:=by cases p<;>first|exact⟨_,rfl⟩|cases k
  have o:plc n (.int i)=(decide (0<=i)&&decide (i<n)):=rfl;rw[o];cases t:decide (0<=i)<;>simp![gE,nZ,kY,k,t,U5,A0d]
def ulk(n:Int)(p q:Ud):Bool:=match p,q with
 |.int i,.int j=>plc n p&&(plc n q&&!(i==j))
 |_,_=>false
def vO{n:Int}{p:Ud}(h:plc n p=true):∃i,p=.int i/\0<=i/\i<n:=by
 cases p with
 |int i=>simp only[plc,B4,U7]at h;exact⟨i,rfl,h.1,h.2⟩
 |_=>cases h
def WH(n:Int)(p q:Ud)(M:Sto):bV [I n,.d p,.d q] M=Z (B<|ulk n p q,M):=by
 cases k:plc n p with
 |false=>
  have e:ulk n p q=false:=by
   unfold ulk;split
   .rw[k];rfl
   .rfl
  rw[e];simp![bV,cT,pC,k]
 |true=>
  obtain⟨i,rfl,_⟩:=vO k;cases o:plc n q with
  |false=>
   have e:ulk n (.int i) q=false:=by
    unfold ulk;split
    .rw[o,A0d,A1d]
    .rfl
   rw[e];simp![bV,cT,pC,k,o]
  |true=>
   obtain⟨j,rfl,_⟩:=vO o;have e:ulk n (.int i) (.int j)=!(i==j):=by show(plc n (.int i)&&(plc n (.int j)&&!(i==j)))=_;rw[k,o];rfl
   rw[e];simp![bV,cT,pC,k,o,aGQ]
def jP(n:Int)(r:Ud):Ub Tie:=match bC r with
 |some [.int i,.int j,w]=>match bC w with
  |some [.int a,.int b]=>if 0<=i/\i<j/\j<n/\tJ a b=true then Z ⟨i,j,a,b⟩else Y
  |_=>Y
 |_=>Y
def aAb{w:Ud}(h:jT w=true):∃a b,bC w=Z [.int a,.int b]/\tJ a b=true:=by
 unfold jT at h;split at h
 .rename_i a b e;exact⟨a,b,e,h⟩
 .cases h
def VE{n:Int}{w:Ud}(k:bC r=Z [.int i,.int j,w])(o:bC w=Z [.int a,.int b])(h:0<=i/\i<j/\j<n/\tJ a b=true):jP n r=Z ⟨i,j,a,b⟩:=by
 unfold jP;rw[k];dsimp only;rw[o];dsimp only;rw[A7 h]
def wK{n:Int}{t:Tie}(h:jP n r=Z t):∃w,bC r=Z [.int t.i,.int t.j,w]/\bC w=Z [.int t.a,.int t.b]/\0<=t.i/\t.i<t.j/\t.j<n/\tJ t.a t.b=true:=by
 unfold jP at h;split at h
 .rename_i i j w k;split at h
  .rename_i a b o;split at h
   .rename_i c;cases h;exact⟨w,k,o,c⟩
   .cases h
  .cases h
 .cases h
def ix3(k:Bool)(p q w:Ud)(M:Sto):ixF (.d (R3 k p q w)) (I 0) M=Z (.d p,M)/\ixF (.d (R3 k p q w)) (I 1) M=Z (.d q,M)/\ixF (.d (R3 k p q w)) (I 2) M=Z (.d w,M):=by cases k<;>exact⟨rfl,rfl,rfl⟩
def aDJ(n:Int)(r:Ud)(M:Sto):kN [I n,.d r] M=Z (B (jP n r).isSome,M):=by
 cases D:jF r 3 with
 |false=>
  have e:jP n r=Y:=by
   cases h:jP n r with
   |none=>rfl
   |some t=>
    obtain⟨w,o,_⟩:=wK h;unfold jF at D;rw[o]at D;cases D
  have C:bN [I n,.d r] M=Z (B false,M):=by
   simp![bN,cP,gI,D]
  rw[e];simp![kN,nB,C,A2m]
 |true=>
  obtain⟨k,p,q,w,rfl⟩:=aES D;obtain⟨O,P,R⟩:=ix3 k p q w M;cases A:ulk n p q with
  |false=>
   have e:jP n (R3 k p q w)=Y:=by
    cases h:jP n (R3 k p q w)with
    |none=>rfl
    |some t=>
     obtain⟨Q,o,_,G,F,H,_⟩:=wK h;rw[wO]at o;cases o
     have:ulk n (.int t.i) (.int t.j)=true:=by
      have ne:(!(t.i==t.j))=true:=54
      show(plc n (.int t.i)&&(plc n (.int t.j)&&!(t.i==t.j)))=true;rw[ne];simp only[plc,C4 G,C4 H,C4 (show t.i<n by omega),C4 (show(0:Int)<=t.j by omega),U5]
     rw[this]at A;cases A
   have C:bN [I n,.d (R3 k p q w)] M=Z (B false,M):=by
    simp![bN,cP,gI,D,O,P,WH,A]
   rw[e];simp![kN,nB,C,A2m]
  |true=>
   obtain⟨i,j,rfl,rfl,G,H⟩:∃i j,p=.int i/\q=.int j/\0<=i/\j<n:=by
    unfold ulk at A;split at A
    .rename_i i j;rw[B4,B4]at A;obtain⟨i',S,T,_⟩:=vO A.1;obtain⟨j',U,_,V⟩:=vO A.2.1;cases S;cases U;exact⟨i,j,rfl,rfl,T,V⟩
    .cases A
   have C:bN [I n,.d (R3 k (.int i) (.int j) w)] M=Z (B<|decide (i<j),M):=by
    simp![bN,cP,gI,D,O,P,WH,A]
   cases F:decide (i<j)with
   |false=>
    have e:jP n (R3 k (.int i) (.int j) w)=Y:=by
     cases h:jP n (R3 k (.int i) (.int j) w)with
     |none=>rfl
     |some t=>
      obtain⟨Q,o,_,_,z,_⟩:=wK h;rw[wO]at o;cases o;exact absurd z<|of_decide_eq_false F
    rw[F]at C;rw[e];simp![kN,nB,C,A2m]
   |true=>
    rw[F]at C
    have e:(jP n<|R3 k (.int i) (.int j) w).isSome=jT w:=by
     cases E:jT w with
     |true=>
      obtain⟨a,b,W,X⟩:=aAb E;rw[VE (wO ..) W ⟨G,D7 F,H,X⟩];rfl
     |false=>
      cases h:jP n (R3 k (.int i) (.int j) w)with
      |none=>rfl
      |some t=>
       obtain⟨Q,o,h2,_,_,_,K⟩:=wK h;rw[wO]at o;cases o;unfold jT at E;rw[h2]at E;dsimp only at E;rw[K]at E;cases E
    rw[e];simp![kN,nB,C,R,NY]
abbrev LG(n:Int)(x:CD)(c k:Nat)(r:Ud):Ga:=[Z (I n),Z x,Z (.c c),Z<|I (k:Nat),Z (.d r)]
noncomputable def BF(k:Nat)(l:T5):T8:=(l.zipIdx k).map fun p=>.d (.tuple [.int (p.2:Nat),p.1])
abbrev G2:GF:=gU 2<|cG (hName 3)<|cG (hName 4) pH
def aNk{n:Int}{x:CD}{k:Nat}:G2 (.d (.tuple [.int (k:Nat),r])) [Z (I n),Z x,Z (.c c),g3,g4] M=Z (LG n x c k r,M):=rfl
def gG{c:Cell}:(M++[c])[M.length]?=Z c:=54
def aPj{w:Ud}(h:bC w=Z [.int a,.int b])(M:Sto):kX [.d w] M=Z (.d (.tuple [.int a,.int b]),M):=by
 cases w<;>first|(cases h;rfl)|cases h
def aLh{n:Int}{t:Tie}(h:tJ t.a t.b=true/\0<=t.i/\t.i<t.j/\t.j<n):jP n (.tuple (f2 t))=Z t:=
 VE rfl rfl ⟨h.2.1,h.2.2.1,h.2.2.2,h.1⟩
def YV{n:Int}{x:CD}{M:Sto}{ts:Ua Tie}(K:ts.length<1000)(ht:jP n (.tuple (f2 t))=Z t)(A:∀s∈ts,s.key≠t.key):
 fT (LG n x M.length k (.tuple (f2 t))) (M++[.dt (bJ ts)])=Z (.nx (LG n x M.length k (.tuple (f2 t))),M++[.dt (bJ (ts++[t]))]):=by
 have B:=aDJ n (.tuple (f2 t)) (M++[.dt (bJ ts)]);rw[ht,Option.isSome_some]at B;have D:ixF (.d (.tuple (f2 t))) (I 0) (M++[.dt (bJ ts)])=Z (I t.i,M++[.dt (bJ ts)]):=rfl;have E:ixF (.d (.tuple (f2 t))) (I 1) (M++[.dt (bJ ts)])=Z (I t.j,M++[.dt (bJ ts)]):=rfl;have F:ixF (.d (.tuple (f2 t))) (I 2) (M++[.dt (bJ ts)])=Z (.d (.tuple [.int t.a,.int t.b]),M++[.dt (bJ ts)]):=rfl;have G:=aPj (w:=.tuple [.int t.a,.int t.b]) rfl (M++[.dt (bJ ts)]);have C:(M++[Cell.dt (bJ ts)])[M.length]?=Z (.dt (bJ ts)):=gG;have o:keysOf [I t.i,I t.j]=Z t.key:=rfl;have H:(Tie.key t).length<=sizeLine:=sz (show 2<=1000 by decide);have at_:atD (M++[.dt (bJ ts)]) (.c M.length) (.inr t.key)=Z Y:=by simp only[atD,C,aHb A]
 have len:(bJ ts).length<sizeLine:=by unfold bJ;rw[A4,J9];omega
 have st:qD (M++[.dt (bJ ts)]) (.c M.length) (.inr t.key) (.d (.tuple [.int t.a,.int t.b]))=Z (M++[.dt (bJ (ts++[t]))]):=by
  have pn:putD (bJ ts) t.key (.d (.tuple [.int t.a,.int t.b]))=bJ (ts++[t]):=WJ A;simp only[qD,C,A7 len,pn];rw[LQ]
 simp![fT,B,RY,gT,D,E,F,o,A7 H,at_,gC,G,st,A2m]
theorem HV{n:Int}{x:CD}{M:Sto}:∀(ws ts:Ua Tie)(k:Nat)(g3 g4:Th),((ts++ws).map Tie.key).Nodup->(∀t∈ws,jP n (.tuple (f2 t))=Z t)->ts.length+ws.length<1000->
 ∃o A,jW G2 fT (BF k<|eQ ws) [Z (I n),Z x,Z (.c M.length),g3,g4] (M++[.dt (bJ ts)])=Z (.nx [Z (I n),Z x,Z (.c M.length),o,A],M++[.dt (bJ (ts++ws))])
 |[]=>fun ts k g3 g4 _ _ _=>⟨g3,g4,by rw[L6];rfl⟩
 |t::ws=>fun ts k g3 g4 nd ok B=>by
  have C:∀s∈ts,s.key≠t.key:=fun s hs e=>by
   rw[F7,Z3]at nd;exact nd.2.2 _ (A2b hs) _ (A2b<|B9 ..) e
  rw[D3]at B;have tn:=YV (x:=x) (M:=M) (k:=k) 50 (ok t<|B9 ..) C;have e:ts++t::ws=ts++[t]++ws:=53
  rw[e]at nd ⊢;obtain⟨a,b,h⟩:=HV ws (ts++[t]) (k+1) (Z<|I (k:Nat)) (Z (.d (.tuple (f2 t)))) nd (fun s hs=>ok s<|A9 _ hs) 54;refine⟨a,b,?_⟩;rw[<- h];show jW G2 fT (.d (.tuple [.int (k:Nat),.tuple (f2 t)])::BF (k+1) (eQ ws)) _ _=_
  conv=>lhs;unfold jW
  rw[aNk,A1];rw[tn,A1]
def aGZ{n:Int}{d:Ud}{l:T5}{c:CD}(hd:bC d=Z l):MV xq1 [Z (I n),Z (.d d),Z c,Y,Y] M=Z (BF 0 l,M):=by
 simp![MV,hd];rfl
def aGo{n:Int}{M:Sto}(ok:Ok n us):
 ∃vs:Ua Tie,vs.Perm us/\iW [I n,.d (.list (eQ us))] M=Z (.d (.tuple (eN vs)),M++[.dt (bJ us)]):=by
 obtain⟨A,nd,k⟩:=ok;obtain⟨g3,g4,B⟩:=HV (x:=.d (.list (eQ us))) (M:=M) us [] 0 Y Y 54 (fun t ht=>aLh<|A t ht) 54;obtain⟨vs,pm,C⟩:=aGs k;refine⟨vs,pm,?_⟩;have o:iB (.list (eQ us))=true:=rfl;have D:(M++[Cell.dt []])=M++[.dt (bJ [])]:=rfl;have E:(M++[Cell.dt (bJ us)])[M.length]?=Z (.dt (bJ us)):=gG;have H:vs.length<64:=by rw[pm.length_eq];exact k
 have it:cA (yB<|aD 2) [Z (I n),Z (.d (.list (eQ us))),Z (.c M.length),g3,g4] (M++[.dt (bJ us)])=Z (vs.map fun t=>.d (.tuple (f1 t)),M++[.dt (bJ us)]):=by
  have s1:yB (aD 2) [Z (I n),Z (.d (.list (eQ us))),Z (.c M.length),g3,g4] (M++[.dt (bJ us)])=Z (.d (.list (vs.map fun t=>.tuple (f1 t))),M++[.dt (bJ us)]):=by
   simp![yB,E,QL,aFq,C]
  unfold cA;rw[s1,A1];show(Z (vs.map fun t=>PyData.tuple<|f1 t)).bind _=_;rw[A1,I0];rfl
 have F:tU [Z (I n),Z (.d (.list (eQ us))),Z (.c M.length),g3,g4] (M++[.dt (bJ us)])=Z (.d (.list (eN vs)),M++[.dt (bJ us)]):=by
  exact aAM it (sz 54) (HB vs Y Y Y)<|aBL 50
 have G:kX [.d (.list (eN vs))] (M++[.dt (bJ us)])=Z (.d (.tuple (eN vs)),M++[.dt (bJ us)]):=rfl;have hi:bC (.list (eQ us))=Z (eQ us):=rfl;simp![iW,qJ,wN,o,rO,D,nM,aGZ hi,B,F,G]
def aHA{n:Int}{M:Sto}(ok:Ok n us)(V:1<=n)(D:n<=40):
 ∃vs:Ua Tie,vs.Perm us/\gJ [.c M.length,I n,.d (.list (eQ us))] (M++[.obj "Web" []])=Z (.d .none,M++aLm M.length n us vs):=by
 obtain⟨vs,pm,k⟩:=aGo (M:=M++[.obj "Web" [("many",I n)]]) ok;obtain⟨t,nd,o⟩:=ok;refine⟨vs,pm,?_⟩;have E:fW [I n] (M++[.obj "Web" []])=Z (B true,M++[.obj "Web" []]):=kY _ _;have F:decide (n<1)=false:=F6 50;have G:decide (n > 40)=false:=F6 50;have t:objOf "Web" (M++[.obj "Web" []]) (.c M.length)=Z (M.length,[]):=RQ;have s1:(M++[Cell.obj "Web" []]).set M.length (.obj "Web" (SR "many" (I n) []))=M++[.obj "Web" [("many",I n)]]:=LQ
 have k:iW [I n,.d (.list (eQ us))] (M++[.obj "Web" [("many",I n)]])=Z (.d (.tuple (eN vs)),M++[.obj "Web" [("many",I n)],.dt (bJ us)]):=by
  rw[k,Y4];rfl
 have H:objOf "Web" (M++[.obj "Web" [("many",I n)],.dt (bJ us)]) (.c M.length)=Z (M.length,([("many",I n)]:Tz)):=RQ;have K:SR "ties" (.d (.tuple (eN vs))) ([("many",I n)]:Tz)=([("many",I n),("ties",.d (.tuple (eN vs)))]:Tz):=rfl;have s2:(M++[Cell.obj "Web" [("many",I n)],.dt (bJ us)]).set M.length (.obj "Web" [("many",I n),("ties",.d (.tuple (eN vs)))])=M++[.obj "Web" [("many",I n),("ties",.d (.tuple (eN vs)))],.dt (bJ us)]:=LQ;have A:∀L,objOf "Web" (M++(.obj "Web" [("many",I n),("ties",.d (.tuple (eN vs)))]::L)) (.c M.length)=Z (M.length,([("many",I n),("ties",.d (.tuple (eN vs)))]:Tz)):=fun L=>RQ;have O:List.lookup ("ties":Str) [("many",I n),("ties",.d (.tuple (eN vs)))]=Z (.d (.tuple (eN vs))):=rfl
 have it:cA (uT "Web" "ties"<|aD 0) [Z (.c M.length),Z<|I n,Z (.d (.list (eQ us)))] (M++[.obj "Web" [("many",I n),("ties",.d (.tuple (eN vs)))],.dt (bJ us)])=Z ((eQ<|vs.filter big).map .d,M++[.obj "Web" [("many",I n),("ties",.d (.tuple (eN vs)))],.dt (bJ us)]):=by
  have:uT "Web" "ties" (aD 0) [Z (.c M.length),Z<|I n,Z (.d (.list (eQ us)))] (M++[.obj "Web" [("many",I n),("ties",.d (.tuple (eN vs)))],.dt (bJ us)])=Z (.d (.tuple (eN vs)),M++[.obj "Web" [("many",I n),("ties",.d (.tuple (eN vs)))],.dt (bJ us)]):=by
   simp![uT,A,O]
  unfold cA;rw[this];rfl
 have fl:(vs.filter big).length<=vs.length:=List.length_filter_le ..;have W:vs.length<64:=by rw[pm.length_eq];exact o
 have P:(vs.map Tie.key).Nodup:=(pm.map Tie.key).nodup_iff.mpr nd;have ln:(M++[Cell.obj "Web" [("many",I n),("ties",.d (.tuple (eN vs)))],.dt (bJ us)]).length=M.length+2:=by rw[C1];rfl
 have C:=NC (N:=M++[.obj "Web" [("many",I n),("ties",.d (.tuple (eN vs)))],.dt (bJ us)]) (vs.filter big) [] Y Y Y (by rw[A1z];exact UC P) (by simp only[A1h];omega);rw[A1z]at C
 have Q:mU [Z (.c M.length),Z<|I n,Z (.d (.list (eQ us)))] (M++[.obj "Web" [("many",I n),("ties",.d (.tuple (eN vs)))],.dt (bJ us)])=Z (.c (M.length+2),M++[.obj "Web" [("many",I n),("ties",.d (.tuple (eN vs)))],.dt (bJ us),.dt (bJ<|vs.filter big)]):=by
  unfold mU fDc;rw[it,A1];dsimp only;rw[show tI [Y,Y,Y] [Z (CD.c M.length),Z<|I n,Z (.d (.list (eQ us)))]=[Y,Y,Y]from rfl,show(M++[Cell.obj "Web" [("many",I n),("ties",CD.d (.tuple (eN vs)))],.dt (bJ us)]++[Cell.dt []])=M++[Cell.obj "Web" [("many",I n),("ties",CD.d (.tuple (eN vs)))],.dt (bJ us)]++[Cell.dt (bJ [])]from rfl,C,A1,ln,Y4];rfl
 have R:SR "weights" (.c (M.length+2)) ([("many",I n),("ties",.d (.tuple (eN vs)))]:Tz)=([("many",I n),("ties",.d (.tuple (eN vs))),("weights",.c (M.length+2))]:Tz):=rfl;have s3:(M++[Cell.obj "Web" [("many",I n),("ties",.d (.tuple (eN vs)))],.dt (bJ us),.dt (bJ<|vs.filter big)]).set M.length (.obj "Web" [("many",I n),("ties",.d (.tuple (eN vs))),("weights",.c (M.length+2))])=M++aLm M.length n us vs:=LQ;have S:([]:Tz).length<1000:=52
 have T:([("many",I n)]:Tz).length<1000:=by show 1<1000;decide
 have U:([("many",I n),("ties",.d (.tuple (eN vs)))]:Tz).length<1000:=by show 2<1000;decide
 simp![gJ,sJ,E,F,G,GN,t,s1,k,H,K,s2,Q,A,R,s3,A1i,A7 S,A7 T,A7 U,show(0:Nat)<1000 from by decide,show(0+1:Nat)<1000 from by decide,show(1:Nat)<1000 from by decide,show(2:Nat)<1000 from by decide,show(0+1+1:Nat)<1000 from by decide]
def aK{f g:SF}(h:f γ M=Z (.nx γ',M')):aY f g γ M=g γ' M':=by simp only[aY,h,A1]
def fZ{f g:SF}{x:CD}(h:f γ M=Z (.rt x,M')):aY f g γ M=Z (.rt x,M'):=by simp only[aY,h,A1]
def bH{i:Nat}{x:CD}(h:f γ M=Z (x,M')):aW f (hName i) γ M=Z (.nx (γ.set i<|Z x),M'):=by simp only[aW,hName,h,A1]
def dF{b:SF}{x:CD}(h:xs.length=ps)(k:b (xs.map Z++List.replicate (N-xs.length) Y) M=Z (.rt x,M')):fnF ps N b xs M=Z (x,M'):=by simp only[fnF,A7 h,k,A1]
def iG{f:AF}{g:GF}{b:SF}{M1:Sto}{r:Ub (Out×Sto)}(h:f γ M=Z (xs,M1))(k:jW g b xs γ M1=r):nM f g b γ M=r:=by simp only[nM,h,A1,k]
def iZ{g:GF}{b:SF}{x:CD}{M1 M2:Sto}(h:g x γ M=Z (γ1,M1))(o:b γ1 M1=Z (.nx k,M2)):jW g b (x::xs) γ M=jW g b xs k M2:=by
 conv=>lhs;unfold jW
 rw[h,A1];rw[o];rfl
def aG{g:AF}{M1 M2:Sto}{x:CD}(k:f γ M=Z (x,M1))(o:g γ M1=Z (xs,M2)):aC f g γ M=Z (x::xs,M2):=by simp only[aC,k,o,A1]
def aR:aO γ M=Z ([],M):=rfl
def aZ{F:FN}{M1 M2:Sto}{y:CD}(ha:fa γ M=Z (xs,M1))(h:F xs M1=Z (y,M2)):aP F fa γ M=Z (y,M2):=by simp only[aP,ha,A1,h]
def bG{k:F2}{M1 M2:Sto}{a b c:CD}(o:f γ M=Z (a,M1))(t:g γ M1=Z (b,M2))(h:k a b M2=Z (c,M3)):fOp k f g γ M=Z (c,M3):=by simp only[fOp,o,t,A1,h]
def cM{M1:Sto}{b:Bool}(h:f γ M=Z (B b,M1)):gB f γ M=Z (b,M1):=by
 unfold gB;rw[h];rfl
def eB{c:TF}{a b:SF}(h:c γ M=Z (true,M')):sIf c a b γ M=a γ M':=by simp only[sIf,h,A1,A1i]
def bU{c:TF}{a b:SF}(h:c γ M=Z (false,M')):sIf c a b γ M=b γ M':=by simp only[sIf,h,A1,Bool.false_eq_true,if_false]
def aFH{c:Cell}:(M++[c]).set M.length c'=M++[c']:=54
def lw(lo hi:Int):Ud->Bool
 |.int i=>decide (lo<=i)&&decide (i<=hi)
 |_=>false
def aPr(p:Ud)(lo hi:Int)(M:Sto):dZ [.d p,I lo,I hi] M=Z (B<|lw lo hi p,M):=by
 cases p with
 |int i=>
  have k:lw lo hi (.int i)=(decide (lo<=i)&&decide (i<=hi)):=rfl;have o:yH "int" (.int i)=true:=rfl;have t:yH "bool" (.int i)=false:=rfl;rw[k];cases A:decide (lo<=i)<;>simp![dZ,jK,o,t,A,U5,A0d]
 |_=>rfl
def AQ(h:bC r=Z ds)(M:Sto):iE [.d r] M=Z (I ds.length,M):=by
 cases r<;>first|(cases h;rfl)|cases h
abbrev Inn(n:Nat)(p:Int):Prop:=0<=p/\p<n
def wU{o:Type}{xs:Ua o}{k:Nat}{x:o}(h:xs[k]?=Z x):atI xs (k:Int)=Z x:=by
 have t:=(B3.mp h).1;unfold atI ixN;rw[A7 (Int.natCast_nonneg k),A7 50,A1,A0l,h]
def sQ{k:Type}{ds:Ua k}{lo hi:To}:∀x∈gP ds lo hi,x∈ds:=fun x o=>by
 exact List.mem_of_mem_drop<|List.mem_of_mem_take o
def AH{k:Type}(ds:Ua k)(lo hi:To):(gP ds lo hi).length<=ds.length:=by
 unfold gP;rw[Z9,A0o];omega
def aFJ{k:Type}{ds:Ua k}(o:0<=a)(t:a<ds.length):(gP ds Y<|Z a).length+(gP ds (Z (a+1)) Y).length+1=ds.length:=by
 obtain⟨q,rfl⟩:∃q:Nat,a=(q:Nat):=⟨a.toNat,50⟩;unfold gP;rw[HT.sIx_none,HT.sIx_none,show((q:Nat):Int)+1=((q+1:Nat):Int)from rfl,HT.sIx_nat,HT.sIx_nat,Z9,A0o,Z9,A0o];omega
def sl_tup{lo:To}:slF (.d (.tuple ds)) lo hi M=Z (.d (.tuple (gP ds lo hi)),M):=rfl
def sS{xs:T5}(k:xs.length+ys.length<=1000):dU (.d (.tuple xs)) (.d (.tuple ys)) M=Z (.d (.tuple (xs++ys)),M):=by
 cases xs with
 |nil=>rfl
 |cons x xs=>
  have h:(x::xs:T5)≠[]/\(x::xs).length+ys.length<=sizeLine:=⟨53,sz k⟩;show(if (x::xs:T5)≠[]/\(x::xs).length+ys.length<=sizeLine then Z (CD.d (.tuple (x::xs++ys)),M)else Y)=_;rw[A7 h]
def vW{t:Type}{ds:Ua t}{k m:Int}(hm:0<m)(B:(ds.length:Int)=m):∃d,atI ds (k % m)=Z d/\d∈ds:=by
 have C:=S5 k (show m≠0 by omega);have D:=L7 k hm;have o:(k % m).toNat<ds.length:=50
 obtain⟨q,A⟩:∃q:Nat,k % m=(q:Nat):=⟨(k % m).toNat,50⟩;rw[A]at o ⊢;exact⟨ds[q],wU<|C0 o,A0q o⟩
abbrev cI(xs:Ta):Cell:=.lst (xs.map fun i=>I i)
def Li(M:Sto)(c:Nat)(xs:Ta):Prop:=M[c]?=Z (cI xs)
structure Oth(c:Nat)(M M':Sto):Prop where
 len:M'.length=M.length
 at_:∀i,i≠c->M'[i]?=M[i]?
def Li.lt{xs:Ta}(h:Li M c xs):c<M.length:=(B3.mp h).1
def Li.set{xs ys:Ta}(h:Li M c xs):Li (M.set c<|cI ys) c ys/\Oth c M (M.set c<|cI ys):=
 ⟨by unfold Li;rw[E2 h.lt],by rw[U2],fun i hi=>by rw[E1 (S7 hi)]⟩
def Li.oth{xs:Ta}(h:Li M c xs)(o:Oth d M M')(ne:c≠d):Li M' c xs:=by unfold Li;rw[o.at_ c ne];exact h
def Li.app{xs:Ta}(h:Li M c xs):Li (M++L) c xs:=by unfold Li;rw[C8 h.lt];exact h
def Li.ty{xs:Ta}(h:Li M c xs):tyB "list" M (.c c)=true:=by
 unfold Li at h;simp only[tyB,h];decide
def Li.ln{xs:Ta}(h:Li M c xs):iE [.c c] M=Z (I xs.length,M):=by
 unfold Li at h;simp only[iE,h,A4]
def aDR{o:Type}{xs:Ua o}(h:Inn xs.length p):∃z,atI xs p=Z z/\z∈xs:=by
 obtain⟨q,rfl⟩:∃q:Nat,p=(q:Nat):=⟨p.toNat,50⟩;have k:q<xs.length:=50
 exact⟨xs[q],wU<|C0 k,A0q k⟩
def Li.ix{xs:Ta}(h:Li M c xs)(t:Inn xs.length p):∃z,ixF (.c c) (I p) M=Z (I z,M):=by
 obtain⟨z,k,o⟩:=aDR (xs:=xs.map fun i=>I i) (by simp;omega);obtain⟨y,_,rfl⟩:=C7.mp o;refine⟨y,?_⟩;unfold Li at h;simp only[ixF,h,k,A1]
def Li.put{xs:Ta}(h:Li M c xs)(k:Inn xs.length p):∃ys,ys.length=xs.length/\OD (.c c) (I p) (I z) M=Z (M.set c<|cI ys):=by
 obtain⟨q,rfl⟩:∃q:Nat,p=(q:Nat):=⟨p.toNat,50⟩;refine⟨xs.set q z,by rw[U2],?_⟩
 have hn:ixN (xs.map fun i=>I i).length (q:Int)=Z q:=by
  unfold ixN;rw[A7 (Int.natCast_nonneg q),A7 54,A0l]
 unfold Li at h;simp only[OD,h,hn,A1,cI,List.map_set]
def Li.push{xs:Ta}(h:Li M c xs)(k:xs.length<1000):cU (.c c) [I z] M=Z (.d .none,M.set c<|cI (xs++[z])):=by
 have l:(xs.map fun i=>I i).length<sizeLine:=by rw[A4,J9];omega
 unfold Li at h;simp only[cU,h,A7 l,cI,F7,A2n]
def Li.pop{xs:Ta}(h:Li M c (xs++[z])):CK (.c c) [] M=Z (I z,M.set c<|cI xs):=by
 have k:((xs++[z]).map fun i=>I i)[((xs++[z]).map fun i=>I i).length-1]?=Z (I z):=by
  rw[A4,C1,D8,Nat.add_sub_cancel,D6,Y0<|A8 _,Nat.sub_self];rfl
 have o:((xs++[z]).map fun i=>I i).dropLast=xs.map fun i=>I i:=by
  rw[F7,A2n,List.dropLast_concat]
 unfold Li at h;simp only[CK,h,k,o,A1]
def Rn(x:Int):Prop:=0<=x/\x<2147483647
def aEu(h:0<b)(k:b<=2147483647):Rn (y % b):=⟨S5 _ 50,Int.lt_of_lt_of_le (L7 _ h) k⟩
def Dk(M:Sto)(c m:Nat):Prop:=∃xs,Li M c xs/\m<=xs.length/\∀x∈xs,Rn x
def Dk.app(h:Dk M c m):Dk (M++L) c m:=let⟨xs,a,b⟩:=h;⟨xs,a.app,b⟩
def Dk.pop(h:Dk M c (m+1)):∃z M',CK (.c c) [] M=Z (I z,M')/\Dk M' c m/\Oth c M M'/\Rn z:=by
 obtain⟨xs,a,b,r⟩:=h;rcases List.eq_nil_or_concat xs with rfl|⟨ys,z,rfl⟩
 .simp at b
 .rw[List.concat_eq_append]at a b r;rw[C1,D8]at b;exact⟨z,_,a.pop,⟨ys,(a.set).1,50,fun x k=>r x<|D9 _ k⟩,(a.set).2,r z 53⟩
def Dk.ty(h:Dk M c m):tyB "list" M (.c c)=true:=let⟨_,a,_⟩:=h;a.ty
def Dk.oth(h:Dk M c m)(o:Oth d M M')(ne:c≠d):Dk M' c m:=let⟨xs,a,b⟩:=h;⟨xs,a.oth o ne,b⟩
def OL(lo:Int)(n:Nat):jV lo (n+1)=I lo::jV (lo+1) n:=by
 unfold jV;rw[List.range_succ_eq_map,D4,I0];refine congr (A0h List.cons ?_) (Z6 fun k _=>?_)
 .show CD.d (.int (lo+((0:Nat):Int)))=I lo;rw[show lo+((0:Nat):Int)=lo by omega]
 .show CD.d (.int (lo+((k+1:Nat):Int)))=.d (.int (lo+1+(k:Nat)));rw[show lo+((k+1:Nat):Int)=lo+1+(k:Nat)by omega]
def aEv(h:i.natAbs<2 ^ 64):pR i j=true:=by unfold pR;rw[C4 h];rfl
def mul_r(h:j.natAbs<2 ^ 64):pR i j=true:=by unfold pR;rw[C4 h,Bool.or_true];rfl
def nab(k:0<=z)(o:z<b)(t:b<=2 ^ 62):z.natAbs<2 ^ 64:=50
abbrev GD(s many:CD)(r d:Nat)(o:Int)(k at_ one:Th):Ga:=[Z s,Z many,Z (.c r),Z<|I o,Z (.c d),k,at_,one]
def ZO{s:CD}{r:Nat}{k:Int}{xs ds:Ta}{g6 g7:Th}(D:Li M r xs)(hd:Li M d ds)(ne:r≠d)(x0:0<xs.length)(U:ds.length<1000)(W:0<=k)(X:k<1000)(rd:∀x∈ds,Rn x):
 ∃E B K O M',eE (GD s many r d o (Z<|I k) g6 g7) M=Z (.nx (GD s many r d o (Z<|I k) K O),M')/\Li M' r E/\Li M' d B/\E.length=xs.length/\B.length=ds.length+1/\∀x∈B,Rn x:=by
 have A:∀y,Rn y->∀x∈ds++[y],Rn x:=fun y hy x hx=>by
  rcases C9.mp hx with h|h
  .exact rd x h
  .rw[A6.mp h];exact hy
 have ln:=D.ln;have P:=S5 k (show(xs.length:Int)≠0 by omega);have Q:=L7 k (show(0:Int)<xs.length by omega);obtain⟨z,ix⟩:=D.ix ⟨P,Q⟩;have R:lC k xs.length=true:=eJ 50;have V:∀y,lC y 1000000=true:=fun y=>eJ 52;have m3:∀y,lC y 2147483629=true:=fun y=>eJ 52;have m4:∀y,lC y 2147483647=true:=fun y=>eJ 52;have m5:∀y,lC y 4=true:=fun y=>eJ 52;have dv:∀y,yV y 1000000=true:=fun y=>zZ 52<|wsm 52 52;obtain⟨ys,yl,st⟩:=D.put (z:=z / 1000000) ⟨P,Q⟩;generalize (xs.length:Int)=J at ln P Q ix R st;cases h:(o==0)with
 |true=>
  obtain⟨c,hc,F⟩:=vW (ds:=([.int 48271,.int 69621,.int 39373,.int 40692]:T5)) (m:=4) 52 rfl
  obtain⟨C,rfl,S⟩:∃v:Int,c=.int v/\v.natAbs<2 ^ 64:=by
   simp only[B8,L9,A0r]at F;rcases F with rfl|rfl|rfl|rfl<;>exact⟨_,rfl,52⟩
  have xk:ixF (.d (.list [.int 48271,.int 69621,.int 39373,.int 40692])) (I (k % 4)) M=Z (I C,M):=by
   show(atI [PyData.int 48271,.int 69621,.int 39373,.int 40692] (k % 4)).bind _=_;rw[hc];rfl
  have q1:pR k k=true:=aEv<|nab W X 52;have q2:pR (k*k) 16807=true:=mul_r 52;have q3:pR 3 k=true:=aEv 52;have q4:∀y,pR y C=true:=fun y=>mul_r S;have a1:∀i j:Int,dU (I i) (I j) M=Z (I (i+j),M):=fun i j=>rfl;have q5:∀y,pR (y % 2147483647) (y % 2147483647)=true:=fun y=>aEv<|nab (S5 _ 52) (L7 _ 52) 52;generalize hv:(z+k*k*16807+3*k) % 2147483629=H;have T:=fun y=>hd.push (z:=y) U;refine⟨xs,ds++[(H*C+7) % 2147483647*((H*C+7) % 2147483647) % 2147483629],Z<|I (k % J),Z<|I ((H*C+7) % 2147483647*((H*C+7) % 2147483647) % 2147483629),_,?_,D.oth (hd.set).2 ne,(hd.set).1,rfl,by rw[C1,D8],A _<|aEu 52 52⟩;simp![eE,ln,R,V,ix,LR,h,q1,q2,q3,a1,m3,hv,AV,m5,xk,q4,m4,q5,cZ,hd.ty,T]
 |false=>
  have G:=D.set (ys:=ys);have t:=hd.oth G.2<|S7 ne;have T:=t.push (z:=z % 1000000) U;refine⟨ys,ds++[z % 1000000],Z<|I (k % J),Z<|I (z % 1000000),_,?_,G.1.oth (t.set).2 ne,(t.set).1,yl,by rw[C1,D8],A _<|aEu 52 52⟩;simp![eE,ln,R,V,ix,LR,h,dv,st,cZ,t.ty,T]
theorem GI{s:CD}{r d:Nat}:∀(m:Nat)(k:Int)(M:Sto)(xs ds:Ta)(g5 g6 g7:Th),Li M r xs->Li M d ds->r≠d->0<xs.length->0<=k->k+m<900->ds.length+m<900->(∀x∈ds,Rn x)->
 ∃A B C D M',jW (hName 5) eE (jV k m) (GD s many r d o g5 g6 g7) M=Z (.nx (GD s many r d o B C D),M')/\Li M' d A/\A.length=ds.length+m/\∀x∈A,Rn x
 |0=>fun k M xs ds g5 g6 g7 G hd ne H K _ _ rd=>⟨ds,g5,g6,g7,M,rfl,hd,rfl,rd⟩
 |m+1=>fun k M xs ds g5 g6 g7 G hd ne H K hk hl rd=>by
  obtain⟨E,F,O,P,M1,t,Q,R,h3,h4,S⟩:=ZO G hd ne H 50 K 50 rd;obtain⟨A,T,U,V,M',l,W,h6,X⟩:=GI m (k+1) M1 E F (Z<|I k) O P Q R ne 50 50 50 50 S;refine⟨A,T,U,V,M',?_,W,50,X⟩;rw[OL,iZ rfl t];exact l
theorem EB(n:Nat)(M:Sto):∀ns:Ta,rZ n M (ns.map fun i=>I i)=Z (ns.map .int)
 |[]=>by unfold rZ;rfl
 |i::ns=>by
  rw[D4];unfold rZ;rw[RG,A1,EB n M ns];rfl
theorem sC:∀ns:Ta,PyData.canLayAll0 (ns.map .int)=true
 |[]=>rfl
 |n::ns=>by show(true&&PyData.canLayAll0 (ns.map .int))=true;rw[sC ns];rfl
theorem uN:∀ns:Ta,PyData.depthAll (ns.map .int)=0
 |[]=>rfl
 |n::ns=>by show max 0 (PyData.depthAll<|ns.map .int)=0;rw[uN ns];rfl
def aME(ns:Ta):SeqAt.shaped (.list (ns.map .int))=true:=by
 unfold SeqAt.shaped;have k:PyData.canLay0 (.list (ns.map .int))=true:=sC ns;have o:PyData.depth (.list (ns.map .int))=1:=by show PyData.depthAll (ns.map .int)+1=1;rw[uN]
 rw[k,o];rfl
def aFX(h:Li M c ns):eqY false (.c c) (.d (.list [])) M=Z (B ns.isEmpty,M):=by
 have s1:snap 5 M (.c c)=Z (.list (ns.map .int)):=by
  unfold snap;rw[h];show(rZ 4 M (ns.map fun i=>I i)).bind _=_;rw[EB];rfl
 have s2:snap 5 M (.d (.list []))=Z (.list []):=by rw[RG]
 show eqC false (.c c) (.d (.list [])) M=_;unfold eqC;rw[s1,A1,s2,A1,aME,show SeqAt.shaped (.list [])=true from rfl];cases ns<;>rfl
def aOi{x:CD}(sm:eM J=true):fH xq1 (x::Z (I J)::γ) M=Z (jV 0 J.toNat,M):=by
 simp![fH,sm]
def aJs(ns:Ta):∃c M,qQ [.d (.list (ns.map .int)),I 480] []=Z (.c c,M)/\Dk M c 480:=by
 have A:(0:Nat)<=sizeLine:=F9 _;have s1:(1:Nat)<=sizeLine:=52
 have st:∀(r:Nat)(M:Sto)(xs:Ta),Li M r xs->0<xs.length->∃c M',(aY (aW aIT<|hName 3)
 (aY aNL
 (aY (aW (mH aO)<|hName 4)
 (aY (nM (fH xq1) (hName 5) eE)
 (aY (eA<|cZ "list" kF (aD 4) aO)
 (cQ (aD 4))))))) [Z (.d (.list (ns.map .int))),Z (I 480),Z (.c r),Y,Y,Y,Y,Y] M=Z (.rt (.c c),M')/\Dk M' c 480:=by
  intro r M xs o x0;obtain⟨z,ix⟩:=o.ix (p:=0) ⟨52,50⟩;have P:∀y,lC y 2=true:=fun y=>eJ 52;have Q:∀y,yV y 2=true:=fun y=>zZ 52<|wsm 52 52;obtain⟨ys,yl,pt⟩:=o.put (p:=0) (z:=z / 2) ⟨52,50⟩;have B:=(o.set (ys:=ys)).1;have C:=B.app (L:=[Cell.lst []]);have K:(M.set r<|cI ys).length=M.length:=by rw[U2]
  have hd:Li (M.set r (cI ys)++[Cell.lst []]) M.length []:=by
   unfold Li;rw[<- K,Y0<|A8 _,Nat.sub_self];rfl
  have rl:=o.lt;obtain⟨ds,a5,a6,a7,M',R,k,S,T⟩:=GI 480 0 _ ys [] Y Y Y C hd 50 50 52 52 52 (fun x D=>by simp at D);have rg:fH xq1 (GD (.d (.list (ns.map .int))) (I 480) r M.length (z % 2) Y Y Y) (M.set r (cI ys)++[Cell.lst []])=Z (jV 0 480,M.set r (cI ys)++[Cell.lst []]):=aOi 52;have U:=iG rg R
  have V:kF (.c M.length) [] M'=Z (.d .none,M'.set M.length<|cI ds.reverse):=by
   have:=k;unfold Li at this;simp only[kF,this];rw[cI,List.map_reverse]
  refine⟨M.length,M'.set M.length<|cI ds.reverse,?_,ds.reverse,(k.set).1,by rw[Y5,S];exact A8 _,fun x D=>T x<|List.mem_reverse.mp D⟩
  have W:aW aIT (hName 3) [Z (.d (.list (ns.map .int))),Z<|I 480,Z (.c r),Y,Y,Y,Y,Y] M=Z (.nx [Z (.d (.list (ns.map .int))),Z<|I 480,Z (.c r),Z<|I (z % 2),Y,Y,Y,Y],M):=by
   simp![ix,P]
  have X:aW (fOp iV aDU<|fC (.int 2)) (hSub (aD 2) (fC (.int 0)) OD) [Z (.d (.list (ns.map .int))),Z<|I 480,Z (.c r),Z<|I (z % 2),Y,Y,Y,Y] M=Z (.nx [Z (.d (.list (ns.map .int))),Z<|I 480,Z (.c r),Z<|I (z % 2),Y,Y,Y,Y],M.set r<|cI ys):=by
   simp![ix,Q,pt]
  have a3:aW (mH aO) (hName 4) [Z (.d (.list (ns.map .int))),Z<|I 480,Z (.c r),Z<|I (z % 2),Y,Y,Y,Y] (M.set r<|cI ys)=Z (.nx (GD (.d (.list (ns.map .int))) (I 480) r M.length (z % 2) Y Y Y),M.set r (cI ys)++[Cell.lst []]):=by
   simp![A,K]
  rw[aK W,aK X,aK a3,aK U];simp![cZ,k.ty,V]
 have l0:yQ [.d (.list (ns.map .int))] []=Z (.c 0,[cI ns]):=by
  show Z (CD.c 0,[]++[Cell.lst ((ns.map PyData.int).map .d)])=_;rw[I0];rfl
 have h0:Li [cI ns] 0 ns:=rfl;have t:=aFX h0
 have O:aW (aP yQ xT) (hName 2) [Z (.d (.list (ns.map .int))),Z<|I 480,Y,Y,Y,Y,Y,Y] []=Z (.nx [Z (.d (.list (ns.map .int))),Z<|I 480,Z (.c 0),Y,Y,Y,Y,Y],[cI ns]):=by
  simp![l0]
 cases E:ns.isEmpty with
 |true=>
  rw[E]at t;obtain⟨c,M',F,G⟩:=st 1 ([cI ns]++[cI [4]]) [4] rfl 52;refine⟨c,M',dF rfl ?_,G⟩
  have H:sIf aKJ aIZ cS [Z (.d (.list (ns.map .int))),Z<|I 480,Z (.c 0),Y,Y,Y,Y,Y] [cI ns]=Z (.nx [Z (.d (.list (ns.map .int))),Z<|I 480,Z (.c 1),Y,Y,Y,Y,Y],[cI ns]++[cI [4]]):=by
   simp![A,s1,t];rfl
  show aY _ _ [Z (.d (.list (ns.map .int))),Z<|I 480,Y,Y,Y,Y,Y,Y] []=_;rw[aK O,aK H];exact F
 |false=>
  rw[E]at t;obtain⟨c,M',F,G⟩:=st 0 [cI ns] ns rfl (by cases ns with|nil=>cases E|cons _ _=>simp);refine⟨c,M',dF rfl ?_,G⟩
  have H:sIf aKJ aIZ cS [Z (.d (.list (ns.map .int))),Z<|I 480,Z (.c 0),Y,Y,Y,Y,Y] [cI ns]=Z (.nx [Z (.d (.list (ns.map .int))),Z<|I 480,Z (.c 0),Y,Y,Y,Y,Y],[cI ns]):=by
   simp![A,s1,t]
  show aY _ _ [Z (.d (.list (ns.map .int))),Z<|I 480,Y,Y,Y,Y,Y,Y] []=_;rw[aK O,aK H];exact F
structure Ex(c:Nat)(M M':Sto):Prop where
 len:M.length<=M'.length
 at_:∀i,i<M.length->i≠c->M'[i]?=M[i]?
def Ex.refl(c:Nat)(M:Sto):Ex c M M:=⟨A8 _,fun _ _ _=>rfl⟩
def Ex.trans{M1 M2:Sto}(a:Ex c M M1)(b:Ex c M1 M2):Ex c M M2:=⟨E6 a.len b.len,fun i h n=>(b.at_ i (C5 h a.len) n).trans (a.at_ i h n)⟩
def Oth.ex(o:Oth c M M'):Ex c M M':=⟨Nat.le_of_eq o.len.symm,fun i _ n=>o.at_ i n⟩
def Ex.app(c:Nat)(M L:Sto):Ex c M (M++L):=⟨by rw[C1];omega,fun i h _=>C8 h⟩
def Ex.to{i:Nat}{x:Cell}(e:Ex c M M')(h:M[i]?=Z x)(n:i≠c):M'[i]?=Z x:=by rw[e.at_ i (B3.mp h).1 n];exact h
def Ex.put{j:Nat}{x:Cell}(e:Ex c M M')(h:M.length<=j):Ex c M (M'.set j x):=⟨by rw[U2];exact e.len,fun i hi n=>by rw[E1 50];exact e.at_ i hi n⟩
def Dk.le(h:Dk M c m)(l:n<=m):Dk M c n:=let⟨xs,a,b,r⟩:=h;⟨xs,a,E6 l b,r⟩
def Dk.lt(h:Dk M c m):c<M.length:=let⟨_,a,_⟩:=h;a.lt
def Dk.put{j:Nat}{x:Cell}(h:Dk M c m)(n:j≠c):Dk (M.set j x) c m:=let⟨xs,a,b⟩:=h;⟨xs,by unfold Li;rw[E1 n];exact a,b⟩
def Dk.popE(h:Dk M c (m+1)):∃z M',CK (.c c) [] M=Z (I z,M')/\Dk M' c m/\Ex c M M'/\Rn z:=let⟨z,M',a,b,d,r⟩:=h.pop;⟨z,M',a,b,d.ex,r⟩
def pop_at(k:γ[v]?=Z (Z (.c c)))(ty:tyB "list" M (.c c)=true)(h:CK (.c c) [] M=Z (I z,M')):cZ "list" CK (aD v) aO γ M=Z (I z,M'):=by
 simp only[cZ,aD,k,aO,A1,ty,A1i,h]
theorem oJ{g:GF}{b:SF}{n:Nat}{Inv:Nat->Ga->Sto->Prop}(step:∀k,k<n->∀γ M,Inv k γ M->∃γ1 γ' M',g (I (k:Nat)) γ M=Z (γ1,M)/\b γ1 M=Z (.nx γ',M')/\Inv (k+1) γ' M'):
 ∀(m k:Nat)(γ:Ga)(M:Sto),k+m=n->Inv k γ M->∃γ' M',jW g b (jV (k:Nat) m) γ M=Z (.nx γ',M')/\Inv n γ' M'
 |0=>fun k γ M h i=>⟨γ,M,rfl,by rw[<- h];exact i⟩
 |m+1=>fun k γ M h i=>by
  obtain⟨γ1,o,M1,t,A,i1⟩:=step k 50 γ M i;obtain⟨γ',M',B,i2⟩:=oJ step m (k+1) o M1 50 i1;refine⟨γ',M',?_,i2⟩;rw[OL,iZ t A,show((k:Nat):Int)+1=((k+1:Nat):Int)by omega];exact B
theorem JK{g:GF}{c:TF}{e:EF}{X E:CD->Prop}{Inv:Nat->Ga->Sto->Prop}
 (step:∀m x γ M,X x->Inv (m+1) γ M->∃γ1,g x γ M=Z (γ1,M)/\∃b M2,c γ1 M=Z (b,M2)/\(b=false->Inv m γ1 M2)/\(b=true->∃y M3,e γ1 M2=Z (y,M3)/\E y/\Inv m γ1 M3)):
 ∀(xs:T8)(γ:Ga)(M:Sto),(∀x∈xs,X x)->Inv xs.length γ M->∃ys γ' M',lcF g c e xs γ M=Z (ys,M')/\(∀y∈ys,E y)/\ys.length<=xs.length/\Inv 0 γ' M'
 |[]=>fun γ M _ i=>⟨[],γ,M,rfl,fun y h=>by simp at h,A8 _,i⟩
 |x::xs=>fun γ M o i=>by
  obtain⟨γ1,D,b,M2,F,G,ht⟩:=step _ x γ M (o x B9) i;cases b with
  |false=>
   obtain⟨ys,γ',M',t,A,B,C⟩:=JK step xs γ1 M2 (fun y k=>o y<|A9 _ k)<|G rfl;refine⟨ys,γ',M',?_,A,Nat.le_succ_of_le B,C⟩;simp only[lcF,D,A1,F,Bool.false_eq_true,if_false,t]
  |true=>
   obtain⟨y,M3,H,k,I⟩:=ht rfl;obtain⟨ys,γ',M',t,A,B,C⟩:=JK step xs γ1 M3 (fun y k=>o y<|A9 _ k) I;refine⟨y::ys,γ',M',?_,fun z hz=>?_,Nat.succ_le_succ B,C⟩
   .simp only[lcF,D,A1,F,A1i,H,t]
   .rcases B8.mp hz with rfl|hz
    .exact k
    .exact A z hz
def Rg(lo hi:Int)(x:CD):Prop:=∃k:Int,x=I k/\lo<=k/\k<hi
def nU{lo:Int}{n:Nat}:∀x∈jV lo n,Rg lo (lo+n) x:=fun x o=>by
 obtain⟨k,t,rfl⟩:=C7.mp o;have:=F5.mp t;exact⟨lo+(k:Nat),rfl,50,50⟩
def dQ(lo:Int)(n:Nat):(jV lo n).length=n:=by unfold jV;rw[A4,List.length_range]
def aCG(h:fa γ M=Z ([I J],M))(sm:eM J=true):fH fa γ M=Z (jV 0 J.toNat,M):=by
 simp only[fH,h,A1,sm,A1i]
def aGk(h:fa γ M=Z ([I i,I j],M))(s1:eM i=true)(s2:eM j=true):yX fa γ M=Z (jV i (j-i).toNat,M):=by
 simp only[yX,h,A1];rw[A7 ⟨s1,s2⟩]
def PX(k:-1000<=i)(o:i<=1000):eM i=true:=by
 unfold eM;rw[B4];exact⟨C4 50,C4 50⟩
def aKp{f:AF}{g:GF}{c:TF}{M1 M2:Sto}{ys:T8}(it:f γ M=Z (xs,M1))(k:xs.length<=1000)(l:lcF g c e xs (tI cap γ) M1=Z (ys,M2))(o:ys.length<=1000):JC cap f g c e γ M=Z (.c M2.length,M2++[.lst ys]):=by
 unfold JC mH yU;rw[it,A1,A7<|sz k,l,A1,A7<|sz o]
def mE{f:AF}{g:GF}{c:TF}{M1 M2:Sto}(it:f γ M=Z (xs,M1))(k:xs.length<=1000)(l:lcF g c e xs (tI cap γ) M1=Z (ds.map .d,M2))(o:ds.length<=1000):fLc cap f g c e γ M=Z (.d (.list ds),M2):=aAM it (sz k) l<|sz o
theorem KB{E:Ud->Prop}:∀{ys:T8},(∀y∈ys,∃d,y=.d d/\E d)->∃ds:T5,ys=ds.map .d/\∀d∈ds,E d
 |[]=>fun _=>⟨[],rfl,fun d h=>by simp at h⟩
 |y::ys=>fun h=>by
  obtain⟨d,rfl,hd⟩:=h y B9;obtain⟨ds,rfl,hs⟩:=KB fun z hz=>h z<|A9 _ hz;refine⟨d::ds,rfl,fun z hz=>?_⟩;rcases B8.mp hz with rfl|hz
  .exact hd
  .exact hs z hz
def gQ{x:CD}(h:f γ M=Z (x,M')):cQ f γ M=Z (.rt x,M'):=by
 unfold cQ;rw[h,A1]
def XE{d:Ud}(h:f γ M=Z (.d d,M'))(e:bC d=Z ds):cA f γ M=Z (ds.map .d,M'):=by
 simp only[cA,h,A1,e]
theorem JE{k:Type}{i:Nat}{c:TF}{e:EF}{γ0:Ga}{M:Sto}(f:k->CD)(p:k->Bool)(h:k->Ud):∀(xs:Ua k)(γ:Ga),(∀y,γ.set i y=γ0.set i y)->(∀x∈xs,c (γ0.set i<|Z<|f x) M=Z (p x,M)/\(p x=true->e (γ0.set i<|Z<|f x) M=Z (.d (h x),M)))->lcF (hName i) c e (xs.map f) γ M=Z (((xs.filter p).map h).map .d,M)
 |[]=>fun γ _ _=>rfl
 |x::xs=>fun γ o t=>by
  obtain⟨A,B⟩:=t x B9;have ih:=JE f p h xs (γ0.set i<|Z<|f x) (fun y=>List.set_set ..) (fun y C=>t y<|A9 _ C);rw[D4];unfold lcF;rw[show hName i (f x) γ M=Z (γ0.set i<|Z<|f x,M)by unfold hName;rw[o],A1];rw[A,A1];dsimp only;cases q:p x with
  |false=>rw[B7 52,ih,List.filter_cons_of_neg 54]
  |true=>
   rw[A7 rfl,B q,A1];rw[ih,List.filter_cons_of_pos q];rfl
def LI{k:Type}{i:Nat}{γ0:Ga}(f:k->CD)(h:k->Ud)(xs:Ua k)(o:∀x∈xs,e (γ0.set i<|Z<|f x) M=Z (.d (h x),M)):lcF (hName i) dP e (xs.map f) γ0 M=Z ((xs.map h).map .d,M):=by
 have:=JE (c:=dP) f (fun _=>true) h xs γ0 51 fun x t=>⟨rfl,fun _=>o x t⟩
 rwa [List.filter_eq_self.mpr fun _ _=>rfl]at this
def aJM{i:Nat}{d:Ud}{ds:T5}{h:Ud->Ud}(k:f γ M=Z (.d d,M))(hd:bC d=Z ds)(t:ds.length<=900)(o:∀x∈ds,e ((tI cap γ).set i (Z (.d x))) M=Z (.d (h x),M)):
 fLc cap (cA f) (hName i) dP e γ M=Z (.d (.list (ds.map h)),M):=
 mE (XE k hd) 54 (LI CD.d h ds o) 54
def aIn:gtI (I i) (I j) M=Z (B<|decide (j<i),M):=rfl
def MB{d:Ud}{e:Ud}(hd:bC d=Z ds)(h:atI ds i=Z e):ixF (.d d) (I i) M=Z (.d e,M):=by
 show(bC d).bind _=_;rw[hd,A1,h];rfl
def aNY{k:Type}(x:k)(r:Ua k):atI (x::r) 0=Z x:=wU rfl
def aAY{i:Nat}{x:CD}(h:γ[i]?=Z (Z x)):aD i γ M=Z (x,M):=by simp only[aD,h]
def oF{h:FM}{M1 M2:Sto}{x y:CD}(k:f γ M=Z (x,M1))(ty:tyB T M1 x=true)(ha:fa γ M1=Z (xs,M2))(e:h x xs M2=Z (y,M3)):cZ T h f fa γ M=Z (y,M3):=by
 unfold cZ;rw[k,A1];rw[A7 ty,ha,A1];exact e
def oK{M1:Sto}{x:CD}(h:f γ M=Z (x,M1)):eA f γ M=Z (.nx γ,M1):=by
 unfold eA;rw[h,A1]
def qF{M1:Sto}(h:f γ M=Z (I z,M1))(k:0<b):fOp dC f (fC (.int b)) γ M=Z (I (z % b),M1):=by
 refine bG h rfl ?_;show(ifS (lC z b) (.int (z % b))).bind _=_;rw[eJ k];rfl
def aCk(h:M[c]?=Z (.lst xs)):tyB "list" M (.c c)=true:=by simp only[tyB,h];decide
def ET{y:CD}(h:M[c]?=Z (.lst xs))(k:xs.length<900):cU (.c c) [y] M=Z (.d .none,M.set c (.lst (xs++[y]))):=by
 have l:xs.length<sizeLine:=by rw[J9];omega
 simp only[cU,h,A7 l]
def xZ{f:AF}{M1:Sto}(h:f γ M=Z (xs,M1))(k:xs.length<=900):mH f γ M=Z (.c M1.length,M1++[.lst xs]):=by
 unfold mH;rw[h,A1];exact A7<|sz (show xs.length<=1000 by omega)
def yG{M1:Sto}(h:f γ M=Z (I z,M1))(k:0<b)(o:b<2 ^ 200):fOp iV f (fC (.int b)) γ M=Z (I (z / b),M1):=by
 refine bG h rfl ?_;show(ifS (yV z b) (.int (z / b))).bind _=_;rw[zZ k (wsm 50 o)];rfl
def pP{l u:OF}{x r:CD}{p q:To}(k:f γ M=Z (x,M))(o:l γ M=Z (p,M))(t:u γ M=Z (q,M))(h:slF x p q M=Z (r,M)):fSl f l u γ M=Z (r,M):=by
 unfold fSl;rw[k,A1];rw[o,A1];rw[t,A1];exact h
def UA:ltI (I i) (I j) M=Z (B<|decide (i<j),M):=rfl
def iA{M1 M2:Sto}(h:f γ M=Z (I z,M1))(k:g γ M1=Z (I b,M2))(o:0<b):fOp dC f g γ M=Z (I (z % b),M2):=by
 refine bG h k ?_;have:=eJ (x:=z) o;show pI (fun i j=>ifS (lC i j)<|PyData.int (i % j)) (I z) (I b) M2=_;simp only[pI,ifS,this,A1i,A1]
def aEb{M1:Sto}(h:f γ M=Z (.c c,M1))(k:M1[c]?=Z (.lst (ds.map .d))):sW f γ M=Z (.d (.list ds),M1.set c .dead):=by
 unfold sW;rw[h,A1];dsimp only;rw[k];dsimp only;rw[kI,A1]
theorem RX{k:Type}{g:GF}{e:EF}{M:Sto}{Inv:Ga->Prop}(f:k->CD)(h:k->Ud):∀(xs:Ua k),(∀x∈xs,∀γ,Inv γ->∃γ1,g (f x) γ M=Z (γ1,M)/\e γ1 M=Z (.d (h x),M)/\Inv γ1)->∀γ,Inv γ->lcF g dP e (xs.map f) γ M=Z ((xs.map h).map .d,M)
 |[]=>fun _ _ _=>rfl
 |x::xs=>fun st γ i=>by
  obtain⟨γ1,o,t,A⟩:=st x B9 γ i;have ih:=RX f h xs (fun y B=>st y<|A9 _ B) γ1 A;rw[D4];unfold lcF;rw[o,A1];dsimp only[dP];rw[A1,A7 rfl,t,A1];rw[ih];rfl
def rn1(h:fa γ M=Z ([I J],M))(k:-1000<=J)(o:J<=1000):fH fa γ M=Z (jV 0 J.toNat,M):=aCG h<|PX k o
def rn2(h:fa γ M=Z ([I i,I j],M))(k:-1000<=i/\i<=1000)(o:-1000<=j/\j<=1000):yX fa γ M=Z (jV i (j-i).toNat,M):=aGk h (PX k.1 k.2)<|PX o.1 o.2
def CY{M1 M2:Sto}{y:Ud}(h:f γ M=Z (.d x,M1))(k:g γ M1=Z (.d y,M2)):bI (aC f<|aC g aO) γ M=Z (.d (.tuple [x,y]),M2):=by
 unfold bI;rw[aG h (aG k aR),A1];show(if 2<=sizeLine then Z (CD.d (.tuple [x,y]),M2)else Y)=_;rw[A7 (sz 52)]
abbrev pD(p:Int×Int):Ud:=.tuple [.int p.1,.int p.2]
abbrev pT(p:Int×Int):CD:=.d (pD p)
def iO{x:Int}(h:f γ M=Z (I x,M))(k:g γ M=Z (I y,M)):bI (aC f<|aC g aO) γ M=Z (pT (x,y),M):=CY h k
def aBk:KR (I i) (I j) M=Z (I (i-j),M):=rfl
def JW(h:f γ M=Z (.d x,M)):dW (aC f aO) γ M=Z (.d (.list [x]),M):=by
 unfold dW;rw[aG h aR,A1];show(if 1<=sizeLine then Z (CD.d (.list [x]),M)else Y)=_;rw[A7 (sz 52)]
def aIe{a b:Bool}:eqX false (B a) (B b) M=Z (B (a==b),M):=by cases a<;>cases b<;>rfl
def PrE(n:Nat)(x:CD):Prop:=∃p:Int×Int,x=pT p/\(0<=p.1/\p.1<n)/\(0<=p.2/\p.2<n)
def pre_of(h:0<=i/\i<n)(k:0<=j/\j<n):PrE n (pT (i,j)):=⟨(i,j),rfl,h,k⟩
def em(h:0<n):0<=z % (n:Int)/\z % (n:Int)<n:=⟨S5 _ 50,L7 _ 50⟩
def AM{f:AF}{g:GF}{c:TF}{e:EF}{xs:T8}{X E:CD->Prop}{Inv:Nat->Ga->Sto->Prop}(it:f γ M=Z (xs,M))(B:xs.length<=100)(k:∀x∈xs,X x)
 (step:∀m x γ M,X x->Inv (m+1) γ M->∃γ1,g x γ M=Z (γ1,M)/\∃b M2,c γ1 M=Z (b,M2)/\(b=false->Inv m γ1 M2)/\(b=true->∃y M3,e γ1 M2=Z (y,M3)/\E y/\Inv m γ1 M3)) (o:Inv xs.length (tI cap γ) M):
 ∃ys M',JC cap f g c e γ M=Z (.c M'.length,M'++[.lst ys])/\(∀y∈ys,E y)/\ys.length<=xs.length/\∃γ',Inv 0 γ' M':=by
 obtain⟨ys,γ',M',l,t,A,i⟩:=JK step xs _ _ k o;exact⟨ys,M',aKp it 50 l 50,t,A,γ',i⟩
def KD{f:AF}{g:GF}{c:TF}{e:EF}{xs:T8}{X E:CD->Prop}{Inv:Nat->Ga->Sto->Prop}(it:f γ M=Z (xs,M))(C:xs.length<=100)(t:∀x∈xs,X x)(A:∀y,E y->∃d,y=.d d)
 (step:∀m x γ M,X x->Inv (m+1) γ M->∃γ1,g x γ M=Z (γ1,M)/\∃b M2,c γ1 M=Z (b,M2)/\(b=false->Inv m γ1 M2)/\(b=true->∃y M3,e γ1 M2=Z (y,M3)/\E y/\Inv m γ1 M3)) (B:Inv xs.length (tI cap γ) M):
 ∃ds M',fLc cap f g c e γ M=Z (.d (.list ds),M')/\(∀d∈ds,E (.d d))/\ds.length<=xs.length/\∃γ',Inv 0 γ' M':=by
 obtain⟨ys,γ',M',l,o,k,i⟩:=JK step xs _ _ t B
 obtain⟨ds,rfl,hd⟩:=KB fun y k=>by
  obtain⟨d,rfl⟩:=A y<|o y k;exact⟨d,rfl,o _ k⟩
 rw[A4]at k;exact⟨ds,M',mE it 50 l 50,hd,k,γ',i⟩
def XY(y:CD)(h:PrE n y):∃d,y=.d d:=let⟨p,e,_⟩:=h;⟨pD p,e⟩
structure PC(n c f q:Nat)(M0 M:Sto):Prop where
 at_:∃xs,M[f]?=Z (.lst xs)/\(∀x∈xs,PrE n x)/\xs.length<=q
 new:M0.length<=f
 ex:Ex c M0 M
def PC.le{f r:Nat}(h:PC n c f q M0 M)(l:q<=r):PC n c f r M0 M:=⟨let⟨xs,a,b,d⟩:=h.at_;⟨xs,a,b,E6 d l⟩,h.new,h.ex⟩
def yK{ys:T8}(ex:Ex c M0 M)(h:∀y∈ys,PrE n y)(l:ys.length<=q):PC n c M.length q M0 (M++[.lst ys]):=⟨⟨ys,gG,h,l⟩,ex.len,ex.trans<|Ex.app _ _ _⟩
def XH{f:Nat}(h:M[f]?=Z (.lst xs))(k:xs.length+ds.length<=900):FQ (.c f) (.d (.list ds)) M=Z (.c M.length,M++[.lst (xs++ds.map .d)]):=by
 show(match M[f]? with|some (.lst xs)=>Z xs|_=>Y).bind _=_;rw[h];rw[A1];show(Z<|ds.map CD.d).bind _=_;rw[A1,A4,A7<|sz 50]
def DM{f r:Nat}{ds:T5}(h:PC n c f q M0 M)(hd:∀d∈ds,PrE n (.d d))(l:ds.length<=r)(o:q+r<=500):∃M',FQ (.c f) (.d (.list ds)) M=Z (.c M.length,M')/\PC n c M.length (q+r) M0 M'/\∃L,M'=M++L:=by
 obtain⟨xs,a,b,d⟩:=h.at_;refine⟨_,XH a 50,yK h.ex (fun y hy=>?_) 54,_,rfl⟩;rcases C9.mp hy with hy|hy
 .exact b y hy
 .obtain⟨e,k,rfl⟩:=C7.mp hy;exact hd e k
abbrev GP(c n:Nat)(k:Int)(g3 g4 g5 g6:Th):Ga:=[Z (.c c),Z<|I n,Z<|I k,g3,g4,g5,g6]
def knA(t:2<=n)(A:n<=8)(ex:Ex c M0 M):∃M',kM (GP c n k g3 g4 g5 g6) M=Z (.c M.length,M')/\PC n c M.length 8 M0 M'/\∃L,M'=M++L:=by
 have it:=rn1 (fa:=aC (aD 1) aO) (γ:=GP c n k g3 g4 g5 g6) (M:=M) (J:=(n:Int)) rfl 50 50;rw[A0l]at it
 obtain⟨ys,M',e,h,l,γ',_,rfl⟩:=AM (X:=Rg 0 (0+n)) (E:=PrE n) (Inv:=fun _ γ M1=>(∃s,γ=[Z (I n),s])/\M1=M) (cap:=[Z 1,Y]) (g:=hName 1) (c:=dP) (e:=bI aNr) it (by rw[dQ];omega) nU (by
  rintro m x γ M1 ⟨j,rfl,o,B⟩ ⟨⟨s,rfl⟩,rfl⟩;exact⟨_,rfl,true,_,rfl,fun h=>(nomatch h),fun _=>⟨_,_,iO rfl (iA (bG rfl rfl wD) rfl 50),pre_of ⟨o,50⟩ (em 50),⟨_,rfl⟩,rfl⟩⟩) ⟨⟨Y,rfl⟩,rfl⟩
 rw[dQ]at l;exact⟨_,e,yK ex h 50,_,rfl⟩
def knB(o:2<=n)(t:n<=8)(ex:Ex c M0 M):∃M',rB (GP c n k g3 g4 g5 g6) M=Z (.c M.length,M')/\PC n c M.length 8 M0 M'/\∃L,M'=M++L:=by
 have it:=rn2 (fa:=aC (fC (.int 1)) xq1) (γ:=GP c n k g3 g4 g5 g6) (M:=M) rfl 50 50
 obtain⟨ys,M',e,h,l,γ',_,rfl⟩:=AM (E:=PrE n) (Inv:=fun _ γ M1=>(∃s,γ=[s])/\M1=M) (cap:=[Y]) (g:=hName 0) (c:=dP) (e:=bI<|aC (fC (.int 0)) xT) it (by rw[dQ];omega) nU (by
  rintro m x γ M1 ⟨j,rfl,A,B⟩ ⟨⟨s,rfl⟩,rfl⟩;exact⟨_,rfl,true,_,rfl,fun h=>(nomatch h),fun _=>⟨_,_,iO rfl rfl,pre_of 50 50,⟨_,rfl⟩,rfl⟩⟩) ⟨⟨Y,rfl⟩,rfl⟩
 rw[dQ]at l;exact⟨_,e,yK ex h 50,_,rfl⟩
def knC(F:2<=n)(G:n<=8)(ex:Ex c M0 M)(dk:Dk M c (m+8)):∃e M',qY (GP c n k g3 g4 g5 g6) M=Z (.c e,M')/\PC n c e 8 M0 M'/\Dk M' c m:=by
 have it:=rn2 (fa:=aC (fC (.int 1)) xq1) (γ:=GP c n k g3 g4 g5 g6) (M:=M) rfl 50 50
 obtain⟨ys,M',e,h,l,γ',_,t,A⟩:=AM (E:=PrE n) (Inv:=fun j γ M1=>(∃s,γ=[Z (.c c),s])/\Dk M1 c (m+j)/\Ex c M M1) (cap:=[Z 0,Y]) (g:=hName 1) (c:=dP) (e:=bI<|aC aEH xq1) it (by rw[dQ];omega) nU (by
  rintro j x γ M1 ⟨i,rfl,H,i1⟩ ⟨⟨s,rfl⟩,o,B⟩;obtain⟨z,M2,p,C,D,_⟩:=Dk.popE o;refine⟨_,rfl,true,M1,rfl,fun h=>(nomatch h),fun _=>⟨pT (z % i,i),M2,CY (iA (pop_at rfl o.ty p) rfl 50) rfl,pre_of ?_ 50,⟨_,rfl⟩,C,B.trans D⟩⟩;have:=S5 z (show i≠0 by omega);have:=L7 z (show 0<i by omega);omega) ⟨⟨Y,rfl⟩,dk.le (by rw[dQ];omega),Ex.refl _ _⟩
 rw[dQ]at l;exact⟨_,_,e,yK (ex.trans A) h 50,t.app⟩
def tri:Nat->Nat
 |0=>0
 |k+1=>tri k+k
def SX:∀{a b:Nat},a<=b->tri a<=tri b:=fun{a b} h=>by
 induction h with
 |refl=>exact A8 _
 |step _ ih=>exact E6 ih (by show tri _<=tri _+_;omega)
def NX(h:n<=8):tri n<=28:=E6 (SX h) 52
def knD{j:Nat}(o:n<=8)(t:j<n):∃ds,sF (GP c n k g3 g4 (Z<|I md)<|Z<|I j) M=Z (.d (.list ds),M)/\(∀d∈ds,PrE n (.d d))/\ds.length<=j:=by
 have it:=rn1 (fa:=aC (aD 6) aO) (γ:=GP c n k g3 g4 (Z<|I md)<|Z<|I j) (M:=M) rfl 50 50
 obtain⟨ds,M',e,h,l,γ',_,rfl⟩:=KD (E:=PrE n) (Inv:=fun _ γ M1=>(∃s,γ=[Z (I j),Z<|I md,s])/\M1=M) (cap:=[Z 6,Z 5,Y]) (g:=hName 2) (c:=gB aMM) (e:=bI aHK) it (by rw[dQ];omega) nU XY (by
  rintro m x γ M1 ⟨i,rfl,A,B⟩ ⟨⟨s,rfl⟩,rfl⟩;exact⟨_,rfl,_,_,cM (bG (bG rfl rfl UA) (bG rfl rfl UA) aIe),fun _=>⟨⟨_,rfl⟩,rfl⟩,fun _=>⟨_,_,iO rfl rfl,pre_of 50 50,⟨_,rfl⟩,rfl⟩⟩) ⟨⟨Y,rfl⟩,rfl⟩
 rw[dQ]at l;exact⟨ds,e,h,l⟩
def knE{j:Nat}(F:n<=8)(G:j<n)(dk:Dk M c (m+j)):∃ds M',qU (GP c n k g3 g4 g5<|Z<|I j) M=Z (.d (.list ds),M')/\(∀d∈ds,PrE n (.d d))/\ds.length<=j/\Dk M' c m/\Ex c M M':=by
 have it:=rn1 (fa:=aC (aD 6) aO) (γ:=GP c n k g3 g4 g5<|Z<|I j) (M:=M) rfl 50 50
 obtain⟨ds,M',e,h,l,γ',_,C,D⟩:=KD (E:=PrE n) (Inv:=fun q γ M1=>(∃s,γ=[Z (I j),Z (.c c),s])/\Dk M1 c (m+q)/\Ex c M M1) (cap:=[Z 6,Z 0,Y]) (g:=hName 2) (c:=gB<|fOp gtI (fOp dC aLR<|fC (.int 3))<|fC (.int 0)) (e:=bI aHK) it (by rw[dQ];omega) nU XY (by
  rintro q x γ M1 ⟨i,rfl,H,K⟩ ⟨⟨s,rfl⟩,o,t⟩;obtain⟨z,M2,p,A,B,_⟩:=Dk.popE o;exact⟨_,rfl,_,M2,cM (bG (qF (pop_at rfl o.ty p) 52) rfl aIn),fun _=>⟨⟨_,rfl⟩,A,t.trans B⟩,fun _=>⟨_,_,iO rfl rfl,pre_of 50 50,⟨_,rfl⟩,A,t.trans B⟩⟩) ⟨⟨Y,rfl⟩,by rw[dQ];exact dk,Ex.refl _ _⟩
 rw[dQ]at l;exact⟨ds,M',e,h,l,C,D⟩
def PC.to{f:Nat}(h:PC n c f q M0 M)(ex:Ex c M M')(ne:f≠c):PC n c f q M0 M':=⟨let⟨xs,a,b,d⟩:=h.at_;⟨xs,ex.to a ne,b,d⟩,h.new,h.ex.trans ex⟩
def aNZ(o:n<=8){f0:Nat}(h:PC n c f0 0 M0 M)(dk:Dk M c m):∃f t M',jW (hName 6) lB (jV 0 n) (GP c n k (Z (.c f0)) g4 (Z<|I md) g6) M=Z (.nx (GP c n k (Z (.c f)) g4 (Z<|I md) t),M')/\PC n c f 28 M0 M'/\Dk M' c m:=by
 obtain⟨γ',M',e,⟨f,g,rfl,A⟩,B⟩:=oJ (g:=hName 6) (b:=lB) (Inv:=fun q γ M=>(∃f g,γ=GP c n k (Z (.c f)) g4 (Z<|I md) g/\PC n c f (tri q) M0 M)/\Dk M c m) (by
  rintro q E γ M1 ⟨⟨f,g,rfl,A⟩,C⟩;obtain⟨ds,F,G,H⟩:=knD o E;have P:=NX o;have t1:=SX (show q+1<=n by omega);have t2:tri (q+1)=tri q+q:=rfl;obtain⟨M2,K,D,L,O⟩:=DM A G H 50;refine⟨_,_,M2,rfl,bH (bG rfl F K),⟨_,_,rfl,D⟩,?_⟩;rw[O];exact C.app) n 0 (GP c n k (Z (.c f0)) g4 (Z (I md)) g6) M 50 ⟨⟨_,_,rfl,h⟩,dk⟩
 exact⟨f,g,M',e,A.le<|NX o,B⟩
def aOX(o:n<=8){f0:Nat}(S:c<M0.length)(h:PC n c f0 0 M0 M)(dk:Dk M c (m+28)):∃f A M',jW (hName 6) lH (jV 0 n) (GP c n k (Z (.c f0)) g4 g5 g6) M=Z (.nx (GP c n k (Z (.c f)) g4 g5 A),M')/\PC n c f 28 M0 M'/\Dk M' c m:=by
 obtain⟨γ',M',e,⟨f,g,rfl,t⟩,r,G,B⟩:=oJ (g:=hName 6) (b:=lH) (n:=n) (Inv:=fun q γ M=>(∃f g,γ=GP c n k (Z (.c f)) g4 g5 g/\PC n c f (tri q) M0 M)/\∃r,r+tri q=tri n/\Dk M c (m+r)) (by
  rintro q H γ M1 ⟨⟨f,g,rfl,t⟩,r,G,C⟩;have T:=NX o;have t1:=SX (show q+1<=n by omega);have t2:tri (q+1)=tri q+q:=rfl;obtain⟨ds,M2,I,K,O,D,E⟩:=knE o H (by rw[show m+(r-q)+q=m+r by omega];exact C);have P:f≠c:=by have:=t.new;omega
  obtain⟨M3,Q,F,L,R⟩:=DM (t.to E P) K O 50;refine⟨_,_,M3,rfl,bH (bG rfl I Q),⟨_,_,rfl,F⟩,r-q,50,?_⟩;rw[R];exact D.app) n 0 (GP c n k (Z (.c f0)) g4 g5 g6) M 50 ⟨⟨_,_,rfl,h⟩,tri n,by show tri n+0=tri n;omega,dk.le (by have:=NX o;omega)⟩
 exact⟨f,g,M',e,t.le<|NX o,B.le 50⟩
def knF(t:2<=n)(A:n<=8)(ex:Ex c M0 M):∃M',kK (GP c n k g3 g4 (Z<|I ((n:Int) / 2)) g6) M=Z (.c M.length,M')/\PC n c M.length 8 M0 M'/\∃L,M'=M++L:=by
 have it:=rn1 (fa:=aC (fOp dU (aD 5)<|fC (.int 1)) aO) (γ:=GP c n k g3 g4 (Z<|I ((n:Int) / 2)) g6) (M:=M) (aG (bG rfl rfl wD) aR) 50 50
 obtain⟨ys,M',e,h,l,γ',_,rfl⟩:=AM (E:=PrE n) (Inv:=fun _ γ M1=>(∃s,γ=[Z (I ((n:Int) / 2)),s])/\M1=M) (cap:=[Z 5,Y]) (g:=hName 1) (c:=dP) (e:=bI aOx) it (by rw[dQ];omega) nU (by
  rintro m x γ M1 ⟨j,rfl,o,B⟩ ⟨⟨s,rfl⟩,rfl⟩;refine⟨_,rfl,true,_,rfl,fun h=>(nomatch h),fun _=>⟨_,_,iO rfl (iA (bG rfl rfl wD) (bG rfl rfl wD) 50),pre_of ⟨o,50⟩ ?_,⟨_,rfl⟩,rfl⟩⟩;have:=S5 (j+1) (show(n:Int) / 2+1≠0 by omega);have:=L7 (j+1) (show 0<(n:Int) / 2+1 by omega);omega) ⟨⟨Y,rfl⟩,rfl⟩
 rw[dQ]at l;exact⟨_,e,yK ex h 50,_,rfl⟩
def knG(o:2<=n)(t:n<=8):∃ds,rN (GP c n k g3 g4 (Z<|I ((n:Int) / 2)) g6) M=Z (.d (.list ds),M)/\(∀d∈ds,PrE n (.d d))/\ds.length<=8:=by
 have it:=rn2 (fa:=aC (aD 5)<|aC aFI aO) (γ:=GP c n k g3 g4 (Z<|I ((n:Int) / 2)) g6) (M:=M) rfl 50 50
 obtain⟨ds,M',e,h,l,γ',_,rfl⟩:=KD (E:=PrE n) (Inv:=fun _ γ M1=>(∃s,γ=[s])/\M1=M) (cap:=[Y]) (g:=hName 0) (c:=dP) (e:=bI aMX) it (by rw[dQ];omega) nU XY (by
  rintro m x γ M1 ⟨j,rfl,A,B⟩ ⟨⟨s,rfl⟩,rfl⟩;exact⟨_,rfl,true,_,rfl,fun h=>(nomatch h),fun _=>⟨_,_,iO rfl (bG rfl rfl wD),pre_of 50 50,⟨_,rfl⟩,rfl⟩⟩) ⟨⟨Y,rfl⟩,rfl⟩
 rw[dQ]at l;exact⟨ds,e,h,50⟩
def aKr{i:Int}(h:0<=i/\i<n)(k:0<=j/\j<n):∀d∈[pD (i,j)],PrE n (.d d):=fun d hd=>by rw[A6.mp hd];exact pre_of h k
abbrev wL(a:Nat)(b:Int):Ga:=[Z (.c a),Z<|I b,Y,Y,Y,Y,Y]
abbrev vU(a:Nat)(b:Int)(c:Int):Ga:=[Z (.c a),Z<|I b,Z<|I c,Y,Y,Y,Y]
def aHg(P:2<=n)(G:n<=8)(dk:Dk M c (m+40)):∃e M',fF [.c c,I n] M=Z (.c e,M')/\PC n c e 30 M M'/\Dk M' c m:=by
 obtain⟨z,M1,p1,R,T,_⟩:=Dk.popE (m:=m+39) dk;have s1:aW aAU (hName 2) (wL c n) M=Z (.nx (vU c n (z % 9)),M1):=bH (i:=2)<|qF (pop_at rfl dk.ty p1) 52;generalize z % 9=k at s1;have s2:aW (mH aO) (hName 3) (vU c n k) M1=Z (.nx (GP c n k (Z (.c M1.length)) Y Y Y),M1++[.lst []]):=bH (i:=3)<|xZ aR 52;have hc:=dk.lt;have D:PC n c M1.length 0 M (M1++[.lst []]):=yK T (fun y hy=>absurd hy 53)<|A8 _;have B:Dk (M1++[.lst []]) c (m+39):=R.app;generalize M1++[Cell.lst []]=M2 at s2 D B;generalize M1.length=f0 at s2 D
 have go:∀{f:Nat}{g4 g5 g6:Th}{M':Sto}{S:SF},S (GP c n k (Z (.c f0)) Y Y Y) M2=Z (.nx (GP c n k (Z (.c f)) g4 g5 g6),M')->nT=aY (aW aAU<|hName 2) (aY (aW (mH aO)<|hName 3)<|aY S<|cQ<|aD 3)->fF [.c c,I n] M=Z (.c f,M'):=fun{f g4 g5 g6 M' S} h e=>by
  unfold fF;rw[e];exact dF rfl<|((aK s1).trans (aK s2)).trans ((aK h).trans rfl)
 have U:∀j:Int,gB (fOp ltI (aD 2)<|fC (.int j)) (GP c n k (Z (.c f0)) Y Y Y) M2=Z (decide (k<j),M2):=fun j=>cM<|bG rfl rfl UA;have F:∀j:Int,gB (fOp (eqX false) (aD 2)<|fC (.int j)) (GP c n k (Z (.c f0)) Y Y Y) M2=Z ((k==j),M2):=fun j=>cM<|bG rfl rfl LR;by_cases q0:k<2
 .have t:=U 2;rw[C4 q0]at t;obtain⟨M3,H,o,L,V⟩:=knA (c:=c) (k:=k) (g3:=Z (.c f0)) (g4:=Y) (g5:=Y) (g6:=Y) P G D.ex;have A:Dk M3 c (m+39):=by rw[V];exact B.app
  have Q:aW kM (hName 3) (GP c n k (Z (.c f0)) Y Y Y) M2=Z (.nx (GP c n k (Z (.c M2.length)) Y Y Y),M3):=bH (i:=3) H;have E:gB (fOp (eqX false) (aD 2)<|fC (.int 1)) (GP c n k (Z (.c M2.length)) Y Y Y) M3=Z ((k==1),M3):=cM<|bG rfl rfl LR;cases q1:(k==1)with
  |false=>
   rw[q1]at E;exact⟨_,_,go ((eB t).trans ((aK Q).trans ((bU E).trans rfl))) rfl,o.le 52,A.le 50⟩
  |true=>
   rw[q1]at E;obtain⟨y,C,p4,W,X,_⟩:=Dk.popE (m:=m+38) A;have a4:aW xq0 (hName 4) (GP c n k (Z (.c M2.length)) Y Y Y) M3=Z (.nx (GP c n k (Z (.c M2.length)) (Z<|I y) Y Y),C):=bH (i:=4)<|pop_at rfl A.ty p4
   have l4:dW (aC (bI aJE)<|aC (bI aLp) aO) (GP c n k (Z (.c M2.length)) (Z<|I y) Y Y) C=Z (.d (.list [pD (y % n,y / 11 % n),pD (y / 97 % n,y / 7 % n)]),C):=by
    have h1:bI aJE (GP c n k (Z (.c M2.length)) (Z<|I y) Y Y) C=Z (pT (y % n,y / 11 % n),C):=iO (iA rfl rfl 50)<|iA (yG rfl 52 52) rfl 50;have h2:bI aLp (GP c n k (Z (.c M2.length)) (Z<|I y) Y Y) C=Z (pT (y / 97 % n,y / 7 % n),C):=iO (iA (yG rfl 52 52) rfl 50)<|iA (yG rfl 52 52) rfl 50;unfold dW;rw[aG h1 (aG h2 aR),A1];show(if 2<=sizeLine then Z (CD.d (.list [pD (y % n,y / 11 % n),pD (y / 97 % n,y / 7 % n)]),C)else Y)=_;rw[A7 (sz 52)]
   obtain⟨M5,e5,K,L5,O⟩:=DM (r:=2) (o.to X (by have:=o.new;omega)) (ds:=[pD (y % n,y / 11 % n),pD (y / 97 % n,y / 7 % n)]) (fun d hd=>by
    rcases B8.mp hd with rfl|hd
    .exact pre_of (em 50) (em 50)
    .rw[A6.mp hd];exact pre_of (em 50) (em 50)) (A8 _) 52
   exact⟨_,_,go ((eB t).trans ((aK Q).trans ((eB E).trans ((aK a4).trans (bH (i:=3)<|bG rfl l4 e5))))) rfl,K.le 52,by rw[O];exact W.app.le 50⟩
 have t0:=U 2;rw[F6 q0]at t0;by_cases q2:k=2
 .have t:=F 2;rw[Z4.mpr q2]at t;obtain⟨M3,H,o,L,V⟩:=knB (c:=c) (k:=k) (g3:=Z (.c f0)) (g4:=Y) (g5:=Y) (g6:=Y) P G D.ex;exact⟨_,_,go ((bU t0).trans ((eB t).trans (bH (i:=3) H))) rfl,o.le 52,by rw[V];exact B.app.le 50⟩
 have t2:=F 2;rw[O0.mpr q2]at t2;by_cases q3:k=3
 .have t:=F 3;rw[Z4.mpr q3]at t;obtain⟨e,M3,H,o,A⟩:=knC (c:=c) (k:=k) (m:=m+31) (g3:=Z (.c f0)) (g4:=Y) (g5:=Y) (g6:=Y) P G D.ex B;exact⟨_,_,go ((bU t0).trans ((bU t2).trans ((eB t).trans (bH (i:=3) H)))) rfl,o.le 52,A.le 50⟩
 have t3:=F 3;rw[O0.mpr q3]at t3;have am:aW aLP (hName 5) (GP c n k (Z (.c f0)) Y Y Y) M2=Z (.nx (GP c n k (Z (.c f0)) Y (Z<|I ((n:Int) / 2)) Y),M2):=bH (i:=5)<|yG rfl 52 52;by_cases q4:k=4
 .have t:=F 4;rw[Z4.mpr q4]at t;have it:=rn1 (fa:=aC (aD 1) aO) (γ:=GP c n k (Z (.c f0)) Y (Z<|I ((n:Int) / 2)) Y) (M:=M2) (J:=(n:Int)) rfl 50 50;rw[A0l]at it;obtain⟨f,g6,M3,lp,o,A⟩:=aNZ (k:=k) (md:=(n:Int) / 2) (g4:=Y) (g6:=Y) G D B;obtain⟨xs,a,b,d⟩:=o.at_;have fc:f≠c:=by have:=o.new;omega
  have ap:=oK (x:=.d .none)<|oF (f:=aD 3) (γ:=GP c n k (Z (.c f)) Y (Z<|I ((n:Int) / 2)) g6) (x:=.c f) rfl (aCk a) (aG (iO (f:=fC (.int 0)) (g:=fOp KR (aD 1)<|fC (.int 1)) (x:=0) (y:=(n:Int)-1) rfl rfl) aR)<|ET a 50;have fl:=(B3.mp a).1;refine⟨_,_,go ((bU t0).trans ((bU t2).trans ((bU t3).trans ((eB t).trans ((aK am).trans ((aK<|iG it lp).trans ap)))))) rfl,⟨⟨xs++[pT (0,(n:Int)-1)],E2 fl,fun x hx=>?_,by rw[C1,D8];omega⟩,o.new,o.ex.put o.new⟩,(A.put fc).le 50⟩;rcases C9.mp hx with hx|hx
  .exact b x hx
  .rw[A6.mp hx];exact pre_of 50 50
 have t4:=F 4;rw[O0.mpr q4]at t4;by_cases q5:k=5
 .have t:=F 5;rw[Z4.mpr q5]at t;obtain⟨M3,H,o,L3,a0⟩:=knF (c:=c) (k:=k) (g3:=Z (.c f0)) (g4:=Y) (g6:=Y) P G D.ex;have Q:aW kK (hName 3) (GP c n k (Z (.c f0)) Y (Z<|I ((n:Int) / 2)) Y) M2=Z (.nx (GP c n k (Z (.c M2.length)) Y (Z<|I ((n:Int) / 2)) Y),M3):=bH (i:=3) H;obtain⟨ds,e4,h4,l4⟩:=knG (c:=c) (k:=k) (g3:=Z (.c M2.length)) (g4:=Y) (g6:=Y) (M:=M3) P G;obtain⟨C,e5,a1,L4,a2⟩:=DM (r:=8) o h4 l4 52;have e6:dW (aC (bI aIV) aO) (GP c n k (Z (.c M2.length)) Y (Z<|I ((n:Int) / 2)) Y) C=Z (.d (.list [pD ((n:Int) / 2,(n:Int)-1)]),C):=JW<|iO rfl rfl;obtain⟨M5,e7,K,L5,O⟩:=DM (r:=1) a1 (aKr (i:=(n:Int) / 2) (j:=(n:Int)-1) 50 50) (A8 _) 52;exact⟨_,_,go ((bU t0).trans ((bU t2).trans ((bU t3).trans ((bU t4).trans ((eB t).trans ((aK am).trans ((aK Q).trans (bH (i:=3)<|bG (bG rfl e4 e5) e6 e7)))))))) rfl,K.le 52,by rw[O,a2,a0];exact B.app.app.app.le 50⟩
 have t5:=F 5;rw[O0.mpr q5]at t5;have t:=U 8;by_cases q8:k<8
 .rw[C4 q8]at t;have it:=rn1 (fa:=aC (aD 1) aO) (γ:=GP c n k (Z (.c f0)) Y Y Y) (M:=M2) (J:=(n:Int)) rfl 50 50;rw[A0l]at it;obtain⟨f,g6,M3,lp,o,A⟩:=aOX (m:=m+11) (k:=k) (g4:=Y) (g5:=Y) (g6:=Y) G hc D B;exact⟨_,_,go ((bU t0).trans ((bU t2).trans ((bU t3).trans ((bU t4).trans ((bU t5).trans ((eB t).trans (iG it lp))))))) rfl,o.le 52,A.le 50⟩
 .rw[F6 q8]at t;exact⟨_,_,go ((bU t0).trans ((bU t2).trans ((bU t3).trans ((bU t4).trans ((bU t5).trans ((bU t).trans rfl)))))) rfl,D.le 52,B.le 50⟩
abbrev aBN(a:Int)(b:Int)(c:Int)(d:Int):Ga:=[Z (I a),Z<|I b,Z<|I c,Z<|I d]
theorem ES(M:Sto)(a b:Int):∀(n:Nat)(x y:Int),0<=x->0<=y->y.toNat<n->
 dO (gB<|fOp gtI (aD 3)<|fC (.int 0)) aND n (aBN a b x y) M=Z (.nx (aBN a b (Int.gcd x y) 0),M)
 |0=>fun _ _ _ _ h=>50
 |n+1=>fun x y A o h=>by
  by_cases e:y=0
  .subst e;have:(Int.gcd x 0:Int)=x:=by rw[Int.gcd_zero_right];omega
   rw[this];rfl
  .have k:0<y:=50
   have ih:=ES M a b n y (x % y) o (S5 _ e) (by have:=L7 x k;omega);rw[OM]at ih;rw[<- ih];have t:=C4 k;simp![dO,QG,eJ k,t]
def aDg(M:Sto)(ha:0<=a)(k:1<=b)(o:b.natAbs<zF):iL [I a,I b] M=Z (.d (.tuple [.int (a / (Int.gcd a b:Int)),.int (b / (Int.gcd a b:Int))]),M):=by
 have h:pV (aBN a b a b) M=_:=qR<|ES M a b (b.toNat+1) a b ha 50<|S6 _;have A:=aFQ (a:=a) k;have B:=aMa (a:=a) k;have t:∀x,yV x (Int.gcd a b:Int)=true:=fun x=>zZ 50<|Nat.lt_of_le_of_lt 50 o;have sz:(2:Nat)<=sizeLine:=52
 simp![iL,mI,QG,h,t,sz]
def s2:(2:Nat)<=sizeLine:=52
def wts:Ta:=[55440,55440,110880,27720,41580,0,23100,166320,55440000000000,1,55440,27720]
def aAS(M:Sto):∃w,iP [I z] M=Z (I w,M)/\w∈wts:=by
 obtain⟨d,k,o⟩:=vW (ds:=wts.map PyData.int) (m:=12) 52 rfl;obtain⟨w,t,rfl⟩:=C7.mp o;have A:lC z 12=true:=eJ 52
 have e:ixF (.d (.list (wts.map .int))) (I (z % 12)) M=Z (I w,M):=by
  show(atI (wts.map PyData.int) (z % 12)).bind _=_;rw[k];rfl
 have e:ixF (.d (.list [.int 55440,.int 55440,.int 110880,.int 27720,.int 41580,.int 0,.int 23100,.int 166320,.int 55440000000000,.int 1,.int 55440,.int 27720])) (I (z % 12)) M=Z (I w,M):=e;exact⟨w,by simp![iP,mD,yD,A,e],t⟩
def OkW(n:Int)(us:Ua Tie):Prop:=(∀t∈us,0<=t.i/\t.i<t.j/\t.j<n/\t.a∈wts/\0<t.a/\t.b=55440)/\(us.map Tie.key).Nodup
def kvW(us:Ua Tie):Ua (Ua Key×CD):=us.map fun t=>(t.key,I t.a)
def XR(h:([.inl i,.inl j]:Ua Key)=[.inl k,.inl j']):i=k/\j=j':=54
def aJF{n w:Int}(ok:OkW n us)(F:0<=i)(G:i<j)(H:j<n)(o:w∈wts)(A:0<w):∃vs,putD (kvW us) [.inl i,.inl j] (I w)=kvW vs/\OkW n vs/\vs.length<=us.length+1:=by
 unfold putD;by_cases c:((kvW us).any fun K=>decide (K.1=[.inl i,.inl j]))=true
 .rw[A7 c];refine⟨us.map fun t=>if t.key=[.inl i,.inl j]then{ t with a:=w }else t,?_,⟨fun t ht=>?_,?_⟩,by rw[A4];omega⟩
  .unfold kvW;rw[I0,I0];refine Z6 fun t _=>?_;show(if t.key=_ then(t.key,I w)else(t.key,I t.a))=_;by_cases q:t.key=[.inl i,.inl j]
   .rw[A7 q];show(t.key,I w)=((if t.key=[.inl i,.inl j]then{ t with a:=w }else t).key,I (if t.key=[.inl i,.inl j]then{ t with a:=w }else t).a);rw[A7 q];rfl
   .rw[B7 q];show(t.key,I t.a)=((if t.key=[.inl i,.inl j]then{ t with a:=w }else t).key,I (if t.key=[.inl i,.inl j]then{ t with a:=w }else t).a);rw[B7 q]
  .obtain⟨s,hs,rfl⟩:=C7.mp ht;obtain⟨B,C,D,O,P,E⟩:=ok.1 s hs;split
   .exact⟨B,C,D,o,A,E⟩
   .exact⟨B,C,D,O,P,E⟩
  .rw[I0,show us.map (Tie.key ∘ fun t=>if t.key=[.inl i,.inl j]then{ t with a:=w }else t)=us.map Tie.key from Z6 fun t _=>by
    show(if t.key=[.inl i,.inl j]then{ t with a:=w }else t).key=t.key;split<;>rfl]
   exact ok.2
 .rw[B7 c];refine⟨us++[⟨i,j,w,55440⟩],by unfold kvW;rw[F7];rfl,⟨fun t ht=>?_,?_⟩,by rw[C1,D8];omega⟩
  .rcases C9.mp ht with h|h
   .exact ok.1 t h
   .rw[A6.mp h];exact⟨F,G,H,o,A,rfl⟩
  .rw[F7,A2n];refine Z3.mpr ⟨ok.2,53,fun k Q l R q=>?_⟩;rw[A6.mp R]at q;subst q;obtain⟨t,ht,e⟩:=C7.mp Q;refine c<|Y3.mpr ⟨(t.key,I t.a),C7.mpr ⟨t,ht,rfl⟩,?_⟩;rw[e];exact C4 rfl
theorem VP{g:GF}{b:SF}{X:CD->Prop}{Inv:Nat->Ga->Sto->Prop}(step:∀m x γ M,X x->Inv (m+1) γ M->∃γ1 γ' M',g x γ M=Z (γ1,M)/\b γ1 M=Z (.nx γ',M')/\Inv m γ' M'):
 ∀(xs:T8)(γ:Ga)(M:Sto),(∀x∈xs,X x)->Inv xs.length γ M->∃γ' M',jW g b xs γ M=Z (.nx γ',M')/\Inv 0 γ' M'
 |[]=>fun γ M _ i=>⟨γ,M,rfl,i⟩
 |x::xs=>fun γ M o i=>by
  obtain⟨γ1,k,M1,t,A,i1⟩:=step _ x γ M (o x B9) i;obtain⟨γ',M',B,i2⟩:=VP step xs k M1 (fun y C=>o y<|A9 _ C) i1;exact⟨γ',M',by rw[iZ t A];exact B,i2⟩
abbrev GW(c:Nat)(n al:Int)(d:Nat)(i j w:Th):Ga:=[Z (.c c),Z<|I n,Z<|I al,Z (.c d),i,j,w]
def Dt(M:Sto)(d:Nat)(n:Int)(L:Nat):Prop:=∃us,M[d]?=Z (.dt (kvW us))/\OkW n us/\us.length<=L
def UO:wY [I i,I j] M=Z (I (if j<i then j else i),M):=rfl
def SH:vN [I i,I j] M=Z (I (if j > i then j else i),M):=rfl
def aCx{L:Nat}{n:Int}{g6:Th}(hi:0<=i/\i<n)(T:0<=j/\j<n)(dk:Dk M c (m+1))(dt:Dt M d n L)(U:L<900)(ex:Ex c M0 M)(hd:M0.length<=d)(ne:d≠c):
 ∃t M',oV (GW c n al d (Z<|I i) (Z<|I j) g6) M=Z (.nx (GW c n al d (Z<|I i) (Z<|I j) t),M')/\Dk M' c m/\Dt M' d n (L+1)/\Ex c M0 M':=by
 have V:lC al 2=true:=eJ 52;have E:aW NF (hName 6) (GW c n al d (Z<|I i) (Z<|I j) g6) M=Z (.nx (GW c n al d (Z<|I i) (Z<|I j)<|Z<|I 55440),M):=rfl;have tt:gB aKX (GW c n al d (Z<|I i) (Z<|I j)<|Z<|I 55440) M=Z (al % 2==1,M):=by rfl
 have A:∃w M1,sIf (gB aKX) aMY cS (GW c n al d (Z<|I i) (Z<|I j)<|Z<|I 55440) M=Z (.nx (GW c n al d (Z<|I i) (Z<|I j)<|Z<|I w),M1)/\w∈wts/\Dk M1 c m/\Ex c M M1:=by
  cases h:(al % 2==1)with
  |true=>
   obtain⟨z,M1,po,o,k,_⟩:=Dk.popE dk;have F:=pop_at (γ:=GW c n al d (Z<|I i) (Z<|I j)<|Z<|I 55440) (v:=0) rfl dk.ty po;obtain⟨w,B,G⟩:=aAS (z:=z) M1;refine⟨w,M1,?_,G,o,k⟩;rw[eB (tt.trans (by rw[h]))];refine(bH ?_).trans rfl;simp![F,B]
  |false=>exact⟨55440,M,by rw[bU (tt.trans (by rw[h]))];rfl,52,dk.le 50,Ex.refl _ _⟩
 obtain⟨w,M1,B,H,o,k⟩:=A;obtain⟨us,u1,C,W⟩:=dt;have u1:=k.to u1 ne;have K:(kvW us).length<sizeLine:=by unfold kvW;rw[A4,J9];omega
 have D:FG (gB<|fOp (eqX true) (aD 4)<|aD 5) (gB<|fOp gtI (aD 6)<|fC (.int 0)) (GW c n al d (Z<|I i) (Z<|I j)<|Z<|I w) M1=Z (!(i==j)&&decide (w > 0),M1):=by
  cases h:(i==j)<;>simp![aGQ,h]<;>rfl
 unfold oV;rw[aK E,aK B];cases h:(!(i==j)&&decide (w > 0))with
 |false=>
  rw[bU (D.trans (by rw[h]))];exact⟨_,M1,rfl,o,⟨us,u1,C,50⟩,ex.trans k⟩
 |true=>
  rw[eB (D.trans (by rw[h]))];rw[B4]at h;have O:i≠j:=54
  have P:0<w:=54
  obtain⟨vs,Q,R,X⟩:=aJF (i:=if j<i then j else i) (j:=if j > i then j else i) C 50 50 50 H P
  have S:qD M1 (.c d) (.inr [.inl (if j<i then j else i),.inl (if j > i then j else i)]) (I w)=Z (M1.set d (.dt (kvW vs))):=by
   simp only[qD,u1,A7 K,Q]
  refine⟨Z<|I w,M1.set d (.dt (kvW vs)),?_,o.put ne,⟨vs,E2 (B3.mp u1).1,R,50⟩,(ex.trans k).put hd⟩;simp![gC,gT,UO,SH,keysOf,keyOf,s2,S]
def aNx(H:2<=n)(K:n<=8)(dk:Dk M c (m+71)):∃d M',oB [.c c,I n] M=Z (.c d,M')/\Dt M' d n 30/\Dk M' c m/\Ex c M M'/\d≠c/\M.length<=d:=by
 obtain⟨z,M1,po,O,E,_⟩:=Dk.popE dk;have P:=pop_at (γ:=(wL c n)) (v:=0) rfl dk.ty po;have Q:aW xq0 (hName 2) (wL c n) M=Z (.nx (vU c n z),M1):=(bH P).trans rfl;have R:aW rO (hName 3) (vU c n z) M1=Z (.nx (GW c n z M1.length Y Y Y),M1++[.dt []]):=rfl;have S:Ex c M (M1++[.dt []]):=E.trans<|Ex.app _ _ _;have cl:=dk.lt;have hd:=E.len;have u0:Dt (M1++[.dt []]) M1.length n 0:=⟨[],gG,⟨fun t h=>by simp at h,A0p⟩,A8 _⟩;obtain⟨p,M2,T,o,U⟩:=aHg H K O.app;obtain⟨ys,V,F,W⟩:=o.at_
 obtain⟨ds,rfl,A⟩:=KB fun y G=>by
  obtain⟨d,rfl⟩:=XY y<|F y G;exact⟨d,rfl,F _ G⟩
 have ca:aP fF FJ (GW c n z M1.length Y Y Y) (M1++[.dt []])=Z (.c p,M2):=aZ (aG rfl<|aG rfl aR) T;have it:=XE (aEb ca V) rfl;have ln:(M1++[Cell.dt []]).length=M1.length+1:=53
 have hp:=o.new
 have u2:Dt (M2.set p .dead) M1.length n 0:=by
  obtain⟨us,a,b⟩:=u0;refine⟨us,?_,b⟩;rw[E1 50];exact o.ex.to a 50
 rw[A4]at W
 obtain⟨γ',M',e2,⟨g4,g5,g6,rfl,f1,f2,f3,_⟩⟩:=VP (g:=gU 2<|cG (hName 4)<|cG (hName 5) pH) (X:=PrE n) (Inv:=fun k γ N=>∃g4 g5 g6,γ=GW c n z M1.length g4 g5 g6/\Dk N c (m+k)/\Dt N M1.length n (30-k)/\Ex c M N/\k<=30) (fun k x γ N B hi=>by
  obtain⟨⟨i,j⟩,rfl,C,D⟩:=B;obtain⟨g4,g5,g6,rfl,q1,q2,q3,q4⟩:=hi;obtain⟨a0,N',t1,t2,t3,t4⟩:=aCx C D q1 q2 50 q3 hd 50;refine⟨_,_,N',rfl,t1,_,_,_,rfl,t2,?_,t4,50⟩;rw[show 30-k=30-(k+1)+1 by omega];exact t3) (ds.map .d) (GW c n z M1.length Y Y Y) (M2.set p .dead) (fun x B=>by
  obtain⟨d,hd,rfl⟩:=C7.mp B;exact A d hd) ⟨Y,Y,Y,rfl,(U.put 50).le 54,(by obtain⟨us,a,b,l⟩:=u2;exact⟨us,a,b,E6 l (F9 _)⟩),(S.trans o.ex).put 50,by rw[A4];omega⟩
 refine⟨M1.length,M',dF rfl ?_,f2,f1,f3,50,hd⟩;show aY _ _ (wL c n) M=_;rw[aK Q,aK R,aK<|iG it e2];rfl
def f0(t:Tie):T5:=[.int t.i,.int t.j]
def aNN(s t:Tie):(lP (f0 s)<|f0 t).isSome=true:=by
 show(if (s.i==t.i)=true then(if (s.j==t.j)=true then lP [] []else Z<|decide (s.j<t.j))else Z<|decide (s.i<t.i)).isSome=true;split
 .split
  .rfl
  .rfl
 .rfl
def aFK(k:us.length<64):∃vs:Ua Tie,vs.Perm us/\fS (us.map f0)=Z (vs.map fun t=>.tuple (f0 t)):=by
 by_cases o:2<=us.length
 .have A:sortable (us.map f0)=true:=by
   have hd:(mX (us.map f0) || pO (us.map f0))=true:=by
    rw[A1y];exact .inl (by unfold mX;rw[List.all_map];exact D5.mpr fun t _=>rfl)
   unfold sortable;rw[A4,C4 o,C4 k,hd,U5,U5,Bool.and_true,B4];refine⟨D5.mpr fun r B=>?_,D5.mpr fun i hi=>D5.mpr fun j C=>?_⟩
   .obtain⟨t,_,rfl⟩:=C7.mp B;rfl
   .rw[xI (F5.mp hi),xI<|F5.mp C];exact aNN _ _
  have pm:=lU (n:=(us.map f0).length) (tL<|us.map f0) 54;rw[A4]at pm;have mem:∀i∈hX (tL<|us.map f0) us.length,i<us.length:=fun i hi=>F5.mp<|pm.mem_iff.mp hi
  have D:QY (us.map f0)=((hX (tL<|us.map f0) us.length).map fun i=>us.getD i t0).map fun t=>.tuple (f0 t):=by
   unfold QY;rw[A4,I0];refine Z6 fun i hi=>?_;show PyData.tuple ((us.map f0).getD i [])=.tuple (f0<|us.getD i t0);rw[xI (mem i hi),aBn<|mem i hi]
  refine⟨(hX (tL<|us.map f0) us.length).map fun i=>us.getD i t0,?_,?_⟩
  .have:=pm.map fun i=>us.getD i t0
   rwa [HW]at this
  .unfold fS;rw[A,A7 rfl,D]
 .have E:us.length<2:=50
  refine⟨us,.refl _,?_⟩;unfold fS
  have:sortable (us.map f0)=false:=by
   unfold sortable;rw[A4,F6 o];rfl
  rw[this,B7 C6,A4,A7 E,I0];rfl
def low(t:Tie):Tie:=⟨t.i,t.j,t.a / (Int.gcd t.a 55440:Int),55440 / (Int.gcd t.a 55440:Int)⟩
def aGe{w:Int}(h:w∈wts):tJ (w / (Int.gcd w 55440:Int)) (55440 / (Int.gcd w 55440:Int))=true:=by
 have:wts.all fun w=>tJ (w / (Int.gcd w 55440:Int)) (55440 / (Int.gcd w 55440:Int)):=by rfl
 exact D5.mp this w h
def aCI{t:Tie}(nd:(us.map Tie.key).Nodup)(ht:t∈us):lkC (kvW us) t.key=Z (I t.a):=by
 unfold lkC kvW;rw[A0s]
 have:us.find? ((fun k:Ua Key×CD=>decide (k.1=t.key)) ∘ fun t=>(t.key,I t.a))=Z t:=by
  induction us with
  |nil=>simp at ht
  |cons s us ih=>
   rw[D4,U1]at nd;by_cases e:s.key=t.key
   .rcases B8.mp ht with rfl|h
    .rw[List.find?_cons_of_pos 53]
    .exact absurd (C7.mpr ⟨t,h,e.symm⟩) nd.1
   .rw[List.find?_cons_of_neg 54];rcases B8.mp ht with rfl|h
    .exact absurd rfl e
    .exact ih nd.2 h
 rw[this];rfl
noncomputable abbrev rE:EF:=aOO
def s3:(3:Nat)<=sizeLine:=52
theorem IG{d:Nat}{M:Sto}{us:Ua Tie}(hd:M[d]?=Z (.dt (kvW us)))(nd:(us.map Tie.key).Nodup)(B:∀t∈us,0<=t.a):∀(vs:Ua Tie)(k o:Th),(∀t∈vs,t∈us)->lcF (gU 2 xq7) dP rE (vs.map fun t=>.d (.tuple (f0 t))) [Z (.c d),k,o] M=Z ((vs.map fun t=>PyData.tuple<|f2<|low t).map .d,M)
 |[]=>fun _ _ _=>rfl
 |t::vs=>fun k o A=>by
  have ih:=IG hd nd B vs (Z<|I t.i) (Z<|I t.j) fun u C=>A u<|A9 _ C
  have D:atD M (.c d) (.inr [.inl t.i,.inl t.j])=Z (Z<|I t.a):=by
   have:=aCI nd<|A t B9;simp only[atD,hd];exact A0h Z this
  have lo:=aDg (b:=55440) M (B t<|A t B9) 52<|wsm 52 52
  have e:rE [Z (.c d),Z<|I t.i,Z<|I t.j] M=Z (.d (.tuple (f2<|low t)),M):=by
   simp![rE,qL,gT,keysOf,keyOf,s2,s3,D,lo];rfl
  rw[D4,D4,D4];show(gU 2 xq7 (.d (.tuple (f0 t))) [Z (.c d),k,o] M).bind _=_;rw[show gU 2 xq7 (.d (.tuple (f0 t))) [Z (.c d),k,o] M=Z ([Z (.c d),Z<|I t.i,Z<|I t.j],M)from rfl,A1];rw[show dP [Z (.c d),Z<|I t.i,Z<|I t.j] M=Z (true,M)from rfl,A1,A7 rfl,e,A1];rw[ih,A1]
def aJu{n:Int}(u1:M[d]?=Z (.dt (kvW us)))(ok:OkW n us)(I:us.length<=30):∃vs:Ua Tie,vs.Perm us/\lX [.c d] M=Z (.d (.list (eQ<|vs.map low)),M)/\Ok n (vs.map low):=by
 obtain⟨k,nd⟩:=ok;obtain⟨vs,pm,A⟩:=aFK (us:=us) 50;have o:∀t∈vs,t∈us:=fun t ht=>pm.mem_iff.mp ht
 have B:uO [.c d] M=Z (.d (.list (vs.map fun t=>.tuple (f0 t))),M):=by
  have e:(kvW us).map (fun C=>C.1.map wW)=us.map f0:=by unfold kvW;rw[I0];rfl
  simp only[uO,u1,e,A,A1]
 have it:cA (aP uO xT) [Z (.c d)] M=Z (vs.map fun t=>.d (.tuple (f0 t)),M):=by
  simp![cA,B,bC,I0];rfl
 refine⟨vs,pm,?_,fun t ht=>?_,?_,by rw[A4,pm.length_eq];omega⟩
 .have D:tQ [Z (.c d)] M=Z (.d (.list (eQ<|vs.map low)),M):=by
   refine mE it (by rw[A4,pm.length_eq];omega) ?_ (by unfold eQ;rw[A4,A4,pm.length_eq];omega);have:=IG u1 nd (fun t ht=>by have:=(k t ht).2.2.2.2.1;omega) vs Y Y o;rw[show tI [Z 0,Y,Y] [Z (CD.c d)]=[Z (.c d),Y,Y]from rfl,this];unfold eQ;rw[I0 (f:=low)];rfl
  simp![lX,qK,D]
 .obtain⟨s,hs,rfl⟩:=C7.mp ht;obtain⟨E,F,G,H,K,O⟩:=k s<|o s hs;exact⟨aGe H,E,F,G⟩
 .rw[I0];exact((pm.map Tie.key).nodup_iff.mpr nd)
def aGY{w:Int}(h:w∈wts)(k:0<w):0<w / (Int.gcd w 55440:Int):=by
 have:wts.all fun w=>decide (¬0<w) || decide (0<w / (Int.gcd w 55440:Int)):=by rfl
 have:=D5.mp this w h;simp only[A1y,U7]at this;rcases this with q|q
 .exact absurd k q
 .exact q
structure lK(M:Sto)(w:Nat)(n:Int)(ws:Ua Tie):Prop where
 ob:∃fs:Tz,M[w]?=Z (.obj "Web" fs)/\List.lookup ("many":Str) fs=Z (I n)/\List.lookup ("weights":Str) fs=Z (.c (w+2))/\List.lookup ("tie":Str) fs=Y
 wt:M[w+2]?=Z (.dt (bJ ws))
def lK.app{n:Int}(h:lK M w n ws):lK (M++L) w n ws:=⟨let⟨fs,a,b⟩:=h.ob;⟨fs,by rw[C8 (B3.mp a).1];exact a,b⟩,by rw[C8 (B3.mp h.wt).1];exact h.wt⟩
def lK.to{n:Int}(h:lK M w n ws)(e:Ex c M M')(ne:c<w):lK M' w n ws:=⟨let⟨fs,a,b⟩:=h.ob;⟨fs,e.to a 50,b⟩,e.to h.wt 50⟩
def lK.put{j:Nat}{n:Int}{x:Cell}(h:lK M w n ws)(ne:j<w\/w+2<j):lK (M.set j x) w n ws:=⟨let⟨fs,a,b⟩:=h.ob;⟨fs,by rw[E1 50];exact a,b⟩,by rw[E1 50];exact h.wt⟩
def lK.lt{n:Int}(h:lK M w n ws):w+2<M.length:=(B3.mp h.wt).1
def lK.obj{n:Int}(h:lK M w n ws):∃fs:Tz,objOf "Web" M (.c w)=Z (w,fs)/\List.lookup ("many":Str) fs=Z (I n)/\List.lookup ("weights":Str) fs=Z (.c (w+2))/\List.lookup ("tie":Str) fs=Y:=by
 obtain⟨fs,k,o⟩:=h.ob;exact⟨fs,by simp only[objOf,k,A1i],o⟩
structure Tw(n:Int)(us ws:Ua Tie):Prop where
 ks:∀k,k∈ws.map Tie.key↔k∈us.map Tie.key
 nd:(ws.map Tie.key).Nodup
 ps:∀t∈ws,0<t.a
def aLw{n:Int}(O:2<=n)(P:n<=8)(u1:M[d]?=Z (.dt (kvW us)))(ok:OkW n us)(B:us.length<=30)(C:γ[3]?=Z (Z<|I n))(D:γ[4]?=Z (Z (.c d))):
 ∃L ws,IK "Web" gJ aLY γ M=Z (.c M.length,M++L)/\lK (M++L) M.length n ws/\Tw n us ws:=by
 obtain⟨xs,A,E,o⟩:=aJu u1 ok B;obtain⟨vs,pm,F⟩:=aHA (M:=M) o 50 50
 have ps:∀t∈vs,0<t.a:=fun t ht=>by
  obtain⟨s,hs,rfl⟩:=C7.mp<|pm.mem_iff.mp ht;obtain⟨Q,R,S,G,H,T⟩:=ok.1 s<|A.mem_iff.mp hs;exact aGY G H
 have K:vs.filter big=vs:=List.filter_eq_self.mpr fun t ht=>C4<|ps t ht;have kk:(xs.map low).map Tie.key=xs.map Tie.key:=by rw[I0];rfl
 have pk:(vs.map Tie.key).Perm (us.map Tie.key):=by
  have:=pm.map Tie.key;rw[kk]at this;exact this.trans<|A.map Tie.key
 refine⟨aLm M.length n (xs.map low) vs,vs,?_,⟨⟨[("many",I n),("ties",.d (.tuple (eN vs))),("weights",.c (M.length+2))],?_,rfl,rfl,rfl⟩,?_⟩,fun k=>pk.mem_iff,pk.nodup_iff.mpr ok.2,ps⟩
 .simp![IK,C,D,E,F];rfl
 .rw[Y0 (A8 _),Nat.sub_self];rfl
 .rw[Y0 50,show M.length+2-M.length=2 by omega];show Z (Cell.dt<|bJ<|vs.filter big)=_;rw[K]
def mn(a b:Int):Int:=if b<a then b else a
def mx(a b:Int):Int:=if b > a then b else a
def kAB(a b:Int):Ua Key:=[.inl (mn a b),.inl (mx a b)]
def tk(us:Ua Tie)(a b:Int):Bool:=(us.map Tie.key).any fun k=>decide (k=kAB a b)
def aEg(h:kAB a b∈us.map Tie.key):tk us a b=true:=Y3.mpr ⟨_,h,C4 rfl⟩
def aOa(h:tk us a b=true):kAB a b∈us.map Tie.key:=by
 obtain⟨k,o,e⟩:=Y3.mp h;rw[<- D7 e];exact o
def aOv(h:kAB a b∉us.map Tie.key):tk us a b=false:=by
 cases q:tk us a b with
 |false=>rfl
 |true=>exact absurd (aOa q) h
def aMK{us:Ua Tie}{k:Ua Key}(h:k∈us.map Tie.key):∃t∈us,lkC (bJ us) k=Z t.val:=by
 unfold lkC bJ;rw[A0s];cases q:us.find? ((fun o:Ua Key×CD=>decide (o.1=k)) ∘ fun t=>(t.key,t.val))with
 |none=>
  obtain⟨t,ht,e⟩:=C7.mp h;have:=A0b.mp q t ht;exact absurd (C4 e) this
 |some t=>exact⟨t,List.mem_of_find?_eq_some q,rfl⟩
def aLH{k:Ua Key}(h:k∉us.map Tie.key):lkC (bJ us) k=Y:=by
 unfold lkC bJ;have q:us.find? ((fun o:Ua Key×CD=>decide (o.1=k)) ∘ fun t=>(t.key,t.val))=Y:=A0b.mpr fun t ht e=>h<|C7.mpr ⟨t,ht,D7 e⟩;rw[A0s,q];rfl
def aKe{x y:Nat}(ha:aD x γ M=Z (I a,M))(k:aD y γ M=Z (I b,M)):gT (aC (aP wY<|aC (aD x)<|aC (aD y) aO)<|aC (aP vN<|aC (aD x)<|aC (aD y) aO) aO) γ M=Z (.inr (kAB a b),M):=by
 unfold gT;rw[aG (aZ (aG ha<|aG k aR) UO) (aG (aZ (aG ha<|aG k aR) SH) aR),A1];show(Z (kAB a b):Ub (Ua Key)).bind _=_;rw[A1];exact A7<|sz (show 2<=1000 by decide)
def aOR{x:Int}:eqX true (.d (.tuple [.int x,.int y])) (.d (.tuple [.int 0,.int 1])) M=Z (B (!((x==0)&&((y==1)&&true))),M):=rfl
def aNq{n:Int}(k:lK M w n ws)(A:Tw n us ws):∃v,nY [.c w,I a,I b] M=Z (v,M)/\eqX true v (.d (.tuple [.int 0,.int 1])) M=Z (B<|tk us a b,M):=by
 obtain⟨fs,o,_,l,_⟩:=k.obj;have f1:uT "Web" "weights" (aD 0) [Z (.c w),Z<|I a,Z<|I b] M=Z (.c (w+2),M):=by simp![uT,o,l]
 have C:OT M (.c (w+2))=true:=by simp only[OT,k.wt]
 have at_:atD M (.c (w+2)) (.inr (kAB a b))=Z (lkC (bJ ws)<|kAB a b):=by simp only[atD,k.wt]
 have g:pK (uT "Web" "weights"<|aD 0) (gT aGy) nV [Z (.c w),Z<|I a,Z<|I b] M=Z ((lkC (bJ ws)<|kAB a b).getD (.d (.tuple [.int 0,.int 1])),M):=by
  unfold pK;rw[f1,A1];rw[A7 C,aKe rfl rfl,A1];rw[FS,A1];rw[at_,A1]
 refine⟨_,dF rfl<|gQ g,?_⟩;by_cases h:kAB a b∈us.map Tie.key
 .obtain⟨t,ht,e⟩:=aMK<|(A.ks _).mpr h;rw[e];show eqX true (.d (.tuple [.int t.a,.int t.b])) _ M=_;have:=A.ps t ht;rw[aOR,show(t.a==0)=false from O0.mpr 50];rw[aEg h];rfl
 .rw[aLH fun z=>h<|(A.ks _).mp z];rw[aOv h];rfl
theorem GL{k:Type}{f:k->Bool}:∀ds:Ua k,boolsOf (ds.map fun d=>.bool (f d))=Z (ds.map f)
 |[]=>rfl
 |d::ds=>by show(boolsOf (ds.map fun d=>.bool (f d))).bind _=_;rw[GL ds];rfl
def all_map'{k:Type}{f:k->Bool}{ds:Ua k}:FI [.d (.list (ds.map fun d=>.bool (f d)))] M=Z (B<|ds.all f,M):=by
 show(boolsOf (ds.map fun d=>.bool (f d))).bind _=_;rw[GL,A1,List.all_map];rfl
def Rw(k:Bool)(ds:T5):Ud:=if k then .list ds else .tuple ds
def OV(h:iB x=true):∃k ds,x=Rw k ds:=by
 cases x<;>first|(cases h;done)|exact⟨true,_,rfl⟩|exact⟨false,_,rfl⟩
def cO(k:Bool)(ds:T5):bC (Rw k ds)=Z ds:=by cases k<;>rfl
def QH(h:f γ M=Z (.d (Rw k ds),M)):cA f γ M=Z (ds.map .d,M):=by
 simp only[cA,h,A1,cO]
def RA:iE [.d (Rw k ds)] M=Z (I ds.length,M):=by cases k<;>rfl
def aOW{k:Type}(ds:Ua k):gP ds (Z 1) Y=ds.drop 1:=by
 unfold gP;rw[show(1:Int)=((1:Nat):Int)from rfl,HT.sIx_nat,HT.sIx_none];cases ds with
 |nil=>rfl
 |cons d ds=>rw[show min 1 (d::ds).length=1 by simp];exact List.take_of_length_le 53
def JB:slF (.d (Rw k ds)) (Z 1) Y M=Z (.d (Rw k<|ds.drop 1),M):=by
 cases k
 .show Z (CD.d (.tuple (gP ds (Z 1) Y)),M)=_;rw[aOW];rfl
 .show Z (CD.d (.list (gP ds (Z 1) Y)),M)=_;rw[aOW];rfl
theorem ints_map:∀ns:Ta,qZ (ns.map .int)=Z ns
 |[]=>rfl
 |n::ns=>by show(qZ<|ns.map .int).bind _=_;rw[ints_map ns];rfl
theorem vY{n:Int}:∀{ds:T5},ds.all (plc n)=true->∃ns:Ta,ds=ns.map .int/\∀i∈ns,0<=i/\i<n
 |[]=>fun _=>⟨[],rfl,fun i h=>by simp at h⟩
 |d::ds=>fun h=>by
  rw[Z8,B4]at h;obtain⟨i,rfl,k,i1⟩:=vO h.1;obtain⟨ns,rfl,hn⟩:=vY h.2;refine⟨i::ns,rfl,fun j hj=>?_⟩;rcases B8.mp hj with rfl|hj
  .exact⟨k,i1⟩
  .exact hn j hj
noncomputable def adj:Ta->Ua (Int×Int)
 |a::b::r=>(a,b)::adj (b::r)
 |_=>[]
theorem AA:∀ns:Ta,(adj ns).length<=ns.length
 |[]=>A8 _
 |[_]=>F9 _
 |_::b::r=>Nat.succ_le_succ<|AA (b::r)
theorem IP:∀ns:Ta,nE (ns.map .int) ((ns.map PyData.int).drop 1)=(adj ns).map pT
 |[]=>rfl
 |[_]=>rfl
 |a::b::r=>by
  show CD.d (.tuple [.int a,.int b])::nE ((b::r).map .int) (((b::r).map PyData.int).drop 1)=_;rw[IP (b::r)];rfl
def LK{k:Type}{xs:Ua k}{x0:k}(h:0<xs.length):atI xs (-1)=Z (xs.getD (xs.length-1) x0):=by
 unfold atI ixN;rw[B7 52];rw[A7 50,A1,show((-1:Int)+(xs.length:Int)).toNat=xs.length-1 by omega,E3,C0 50];rfl
def aBP{k:Type}{xs:Ua k}{x0:k}(h:0<xs.length):atI xs 0=Z (xs.getD 0 x0):=by
 cases xs with
 |nil=>cases h
 |cons x r=>exact aNY x r
def ND{k:Nat}(h:k<os.length):(os.map PyData.int).getD k .none=.int (os.getD k 0):=54
def NV{d:Ud}(hd:bC d=Z (os.map .int))(h:0<os.length):ixF (.d d) (I 0) M=Z (I<|os.getD 0 0,M):=MB hd (by rw[aBP 54,ND h])
def WL{d:Ud}(hd:bC d=Z (os.map .int))(h:0<os.length):ixF (.d d) (I (-1)) M=Z (I<|os.getD (os.length-1) 0,M):=MB hd (by rw[LK 54,A4,ND 50])
def aKc:fUn aAr (fC (.int 1)) γ M=Z (I (-1),M):=rfl
def CO(us:Ua Tie)(i j:Int)(ns:Ta):Bool:=(ns.getD 0 0==i)&&((ns.getD (ns.length-1) 0==j)&&(decide (ns.length<=(qA ns).length)&&(adj ns).all fun p=>tk us p.1 p.2))
def kB(n:Int)(us:Ua Tie)(i j:Int)(x:Ud):Bool:=match bC x with
 |some ds=>decide (2<=ds.length)&&(ds.all (plc n)&&(match qZ ds with
  |some ns=>CO us i j ns
  |none=>false))
 |none=>false
def JU{n:Int}(h:iB x=false):kB n us i j x=false:=by
 have:bC x=Y:=by cases x<;>first|rfl|cases h
 unfold kB;rw[this]
def JO{n:Int}(o:2<=ns.length)(ha:(ns.map PyData.int).all (plc n)=true):kB n us i j (Rw k<|ns.map .int)=CO us i j ns:=by
 unfold kB;rw[cO];dsimp only;rw[ha,ints_map,C4 54,U5,U5]
def LS{n:Int}(h:(decide (2<=ds.length)&&ds.all (plc n))=false):kB n us i j (Rw k ds)=false:=by
 unfold kB;rw[cO];dsimp only;rw[<- Bool.and_assoc,h,A0d]
def rH{f g:TF}{a b:Bool}(h:f γ M=Z (a,M))(k:a=false->g γ M=Z (b,M)):gOr f g γ M=Z (a || b,M):=by
 unfold gOr;rw[h,A1];cases a with
 |true=>rfl
 |false=>exact k rfl
def eY{f:TF}{a:Bool}(h:f γ M=Z (a,M)):fX f γ M=Z (!a,M):=by
 unfold fX;rw[h,A1]
def aFA(h:fa γ M=Z ([.d (Rw k<|ns.map .int)],M))(o:ns.length<=60):BW fa γ M=Z (I ((qA ns).length:Nat),M):=by
 have:OI (ns.map .int) M=Z (I ((qA ns).length:Nat),M):=by
  unfold OI;rw[ints_map,A1,A7 50]
 unfold BW;rw[h,A1];cases k<;>exact this
abbrev gd2(x a b:Nat):TF:=gOr (gB<|fOp (eqX true) (fOp ixF (aD x)<|fC (.int 0))<|aD a)<|gOr (gB<|fOp (eqX true) (fOp ixF (aD x) xq2)<|aD b)<|gB<|fOp ltI (BW<|aC (aD x) aO)<|aP iE<|aC (aD x) aO
def aBm{x a b:Nat}(o:aD x γ M=Z (.d (Rw k<|ns.map .int),M))(ha:aD a γ M=Z (I i,M))(A:aD b γ M=Z (I j,M))(t:0<ns.length)(B:ns.length<=60):
 gd2 x a b γ M=Z (!((ns.getD 0 0==i)&&((ns.getD (ns.length-1) 0==j)&&decide (ns.length<=(qA ns).length))),M):=by
 have t1:gB (fOp (eqX true) (fOp ixF (aD x)<|fC (.int 0))<|aD a) γ M=Z (!(ns.getD 0 0==i),M):=cM<|bG (bG o rfl<|NV (cO ..) t) ha aGQ;have t2:=cM<|bG (bG o aKc<|WL (cO ..) t) A aGQ;have t3:=cM<|bG (aFA (aG o aR) B) (aZ (aG o aR) RA) UA;rw[A4]at t3;refine(rH t1 fun _=>rH t2 fun _=>t3).trans ?_;rw[Bool.not_and,Bool.not_and,show decide (((qA ns).length:Int)<(ns.length:Int))=decide (¬ns.length<=(qA ns).length)from decide_eq_decide.mpr 50,decide_not]
def xA{g:Bool}(h:((ns.getD 0 0==i)&&((ns.getD (ns.length-1) 0==j)&&decide (ns.length<=(qA ns).length)))=g):CO us i j ns=(g&&(adj ns).all fun p=>tk us p.1 p.2):=by
 subst h;unfold CO;rw[Bool.and_assoc,Bool.and_assoc]
abbrev BG(a:Nat)(b:Int)(c:Int)(d:PyData):Ga:=[some (.c a),some<|I b,some<|I c,some (.d d)]
def aBs{n:Int}(W:n<=8)(F:lK M w n ws)(H:Tw n us ws)(A:∀ds,bC x=Z ds->ds.length<=60):xB [.c w,I i,I j,.d x] M=Z (B<|kB n us i j x,M):=by
 cases C:iB x with
 |false=>
  rw[JU C];simp![xB,EN,wN,C]
 |true=>
  obtain⟨k,ds,rfl⟩:=OV C;have A:=A ds<|cO ..;obtain⟨fs,o,K,_,lt⟩:=F.obj
  have O:EJ (BG w i j<|Rw k ds) M=Z (.d (.list (ds.map fun d=>.bool (plc n d))),M):=by
   refine mE (QH rfl) (by rw[A4];omega) (LI (γ0:=[Z (.c w),Y]) CD.d (fun d=>.bool (plc n d)) ds fun d _=>?_) (by rw[A4];omega);refine aZ (aG ?_<|aG rfl aR)<|pC n d M;simp![uT,o,K]
  have P:gB (aP jB xq5) (BG w i j<|Rw k ds) M=Z (true,M):=cM (by rw[aZ (aG rfl aR) (wN (Rw k ds) M),C]);have Q:gB (fOp ltI (aP iE xq5)<|fC (.int 2)) (BG w i j<|Rw k ds) M=Z (decide ((ds.length:Int)<2),M):=cM<|bG (aZ (aG rfl aR) RA) rfl UA;have g3:=cM<|aZ (aG O aR) all_map';have G:=rH (eY P) fun _=>rH Q fun _=>eY g3;rw[show decide ((ds.length:Int)<2)=decide (¬2<=ds.length)from decide_eq_decide.mpr 50,decide_not,<- Bool.not_and,Bool.not_true,Bool.false_or]at G;cases t:(decide (2<=ds.length)&&ds.all (plc n))with
  |false=>
   rw[t]at G;rw[LS t];exact dF rfl<|fZ<|(eB G).trans rfl
  |true=>
   rw[t]at G;rw[B4]at t;obtain⟨D,ha⟩:=t;have D:=D7 D;obtain⟨ns,rfl,hn⟩:=vY ha;rw[A4]at D A;rw[JO D ha];have G2:=aBm (γ:=(BG w i j<|Rw k<|ns.map .int)) (M:=M) (x:=3) (a:=1) (b:=2) rfl rfl rfl 50 A;cases E:((ns.getD 0 0==i)&&((ns.getD (ns.length-1) 0==j)&&decide (ns.length<=(qA ns).length)))with
   |false=>
    rw[E]at G2;rw[xA E];exact dF rfl<|(aK<|(bU G).trans rfl).trans (fZ<|(eB G2).trans rfl)
   |true=>
    rw[E]at G2;rw[xA E,U5];have sl:fSl (aD 3) zP bF (BG w i j<|Rw k<|ns.map .int) M=Z (.d (Rw k<|(ns.map PyData.int).drop 1),M):=pP rfl rfl rfl JB
    have R:lW (aC (aD 3)<|aC (fSl (aD 3) zP bF) aO) (BG w i j<|Rw k<|ns.map .int) M=Z ((adj ns).map pT,M):=by
     unfold lW;rw[aG rfl (aG sl aR),A1,<- IP];cases k<;>rfl
    have al:=AA ns
    have S:DY (BG w i j<|Rw k<|ns.map .int) M=Z (.d (.list ((adj ns).map fun p=>.bool (tk us p.1 p.2))),M):=by
     refine mE R (by rw[A4];omega) ?_ (by rw[A4];omega);refine RX (Inv:=fun γ=>∃s1 s2,γ=[Z (.c w),s1,s2]) pT (fun p=>.bool (tk us p.1 p.2)) (adj ns) ?_ _ ⟨Y,Y,rfl⟩;rintro⟨a,b⟩ _ γ ⟨s1,s2,rfl⟩;refine⟨[Z (.c w),Z<|I a,Z<|I b],rfl,?_,_,_,rfl⟩;obtain⟨v,T,U⟩:=aNq F H
     have V:BA "Web" "tie" nY (aD 0) xq3 [Z (.c w),Z<|I a,Z<|I b] M=Z (v,M):=by
      unfold BA;rw[show aD 0 [Z (.c w),Z<|I a,Z<|I b] M=Z (.c w,M)from rfl,A1];rw[o,A1];rw[A7 lt];exact T
     exact bG V (NJ _ _) U
    exact dF rfl<|(aK<|(bU G).trans rfl).trans ((aK<|(bU G2).trans rfl).trans (gQ<|aZ (aG S aR) all_map'))
structure Itm(d:Ud):Prop where
 fit:Fit 9000 2 d
 lay:PyData.canLay0 d=true
theorem DD:∀{ds:T5},(∀d∈ds,Itm d)->PyData.canLayAll0 ds=true
 |[]=>51
 |d::ds=>fun h=>by
  show(PyData.canLay0 d&&PyData.canLayAll0 ds)=true;rw[(h d B9).lay,DD fun x k=>h x<|A9 _ k];rfl
theorem xR:∀{ds:T5},(∀d∈ds,Itm d)->PyData.depthAll ds<=2
 |[]=>fun _=>52
 |d::ds=>fun h=>by
  exact Nat.max_le.mpr ⟨(h d B9).fit.dp,xR fun x k=>h x<|A9 _ k⟩
def zB{ds:T5}(h:∀d∈ds,Itm d):SeqAt.shaped (.list ds)=true:=by
 unfold SeqAt.shaped;have k:PyData.canLay0 (.list ds)=true:=DD h
 have o:PyData.depth (.list ds)<=64:=by
  show PyData.depthAll ds+1<=64;have:=xR h;omega
 rw[k,C4 o];rfl
def WU(ds:T5):PyData.eqv (.list ds) (.list [])=ds.isEmpty:=by cases ds<;>rfl
def ne_nil{ds:T5}(h:∀d∈ds,Itm d):eqX true (.d (.list ds)) (.d (.list [])) M=Z (B (!ds.isEmpty),M):=by
 show(if (SeqAt.shaped (.list ds)&&SeqAt.shaped (.list []))=true then Z (B (!PyData.eqv (.list ds) (.list [])),M)else Y)=_;rw[zB h,show SeqAt.shaped (.list [])=true from rfl,WU];rfl
def eq_nil{ds:T5}(h:∀d∈ds,Itm d):eqX false (.d (.list ds)) (.d (.list [])) M=Z (B ds.isEmpty,M):=by
 show(if (SeqAt.shaped (.list ds)&&SeqAt.shaped (.list []))=true then Z (B<|PyData.eqv (.list ds) (.list []),M)else Y)=_;rw[zB h,show SeqAt.shaped (.list [])=true from rfl,WU];rfl
def zY(h:i.natAbs<2 ^ 200):Itm (.int i):=⟨⟨C4<|C5 h<|Nat.pow_le_pow_right 52 52,by show 2000<=9000;decide,by show 0<=2;decide⟩,rfl⟩
def aCc{ns:Ta}(h:∀i∈ns,0<=i/\i<1000):∀d∈ns.map PyData.int,Itm d:=fun d hd=>by
 obtain⟨i,hi,rfl⟩:=C7.mp hd;have:=h i hi;exact zY<|A0i (show i.natAbs<1000 by omega) 52
def aBT(ha:0<=a/\a<1000)(t:0<=b/\b<1000):Itm (pD (a,b)):=by
 have k:=zY (i:=a) 50;have o:=zY (i:=b) 50;refine⟨⟨?_,?_,?_⟩,?_⟩
 .show(oks (.int a)&&(oks (.int b)&&true))=true;rw[k.fit.ok,o.fit.ok];rfl
 .show 2000+2+(2000+2+0)+3<=9000;decide
 .show max 0 (max 0 0)+1<=2;decide
 .rfl
def GV(x:Ud)(M:Sto):mJ [.d x] M=Z (B<|iB x,M):=by cases x<;>rfl
def aKB(n:Int)(d:Ud):lw 0 (n-1) d=plc n d:=by
 cases d with
 |int i=>
  show(decide (0<=i)&&decide (i<=n-1))=(decide (0<=i)&&decide (i<n));rw[show decide (i<=n-1)=decide (i<n)from decide_eq_decide.mpr 50]
 |_=>rfl
def stp(p:Int×Int):Ud:=pD (mn p.1 p.2,mx p.1 p.2)
def aLS(h:0<ds.length):gP ds Y (Z (-1))=ds.take (ds.length-1):=by
 show(ds.drop 0).take ((if (-1:Int)<0 then((-1:Int)+(ds.length:Int)).toNat else min (-1:Int).toNat ds.length)-0)=_;rw[A7 52,List.drop_zero,Nat.sub_zero,show((-1:Int)+(ds.length:Int)).toNat=ds.length-1 by omega]
def aIE(h:0<ds.length):slF (.d (Rw k ds)) Y (Z (-1)) M=Z (.d (Rw k<|ds.take (ds.length-1)),M):=by
 rw[<- aLS h];cases k<;>rfl
theorem EL:∀ns:Ta,nE ((ns.map PyData.int).take ((ns.map PyData.int).length-1)) ((ns.map PyData.int).drop 1)=(adj ns).map pT
 |[]=>rfl
 |[_]=>rfl
 |a::b::r=>by
  have ih:=EL (b::r);show CD.d (.tuple [.int a,.int b])::nE (((b::r).map PyData.int).take (((b::r).map PyData.int).length-1)) (((b::r).map PyData.int).drop 1)=_;rw[ih];rfl
def aEf{x y:Nat}(ha:aD x γ M=Z (I a,M))(k:aD y γ M=Z (I b,M)):bI (aC (aP wY<|aC (aD x)<|aC (aD y) aO)<|aC (aP vN<|aC (aD x)<|aC (aD y) aO) aO) γ M=Z (.d (stp (a,b)),M):=CY (aZ (aG ha<|aG k aR) UO)<|aZ (aG ha<|aG k aR) SH
def VH(t:0<ns.length)(A:ns.length<=60):fA [.d (Rw k<|ns.map .int)] M=Z (.d (.list ((adj ns).map stp)),M):=by
 have s1:fSl (aD 0) bF (cR xq2) [Z (.d (Rw k<|ns.map .int))] M=Z (.d (Rw k<|(ns.map PyData.int).take ((ns.map PyData.int).length-1)),M):=pP rfl rfl rfl<|aIE 54;have s2:fSl (aD 0) zP bF [Z (.d (Rw k<|ns.map .int))] M=Z (.d (Rw k<|(ns.map PyData.int).drop 1),M):=pP rfl rfl rfl JB
 have o:lW (aC (fSl (aD 0) bF<|cR xq2) aFF) [Z (.d (Rw k<|ns.map .int))] M=Z ((adj ns).map pT,M):=by
  unfold lW;rw[aG s1 (aG s2 aR),A1,<- EL];cases k<;>rfl
 have al:=AA ns;refine dF rfl<|gQ<|mE o 54 ?_ 54;refine RX (Inv:=fun γ=>∃s1 s2,γ=[s1,s2]) pT stp (adj ns) ?_ _ ⟨Y,Y,rfl⟩;rintro⟨a,b⟩ _ γ ⟨s1,s2,rfl⟩;exact⟨[Z (I a),Z<|I b],rfl,aEf rfl rfl,_,_,rfl⟩
def fzW(us:Ua Tie):CD:=.f (us.map fun t=>(t.key,.int t.a))
def aCC:vK (aD 1) (aD 0) [Z (fzW us),Z (.d (stp (a,b)))] M=Z (B (!tk us a b),M):=by
 have o:keysOf ([PyData.int (mn a b),.int (mx a b)].map CD.d)=Z (kAB a b):=rfl
 have l:(lkP (us.map fun t=>(t.key,PyData.int t.a))<|kAB a b).isSome=tk us a b:=by
  unfold lkP tk;rw[Z2,A0u,List.find?_isSome,Y3];constructor
  .rintro⟨x,k,e⟩;obtain⟨t,ht,rfl⟩:=C7.mp k;exact⟨t.key,C7.mpr ⟨t,ht,rfl⟩,e⟩
  .rintro⟨x,k,e⟩;obtain⟨t,ht,rfl⟩:=C7.mp k;exact⟨_,C7.mpr ⟨t,ht,rfl⟩,e⟩
 show((keysOf<|[PyData.int (mn a b),.int (mx a b)].map CD.d).bind fun ks=>(Z<|(lkP (us.map fun t=>(t.key,PyData.int t.a)) ks).map CD.d).bind fun r=>Z (B (!r.isSome),M))=_;rw[o,A1,A1,Z2,l]
theorem AN:∀{ns:Ta}{p:Int×Int},p∈adj ns->p.1∈ns/\p.2∈ns
 |[],p=>fun h=>by cases h
 |[_],p=>fun h=>by cases h
 |a::b::r,p=>fun h=>by
  rcases B8.mp h with rfl|h
  .exact⟨B9,A9 _ B9⟩
  .have:=AN h;exact⟨A9 _ this.1,A9 _ this.2⟩
def aHd{ns:Ta}{n:Int}(o:n<=8)(h:∀i∈ns,0<=i/\i<n){p:Int×Int}(k:p∈adj ns):Itm (stp p):=by
 have t:=h _ (AN k).1;have A:=h _ (AN k).2;refine aBT ?_ ?_
 .unfold mn;split<;>omega
 .unfold mx;split<;>omega
theorem LD{k:Type}{p:k->Bool}:∀ds:Ua k,(ds.filter fun d=>!p d).isEmpty=ds.all p
 |[]=>rfl
 |d::ds=>by
  rw[Z8];cases h:p d with
  |true=>rw[List.filter_cons_of_neg 54,U5];exact LD ds
  |false=>rw[List.filter_cons_of_pos 54];rfl
abbrev rK(a:Ua Tie)(b:Int)(c:Int)(d:Int)(e:Ud):Ga:=[Z (fzW a),Z<|I b,Z<|I c,Z<|I d,Z (.d e)]
def KO{n:Int}(E:n<=8)(t:∀ds,bC x=Z ds->ds.length<=60/\∀d∈ds,Itm d):mP [fzW us,I n,I i,I j,.d x] M=Z (B<|kB n us i j x,M):=by
 have A:gB aGg (rK us n i j x) M=Z (iB x,M):=cM<|aZ (aG rfl aR)<|GV x M;cases C:iB x with
 |false=>
  rw[C]at A;rw[JU C];exact dF rfl<|fZ<|(eB (show gOr _ _ (rK us n i j x) M=Z (true,M)by unfold gOr;rw[eY A];rfl)).trans rfl
 |true=>
  rw[C]at A;obtain⟨k,ds,rfl⟩:=OV C;obtain⟨t,F⟩:=t ds<|cO ..;have H:gB (fOp ltI (aP iE xq4)<|fC (.int 2)) (rK us n i j<|Rw k ds) M=Z (decide ((ds.length:Int)<2),M):=cM<|bG (aZ (aG rfl aR) RA) rfl UA;have G:=rH (eY A) fun _=>H;rw[show decide ((ds.length:Int)<2)=decide (¬2<=ds.length)from decide_eq_decide.mpr 50,decide_not,Bool.not_true,Bool.false_or]at G;cases o:decide (2<=ds.length)with
  |false=>
   rw[o]at G;rw[LS 54];exact dF rfl<|fZ<|(eB G).trans rfl
  |true=>
   rw[o]at G
   have K:jG (rK us n i j<|Rw k ds) M=Z (.d (.list (ds.filter fun d=>!plc n d)),M):=by
    refine mE (QH rfl) 54 ?_<|E6 (List.length_filter_le ..) 50;have:=JE (i:=1) (c:=fX<|gB<|aP dZ<|aC (aD 1) aKH) (e:=aD 1) (M:=M) CD.d (fun d=>!plc n d) id ds [Z (I n),Y] 51 fun d _=>⟨?_,51⟩
    .rw[List.map_id]at this;exact this
    .refine eY<|cM ?_;have:=aZ (γ:=[Z (I n),Z (.d d)]) (fa:=aC (aD 1) aKH) rfl<|aPr d 0 (n-1) M;rw[aKB]at this;exact this
   have t1:gB (fOp (eqX true) jG<|dW aO) (rK us n i j<|Rw k ds) M=Z (!ds.all (plc n),M):=cM<|bG K rfl (by rw[ne_nil fun d hd=>F d (A1x.mp hd).1,LD]);cases ha:ds.all (plc n)with
   |false=>
    rw[ha]at t1;rw[LS 54];exact dF rfl<|(aK<|(bU G).trans rfl).trans (fZ<|(eB t1).trans rfl)
   |true=>
    rw[ha]at t1;have o:=D7 o;obtain⟨ns,rfl,hn⟩:=vY ha;rw[A4]at o t;rw[JO o ha];have G2:=aBm (γ:=(rK us n i j<|Rw k<|ns.map .int)) (M:=M) (x:=4) (a:=2) (b:=3) rfl rfl rfl 50 t;cases D:((ns.getD 0 0==i)&&((ns.getD (ns.length-1) 0==j)&&decide (ns.length<=(qA ns).length)))with
    |false=>
     rw[D]at G2;rw[xA D];exact dF rfl<|(aK<|(bU G).trans rfl).trans ((aK<|(bU t1).trans rfl).trans (fZ<|(eB G2).trans rfl))
    |true=>
     rw[D]at G2;rw[xA D,U5];have al:=AA ns
     have it:cA (aP fA xq4) (rK us n i j<|Rw k<|ns.map .int) M=Z ((adj ns).map fun p=>.d (stp p),M):=by
      rw[XE (aZ (aG rfl aR)<|VH 50 t) rfl,I0];rfl
     have O:pU (rK us n i j<|Rw k<|ns.map .int) M=Z (.d (.list (((adj ns).filter fun p=>!tk us p.1 p.2).map stp)),M):=by
      refine mE it 54 ?_ 54;exact JE (fun p=>.d (stp p)) (fun p=>!tk us p.1 p.2) stp (adj ns) [Z (fzW us),Y] 51 fun p _=>⟨cM aCC,51⟩
     refine dF rfl<|(aK<|(bU G).trans rfl).trans ((aK<|(bU t1).trans rfl).trans ((aK<|(bU G2).trans rfl).trans (gQ<|bG O rfl ?_)));rw[eq_nil fun d hd=>?_]
     .rw[List.isEmpty_map,LD]
     .obtain⟨p,P,rfl⟩:=C7.mp hd;exact aHd E hn (A1x.mp P).1
def aHN{k:Ta}{v:Int}(nd:k.Nodup):(step_dedup k v).Nodup:=by
 unfold step_dedup;split
 .exact nd
 .rename_i h;refine Z3.mpr ⟨nd,53,fun a ha b o e=>h<|Y3.mpr ⟨a,ha,?_⟩⟩;rw[A6.mp o]at e;rw[e];simp
theorem WX:∀(ns k:Ta),k.Nodup->(ns.foldl step_dedup k).Nodup
 |[]=>fun _ h=>h
 |n::ns=>fun k h=>WX ns _<|aHN h
theorem aBj{k:Type}{g:GF}{e:EF}{M:Sto}(f:k->CD)(h:k->Ud){Sh:Ga->Prop}:∀(xs:Ua k)(γ:Ga),Sh γ->(∀x∈xs,∀γ,Sh γ->∃γ1,Sh γ1/\g (f x) γ M=Z (γ1,M)/\e γ1 M=Z (.d (h x),M))->∃γ',Sh γ'/\lcG g dP e (xs.map f) γ M=Z (((xs.map h).map .d,γ'),M)
 |[]=>fun γ s _=>⟨γ,s,rfl⟩
 |x::xs=>fun γ s o=>by
  obtain⟨γ1,s1,t,A⟩:=o x B9 γ s;obtain⟨γ',B,ih⟩:=aBj f h xs γ1 s1 fun y C=>o y<|A9 _ C;refine⟨γ',B,?_⟩;rw[D4];unfold lcG;rw[t,A1];unfold dP;rw[A1];rw[A7 rfl,A,A1];unfold dP at ih;rw[ih];rfl
theorem aBv{t:Type}{g B:GF}{o:AF}{e:EF}{M:Sto}(A:t->CD)(H:t->T5){Sh:Ga->Prop}:∀(ys:Ua t)(γ:Ga),Sh γ->(∀y∈ys,∀γ,Sh γ->∃γ1 xs k,Sh k/\g (A y) γ M=Z (γ1,M)/\o γ1 M=Z (xs,M)/\lcG B dP e xs γ1 M=Z (((H y).map .d,k),M))->PP g dP o B dP e (ys.map A) γ M=Z ((ys.flatMap H).map .d,M)
 |[]=>fun γ s _=>rfl
 |y::ys=>fun γ s C=>by
  obtain⟨γ1,xs,k,s2,D,E,F⟩:=C y B9 γ s;have ih:=aBv A H ys k s2 fun z G=>C z<|A9 _ G;rw[D4];unfold PP;rw[D,A1];rw[show dP γ1 M=Z (true,M)from rfl,A1];rw[A7 rfl,E,A1];rw[F,A1];rw[ih,List.flatMap_cons,F7];rfl
def aFp{f f2:AF}{g:GF}(it:f γ M=Z (xs,M))(h:PP g dP f2 k dP e xs (tI cap γ) M=Z (ds.map .d,M))(o:ds.length<=900):aBZ cap f g dP f2 k dP e γ M=Z (.d (.list ds),M):=by
 unfold aBZ;rw[it,A1];rw[h,A1];rw[kI,A1,A7 (by have:=sz<|A8 _;omega)]
def aNF{n:Int}{i j:Ud}(h:ulk n i j=false):bS [I n,.d i,.d j] M=Z (.x ⟨"NoPlace",[]⟩,M):=by
 simp![bS,cW,WH,h]
def aNB{n:Int}{i j:Ud}(h:ulk n i j=true):bS [I n,.d i,.d j] M=Z (.v (.d .none),M):=by
 simp![bS,cW,WH,h]
theorem US:∀(n:Nat)(l:Ta),l.Nodup->(∀x∈l,0<=x/\x<n)->l.length<=n
 |0=>fun l _ h=>by
  cases l with
  |nil=>exact A8 _
  |cons a r=>have:=h a B9;omega
 |n+1=>fun l nd h=>by
  have ih:=US n (l.erase (n:Int)) (nd.erase _) fun x k=>by
   have hm:=(nd.mem_erase_iff).mp k;have:=h x hm.2;omega
  by_cases hm:(n:Int)∈l
  .rw[List.length_erase_of_mem hm]at ih;omega
  .rw[List.erase_of_not_mem hm]at ih;omega
def DJ(d:Ud):Ta:=match bC d with
 |some es=>(qZ es).getD []
 |none=>[]
def vR:DJ (Rw k<|ns.map .int)=ns:=by
 unfold DJ;rw[cO];dsimp only;rw[ints_map];rfl
def QZ{n:Int}(h:kB n us i j x=true):∃k ns,x=Rw k (ns.map .int)/\2<=ns.length/\(∀a∈ns,0<=a/\a<n)/\CO us i j ns=true:=by
 cases A:iB x with
 |false=>rw[JU A]at h;cases h
 |true=>
  obtain⟨k,ds,rfl⟩:=OV A;cases o:(decide (2<=ds.length)&&ds.all (plc n))with
  |false=>rw[LS o]at h;cases h
  |true=>
   rw[B4]at o;obtain⟨ns,rfl,hn⟩:=vY o.2;have t:=D7 o.1;rw[A4]at t;rw[JO t o.2]at h;exact⟨k,ns,rfl,t,hn,h⟩
theorem VT:∀(ns k:Ta){x:Int},x∈ns.foldl step_dedup k->x∈k\/x∈ns
 |[],k,x=>fun h=>.inl h
 |a::r,k,x=>fun h=>by
  rcases VT r (step_dedup k a) h with h|h
  .unfold step_dedup at h;split at h
   .exact .inl h
   .rcases C9.mp h with h|h
    .exact .inl h
    .rw[A6.mp h];exact .inr B9
  .exact .inr (A9 _ h)
def wQ{ns:Ta}(hn:∀a∈ns,0<=a/\a<n)(h:CO us i j ns=true):ns.length<=n:=by
 unfold CO at h;simp only[B4,U7]at h;refine E6 h.2.2.1 (US n (qA ns) (WX ns [] .nil) fun x k=>?_);rcases VT ns [] k with h|h
 .cases h
 .exact hn x h
theorem wM:∀ns:Ta,(adj ns).length<=ns.length-1
 |[]=>A8 _
 |[_]=>A8 _
 |a::b::r=>by
  have:=wM (b::r);show(adj (b::r)).length+1<=_;simp only[D3]at this ⊢;omega
abbrev kab(p:Int×Int):Ua Key:=kAB p.1 p.2
def fN(ds:T5):Ua (Int×Int):=ds.flatMap fun d=>adj<|DJ d
def apD(n:Int)(us:Ua Tie)(i j:Int)(x:Ud):Bool:=match bC x with
 |some ds=>ds.all (kB n us i j)&&(((nO<|(fN ds).map kab).length:Int)==((fN ds).length:Int))
 |none=>false
theorem xX{n:Nat}{us:Ua Tie}{i j:Int}(o:n<=8):∀{ds:T5},ds.all (kB n us i j)=true->(fN ds).length<=7*ds.length
 |[]=>fun _=>A8 _
 |d::ds=>fun h=>by
  rw[Z8,B4]at h;have ih:=xX o h.2;obtain⟨k,ns,rfl,A,hn,t⟩:=QZ h.1;have B:=wQ hn t;have C:=wM ns;unfold fN at ih ⊢;rw[List.flatMap_cons,C1,vR,D3];omega
theorem PK:∀ps:Ua (Int×Int),CG (ps.map stp)=Z (ps.map kab)
 |[]=>rfl
 |p::ps=>by
  show(aHX<|stp p).bind _=_;rw[PK ps];rfl
def QF{ps:Ua (Int×Int)}(h:fa γ M=Z ([.d (.list (ps.map stp))],M))(k:ps.length<=70):xQ fa γ M=Z (I ((nO<|ps.map kab).length:Nat),M):=by
 unfold xQ;rw[h,A1];show(CG<|ps.map stp).bind _=_;rw[PK,A1,A7 54]
structure TT(x:Ud):Prop where
 it:∀ds,bC x=Z ds->ds.length<=9/\∀d∈ds,∀es,bC d=Z es->es.length<=60/\∀e∈es,Itm e
def aLA{b:SFX}{x:CD}(h:xs.length=ps)(k:b (xs.map Z++List.replicate (N-xs.length) Y) M=Z (.o (.rt x),M')):fnX ps N b xs M=Z (.v x,M'):=by simp only[fnX,A7 h,k,A1]
def aNg{b:SFX}{e:Exc}(h:xs.length=ps)(k:b (xs.map Z++List.replicate (N-xs.length) Y) M=Z (.xc γ e,M')):fnX ps N b xs M=Z (.x e,M'):=by simp only[fnX,A7 h,k,A1]
def aHH{f g:SFX}(h:f γ M=Z (.o (.nx γ'),M')):zA f g γ M=g γ' M':=by simp only[zA,h,A1]
def aIS{f g:SFX}{e:Exc}(h:f γ M=Z (.xc γ' e,M')):zA f g γ M=Z (.xc γ' e,M'):=by simp only[zA,h,A1]
def aHy{F:FX}{M1 M2:Sto}{v:CD}(h:fa γ M=Z (xs,M1))(k:F xs M1=Z (.v v,M2)):pF (xC F<|liA fa) γ M=Z (.o (.nx γ),M2):=by simp only[pF,xC,WY,liA,h,k,A1]
def UR{F:FX}{M1 M2:Sto}{e:Exc}(h:fa γ M=Z (xs,M1))(k:F xs M1=Z (.x e,M2)):pF (xC F<|liA fa) γ M=Z (.xc γ e,M2):=by simp only[pF,xC,WY,liA,h,k,A1]
def aJC{f:SF}{o:Out}(h:f γ M=Z (o,M')):liS f γ M=Z (.o o,M'):=by simp only[liS,h,A1]
abbrev LM(a:Nat)(b:Int)(c:Int)(d:Ud):Ga:=[Z (.c a),Z<|I b,Z<|I c,Z (.d d),Y]
abbrev ecIIn(a:Nat)(b:Int)(c:Int):Ga:=[Z (.c a),Z<|I b,Z<|I c,Y]
abbrev ecIIdd(a:Nat)(b:Int)(c:Int)(d:Ud)(e:Ud):Ga:=[Z (.c a),Z<|I b,Z<|I c,Z (.d d),Z (.d e)]
def JI(K:n<=8)(F:lK M w n ws)(O:Tw n us ws)(tt:TT x)(P:ulk n (.int i) (.int j)=true):bM [.c w,I i,I j,.d x] M=Z (.v (B<|apD n us i j x),M):=by
 obtain⟨fs,o,Q,_,_⟩:=F.obj;have fa:aC aDF xq3 (LM w i j x) M=Z ([I n,I i,I j],M):=aG (by simp![uT,o,Q])<|aG rfl<|aG rfl aR;refine aLA rfl<|(aHH<|aHy fa<|aNB P).trans (aJC ?_);have A:gB (aP jB xq5) (LM w i j x) M=Z (iB x,M):=cM<|aZ (aG rfl aR)<|wN x M;cases C:iB x with
 |false=>
  have:bC x=Y:=by cases x<;>first|rfl|cases C
  rw[C]at A;rw[show apD n us i j x=false by unfold apD;rw[this]];exact fZ<|(eB (by unfold gOr;rw[eY A];rfl)).trans rfl
 |true=>
  rw[C]at A;obtain⟨k,ds,rfl⟩:=OV C;obtain⟨hl,R⟩:=tt.it ds<|cO ..
  have S:kR (LM w i j<|Rw k ds) M=Z (.d (.list (ds.map fun d=>.bool (kB n us i j d))),M):=by
   refine mE (QH rfl) 54 (LI CD.d (fun d=>.bool (kB n us i j d)) ds fun d hd=>?_) 54;exact aZ (aG rfl<|aG rfl<|aG rfl<|aG rfl aR) (aBs 50 F O fun es T=>(R d hd es T).1)
  have g3:=cM<|aZ (aG S aR) all_map';have G:=rH (eY A) fun _=>eY g3;have U:apD n us i j (Rw k ds)=(ds.all (kB n us i j)&&(((nO<|(fN ds).map kab).length:Int)==((fN ds).length:Int))):=by unfold apD;rw[cO]
  rw[U];cases ha:ds.all (kB n us i j)with
  |false=>
   rw[ha]at G;exact fZ<|(eB G).trans rfl
  |true=>
   rw[ha]at G;have sl:=xX K ha
   have V:kT (LM w i j<|Rw k ds) M=Z (.d (.list ((fN ds).map stp)),M):=by
    refine aFp (QH rfl) ?_ 54
    have:=aBv (g:=hName 0) CD.d (fun d=>(adj<|DJ d).map stp) (Sh:=fun γ=>∃D s1 s2,γ=[D,s1,s2]) ds [Y,Y,Y] ⟨Y,Y,Y,rfl⟩ fun d hd γ ⟨D,s1,s2,e⟩=>by
     subst e;obtain⟨t,ns,rfl,h2,hn,W⟩:=QZ<|D5.mp ha d hd;have E:fSl (aD 0) zP bF [Z (.d (Rw t<|ns.map .int)),s1,s2] M=Z (.d (Rw t<|(ns.map PyData.int).drop 1),M):=pP rfl rfl rfl JB
     have X:lW (aC (aD 0) aFF) [Z (.d (Rw t<|ns.map .int)),s1,s2] M=Z ((adj ns).map pT,M):=by
      unfold lW;rw[aG rfl (aG E aR),A1,<- IP];cases t<;>rfl
     obtain⟨a3,⟨t0,t1,t2,rfl⟩,l2⟩:=aBj (g:=gU 2 xq7) (e:=bI aGy) (M:=M) pT stp (Sh:=fun γ=>∃D s1 s2,γ=[D,s1,s2]) (adj ns) [Z (.d (Rw t<|ns.map .int)),s1,s2] ⟨_,_,_,rfl⟩ fun p hp γ ⟨a0,H,a2,e⟩=>by
      subst e;exact⟨[a0,Z<|I p.1,Z<|I p.2],⟨_,_,_,rfl⟩,rfl,aEf rfl rfl⟩
     exact⟨_,_,_,⟨t0,t1,t2,rfl⟩,rfl,X,by rw[vR];exact l2⟩
    unfold fN;rw[List.map_flatMap];exact this
   have H:=bH (i:=4) V;refine(aK<|(bU G).trans rfl).trans ((aK H).trans (gQ<|bG (QF rfl 50) (aZ (aG rfl aR)<|AQ rfl M) ?_));rw[A4];exact LR
def aMp{g:GF}{b:SF}{x:CD}{M1 M2:Sto}{y:CD}(h:g x γ M=Z (γ1,M1))(k:b γ1 M1=Z (.rt y,M2)):jW g b (x::xs) γ M=Z (.rt y,M2):=by
 conv=>lhs;unfold jW
 rw[h,A1];rw[k];rfl
def JR{xs:T5}(t:xs.length+ys.length<=1000):dU (.d (.list xs)) (.d (.list ys)) M=Z (.d (.list (xs++ys)),M):=by
 have c:aEs (.d (.list xs)) (.d (.list ys)) M=Z (.d (.list (xs++ys)),M):=by
  have k:zK M (.d (.list xs))=Z (xs.map .d):=rfl;have o:zK M (.d (.list ys))=Z (ys.map .d):=rfl;unfold aEs;rw[k,A1,o,A1,<- F7,kI,A1,A7<|sz 54]
 show CH aHn (CH aEs<|CH UU aHr) (.d (.list xs)) (.d (.list ys)) M=_;have a:aHn (.d (.list xs)) (.d (.list ys)) M=Y:=rfl;simp only[CH,a,c]
abbrev GA(us:Ua Tie)(n i j:Int)(x:Ud)(ps:Ua (Int×Int))(g:Th):Ga:=[Z (fzW us),Z<|I n,Z<|I i,Z<|I j,Z (.d x),Z (.d (.list (ps.map stp))),g]
def MQ{d:Ud}{ps:Ua (Int×Int)}(k:n<=8)(hd:∀es,bC d=Z es->es.length<=60/\∀e∈es,Itm e):fX aOh (GA us n i j x ps<|Z (.d d)) M=Z (!kB n us i j d,M):=
 eY (cM<|aZ (aG rfl<|aG rfl<|aG rfl<|aG rfl<|aG rfl aR)<|KO 50 hd)
def QB{d:Ud}{ps:Ua (Int×Int)}(A:n<=8)(hd:∀es,bC d=Z es->es.length<=60/\∀e∈es,Itm e)(o:kB n us i j d=true)(B:ps.length<=500):eI (GA us n i j x ps<|Z (.d d)) M=Z (.nx (GA us n i j x (ps++adj (DJ d))<|Z (.d d)),M)/\(adj<|DJ d).length<=7:=by
 have t:=MQ (us:=us) (i:=i) (j:=j) (x:=x) (ps:=ps) (M:=M) A hd;rw[o]at t;obtain⟨k,ns,rfl,C,hn,O⟩:=QZ o;have D:=wQ hn O;have E:=wM ns;have st:=VH (k:=k) (ns:=ns) (M:=M) 50 50;rw[vR];refine⟨(aK<|(bU t).trans rfl).trans ?_,50⟩;have:=bH (i:=5) (γ:=GA us n i j x ps<|Z (.d (Rw k<|ns.map .int)))<|bG (f:=aD 5) (g:=aP fA PR) rfl (aZ (aG rfl aR) st)<|JR 54;rw[<- F7]at this;exact this
theorem QM{us:Ua Tie}{n:Nat}{i j:Int}{x:Ud}{M:Sto}(o:n<=8):∀(ds:T5)(ps:Ua (Int×Int))(g:Th),(∀d∈ds,∀es,bC d=Z es->es.length<=60/\∀e∈es,Itm e)->ds.all (kB n us i j)=true->ps.length+7*ds.length<=500->
 ∃k,jW (hName 6) eI (ds.map .d) (GA us n i j x ps g) M=Z (.nx (GA us n i j x (ps++fN ds) k),M)
 |[]=>fun ps g _ _ _=>⟨g,by unfold fN;rw[List.flatMap_nil,L6];rfl⟩
 |d::ds=>fun ps g t ha A=>by
  rw[Z8,B4]at ha;rw[D3]at A;obtain⟨B,C⟩:=QB (ps:=ps) o (t d B9) ha.1 50;obtain⟨k,ih⟩:=QM o ds (ps++adj (DJ d)) (Z (.d d)) (fun d hd=>t d<|A9 _ hd) ha.2 54;refine⟨k,?_⟩;rw[D4,iZ rfl B,ih];unfold fN;rw[List.flatMap_cons,Y4]
theorem VA{us:Ua Tie}{n:Nat}{i j:Int}{x:Ud}{M:Sto}(k:n<=8):∀(ds:T5)(ps:Ua (Int×Int))(g:Th),(∀d∈ds,∀es,bC d=Z es->es.length<=60/\∀e∈es,Itm e)->ds.all (kB n us i j)=false->ps.length+7*ds.length<=500->
 jW (hName 6) eI (ds.map .d) (GA us n i j x ps g) M=Z (.rt (B false),M)
 |[]=>fun ps g _ h _=>by cases h
 |d::ds=>fun ps g o ha A=>by
  rw[D3]at A;cases hd:kB n us i j d with
  |false=>
   have t:=MQ (us:=us) (i:=i) (j:=j) (x:=x) (ps:=ps) (M:=M) k<|o d B9;rw[hd]at t;exact aMp rfl<|fZ<|(eB t).trans rfl
  |true=>
   rw[Z8,hd,U5]at ha;obtain⟨C,D⟩:=QB (ps:=ps) k (o d B9) hd 50;rw[D4,iZ rfl C];exact VA k ds _ _ (fun d hd=>o d<|A9 _ hd) ha 54
abbrev QV(a:Ua Tie)(b:Int)(c:Int)(d:Int)(e:Ud):Ga:=[Z (fzW a),Z<|I b,Z<|I c,Z<|I d,Z (.d e),Y,Y]
def OR(t:n<=8)(tt:TT x):jJ [fzW us,I n,I i,I j,.d x] M=Z (B<|apD n us i j x,M):=by
 have D:gB aGg (QV us n i j x) M=Z (iB x,M):=cM<|aZ (aG rfl aR)<|GV x M;have G:=eY D;cases o:iB x with
 |false=>
  have:bC x=Y:=by cases x<;>first|rfl|cases o
  rw[o]at G;rw[show apD n us i j x=false by unfold apD;rw[this]];exact dF rfl<|fZ<|(eB G).trans rfl
 |true=>
  rw[o]at G;obtain⟨k,ds,rfl⟩:=OV o;obtain⟨H,A⟩:=tt.it ds<|cO ..;have E:apD n us i j (Rw k ds)=(ds.all (kB n us i j)&&(((nO<|(fN ds).map kab).length:Int)==((fN ds).length:Int))):=by unfold apD;rw[cO]
  rw[E];have C:aW (dW aO) (hName 5) (QV us n i j<|Rw k ds) M=Z (.nx (GA us n i j (Rw k ds) [] Y),M):=rfl;have it:cA (aD 4) (GA us n i j (Rw k ds) [] Y) M=Z (ds.map .d,M):=QH rfl;cases ha:ds.all (kB n us i j)with
  |false=>exact dF rfl<|(aK<|(bU G).trans rfl).trans ((aK C).trans (fZ<|iG it<|VA t ds [] Y A ha 54))
  |true=>
   have sl:=xX t ha;obtain⟨K,F⟩:=QM t ds [] Y A ha 54;refine dF rfl<|(aK<|(bU G).trans rfl).trans ((aK C).trans ((aK<|iG it F).trans (gQ<|bG (QF (ps:=fN ds) rfl 50) (aZ (aG rfl aR)<|AQ rfl M) ?_)));rw[A4];exact LR
theorem WW:∀(ns k:Ta),(k++ns).Nodup->ns.foldl step_dedup k=k++ns
 |[]=>fun k _=>53
 |n::ns=>fun k h=>by
  have h':(k++[n]++ns).Nodup:=54
  have hn:=fun hm=>by
   have:=(Z3.mp h).2.2 n hm n B9;exact this rfl
  have st:step_dedup k n=k++[n]:=by
   unfold step_dedup
   rw[B7 fun q=>by
    obtain⟨x,o,e⟩:=Y3.mp q;have:x=n:=54
    exact hn (this▸o)]
  rw[List.foldl_cons,st,WW ns (k++[n]) h'];simp
def mZ{o:Ua Key×CD}{r:Ua (Ua Key×CD)}:lkC (o::r) k=if o.1=k then Z o.2 else lkC r k:=by
 unfold lkC;by_cases h:o.1=k
 .rw[A7 h,List.find?_cons_of_pos 54];rfl
 .rw[B7 h,List.find?_cons_of_neg 54]
theorem WM{k t:Ua Key}{v:CD}:∀kvs:Ua (Ua Key×CD),lkC (kvs.map fun kv=>if kv.1=k then(kv.1,v)else kv) t=if t=k then(lkC kvs k).map fun _=>v else lkC kvs t
 |[]=>by split<;>rfl
 |kv::r=>by
  rw[D4,mZ,WM r,mZ,mZ];by_cases h:kv.1=k
  .rw[A7 h];by_cases o:t=k
   .subst o;rw[A7 h,A7 rfl,A7 h];rfl
   .rw[B7 o,B7 (fun e:kv.1=t=>o<|e.symm.trans h)];rw[B7 o,B7 (fun e:kv.1=t=>o<|e.symm.trans h)]
  .rw[B7 h];by_cases o:t=k
   .subst o;rw[B7 h,A7 rfl,A7 rfl,B7 h]
   .rw[B7 o,B7 o]
theorem XU{k o:Ua Key}{v:CD}:∀kvs:Ua (Ua Key×CD),(∀kv∈kvs,kv.1≠k)->lkC (kvs++[(k,v)]) o=if o=k then Z v else lkC kvs o
 |[]=>fun _=>by
  show lkC [(k,v)] o=_;rw[mZ];by_cases h:o=k
  .rw[A7 h.symm,A7 h]
  .rw[B7 (S7 h),B7 h]
 |kv::r=>fun hn=>by
  rw[List.cons_append,mZ,XU r fun x t=>hn x<|A9 _ t,mZ];by_cases h:o=k
  .subst h;rw[B7 (hn kv B9),A7 rfl,A7 rfl]
  .rw[B7 h,B7 h]
def AB{k t:Ua Key}{v:CD}{kvs:Ua (Ua Key×CD)}:lkC (putD kvs k v) t=if t=k then Z v else lkC kvs t:=by
 unfold putD;by_cases c:(kvs.any fun o=>decide (o.1=k))=true
 .rw[A7 c,WM];by_cases h:t=k
  .rw[A7 h,A7 h];obtain⟨o,hm,e⟩:=Y3.mp c
   have:lkC kvs k≠Y:=fun z=>by
    unfold lkC at z;rw[Option.map_eq_none_iff,A0b]at z;exact z o hm e
   cases q:lkC kvs k with
   |none=>exact absurd q this
   |some x=>rfl
  .rw[B7 h,B7 h]
 .rw[B7 c];exact XU kvs fun o hm e=>c<|Y3.mpr ⟨o,hm,C4 e⟩
def AR{k:Ua Key}{v:CD}{kvs:Ua (Ua Key×CD)}:(putD kvs k v).length<=kvs.length+1:=by
 unfold putD;split
 .rw[A4];omega
 .rw[C1,D8];omega
def aDQ{x:Int}(h:kAB x y=kAB a b):(x=a/\y=b)\/(x=b/\y=a):=by
 obtain⟨k,o⟩:=XR h;unfold mn at k;unfold mx at o;split at k<;>split at k<;>split at o<;>split at o<;>omega
def aFi:kAB a b=kAB b a:=by
 unfold kAB mn mx;by_cases h:a<b
 .rw[B7 50,A7 50,A7 h,B7 50]
 .by_cases k:b<a
  .rw[A7 k,B7 50,B7 h,A7 50]
  .have:a=b:=50
   subst this;rfl
structure RI(kvs:Ua (Ua Key×CD))(us:Ua Tie)(U:Ua (Ua Key)):Prop where
 v:∀k x,lkC kvs k=Z x->∃v,x=I v
 t:∀a b v,lkC kvs [.inl a,.inl b]=Z (I v)->0<v->kAB a b∈us.map Tie.key/\kAB a b∉U
def RI.put{v:Int}(h:RI kvs us U)(A:0<v->kAB a b∈us.map Tie.key/\kAB a b∉U):RI (putD kvs [.inl a,.inl b]<|I v) us U:=by
 refine⟨fun k x e=>?_,fun x y w e o=>?_⟩
 .rw[AB]at e;split at e
  .cases e;exact⟨v,rfl⟩
  .exact h.v k x e
 .rw[AB]at e;split at e
  .rename_i q;obtain⟨rfl,rfl⟩:=XR q;cases e;exact A o
  .exact h.t x y w e o
def RI.use(h:RI kvs us U):RI (putD (putD kvs [.inl a,.inl b]<|I 0) [.inl b,.inl a]<|I 0) us (U++[kAB a b]):=by
 have o:RI (putD (putD kvs [.inl a,.inl b]<|I 0) [.inl b,.inl a]<|I 0) us U:=(h.put fun z=>absurd z 52).put fun z=>absurd z 52;refine⟨o.v,fun x y w e k=>?_⟩;have:=o.t x y w e k;refine⟨this.1,fun hm=>?_⟩;rcases C9.mp hm with hm|hm
 .exact this.2 hm
 .rw[AB,AB]at e;rcases aDQ (A6.mp hm)with⟨rfl,rfl⟩|⟨rfl,rfl⟩
  .split at e
   .cases e;exact absurd k 52
   .rw[A7 rfl]at e;cases e;exact absurd k 52
  .rw[A7 rfl]at e;cases e;exact absurd k 52
structure Rm(M:Sto)(d:Nat)(us:Ua Tie)(U:Ua (Ua Key))(q:Nat):Prop where
 ex:∃kvs,M[d]?=Z (.dt kvs)/\RI kvs us U/\kvs.length<=q
def Rm.le{r:Nat}(h:Rm M d us U q)(l:q<=r):Rm M d us U r:=⟨let⟨kvs,a,b,e⟩:=h.ex;⟨kvs,a,b,E6 e l⟩⟩
def Rm.lt(h:Rm M d us U q):d<M.length:=let⟨_,a,_⟩:=h.ex;(B3.mp a).1
def Rm.same(h:Rm M d us U q)(e:M'[d]?=M[d]?):Rm M' d us U q:=⟨let⟨kvs,a,b⟩:=h.ex;⟨kvs,e.trans a,b⟩⟩
def kt_at(ha:f γ M=Z (I a,M))(k:g γ M=Z (I b,M)):gT (aC f<|aC g aO) γ M=Z (.inr [.inl a,.inl b],M):=by
 unfold gT;rw[aG ha (aG k aR),A1];show(Z [Sum.inl a,Sum.inl b]:Ub (Ua Key)).bind _=_;rw[A1];exact A7<|sz (show 2<=1000 by decide)
def wF{fo fv:EF}{k:KF}{v:Int}(o:fv γ M=Z (I v,M))(t:fo γ M=Z (.c d,M))(A:k γ M=Z (.inr [.inl a,.inl b],M))(hd:M[d]?=Z (.dt kvs))(C:kvs.length<=900):gC fo k fv γ M=Z (.nx γ,M.set d (.dt (putD kvs [.inl a,.inl b]<|I v))):=by
 have B:qD M (.c d) (.inr [.inl a,.inl b]) (I v)=Z (M.set d (.dt (putD kvs [.inl a,.inl b]<|I v))):=by
  simp only[qD,hd,A7 (show kvs.length<sizeLine by rw[J9];omega)]
 simp only[gC,o,t,A,B,A1]
def aMP{t:Tie}(nd:(us.map Tie.key).Nodup)(ht:t∈us):lkP (us.map fun t=>(t.key,PyData.int t.a)) t.key=Z (.int t.a):=by
 have h:=aCI nd ht;unfold lkC kvW at h;unfold lkP;rw[A0s]at h ⊢;cases q:us.find? ((fun k:Ua Key×CD=>decide (k.1=t.key)) ∘ fun t=>(t.key,I t.a))with
 |none=>rw[q]at h;cases h
 |some s=>
  rw[q]at h;have o:us.find? ((fun k:Ua Key×Ud=>decide (k.1=t.key)) ∘ fun t=>(t.key,PyData.int t.a))=Z s:=q;rw[o];have e:=F0 h;show Z (PyData.int s.a)=_;rw[CD.d.inj e]
abbrev GR(us:Ua Tie)(d:Nat)(gi gj:Th):Ga:=[Z (fzW us),Z (.c d),gi,gj]
def aKV(h:i<j):kAB i j=[.inl i,.inl j]:=by
 unfold kAB mn mx;rw[B7 50,A7 50]
def aAx{t:Tie}{n:Int}{gi gj:Th}(ok:OkW n us)(ht:t∈us)(h:Rm M d us [] q)(O:q<=500):∃M',kH (GR us d (Z<|I t.i)<|Z<|I t.j) M=Z (.nx (GR us d (Z<|I t.i)<|Z<|I t.j),M')/\Rm M' d us [] (q+2)/\Oth d M M':=by
 obtain⟨kvs,hd,G,P⟩:=h.ex;have dl:=h.lt;obtain⟨Q,H,R,S,T,U⟩:=ok.1 t ht
 have D:∀M,qL (aD 0) (gT ZK) (GR us d (Z<|I t.i)<|Z<|I t.j) M=Z (I t.a,M):=fun M=>by
  unfold qL;rw[show aD 0 (GR us d (Z<|I t.i)<|Z<|I t.j) M=Z (fzW us,M)from rfl,A1];rw[kt_at rfl rfl,A1];show(Z<|(lkP (us.map fun t=>(t.key,PyData.int t.a)) t.key).map CD.d).bind _=_;rw[aMP ok.2 ht];rfl
 have E:kAB t.i t.j∈us.map Tie.key:=by rw[aKV H];exact C7.mpr ⟨t,ht,rfl⟩
 have s1:=wF (fo:=aD 1) (D M) rfl (kt_at (f:=aD 2) (g:=aD 3) rfl rfl) hd 50;have A:RI (putD kvs [.inl t.i,.inl t.j]<|I t.a) us []:=G.put fun _=>⟨E,fun z=>by cases z⟩;have K:=AR (k:=[.inl t.i,.inl t.j]) (v:=I t.a) (kvs:=kvs);generalize putD kvs [.inl t.i,.inl t.j] (I t.a)=o at s1 A K;have B:(M.set d (.dt o))[d]?=Z (.dt o):=E2 dl;have s2:=wF (fo:=aD 1) (D<|M.set d (.dt o)) rfl (kt_at (f:=aD 3) (g:=aD 2) rfl rfl) B 50;have C:RI (putD o [.inl t.j,.inl t.i]<|I t.a) us []:=A.put fun _=>⟨by rw[aFi];exact E,fun z=>by cases z⟩;have V:=AR (k:=[.inl t.j,.inl t.i]) (v:=I t.a) (kvs:=o);refine⟨_,(aK s1).trans s2,⟨_,E2 54,C,50⟩,by rw[U2,U2],fun k F=>by rw[E1 (S7 F),E1<|S7 F]⟩
theorem GH{us:Ua Tie}{d:Nat}{n:Int}(ok:OkW n us):∀(ts:Ua Tie)(gi gj:Th)(M:Sto)(q:Nat),(∀t∈ts,t∈us)->Rm M d us [] q->q+2*ts.length<=400->∃o A M',jW (gU 2<|cG (hName 2)<|cG (hName 3) pH) kH (ts.map fun t=>aGr t.key) (GR us d gi gj) M=Z (.nx (GR us d o A),M')/\Rm M' d us [] (q+2*ts.length)/\Oth d M M'
 |[]=>fun gi gj M q _ h _=>⟨gi,gj,M,rfl,h,rfl,fun _ _=>rfl⟩
 |t::ts=>fun gi gj M q ht h E=>by
  rw[D3]at E;obtain⟨M1,F,G,B⟩:=aAx (gi:=gi) (gj:=gj) ok (ht t B9) h 50;obtain⟨o,A,M2,H,K,C⟩:=GH ok ts (Z<|I t.i) (Z<|I t.j) M1 (q+2) (fun s hs=>ht s<|A9 _ hs) G 50;refine⟨o,A,M2,?_,K.le 54,by rw[C.len,B.len],fun k D=>by rw[C.at_ k D,B.at_ k D]⟩;rw[D4,iZ rfl F];exact H
def aHx{n:Int}(ok:OkW n us)(D:us.length<=30):∃M',jU [fzW us] M=Z (.c M.length,M')/\Rm M' M.length us [] 60/\Ex M.length M M'/\M'.length=M.length+1:=by
 have A:aW rO (hName 1) [Z (fzW us),Y,Y,Y] M=Z (.nx (GR us M.length Y Y),M++[.dt []]):=bH rfl
 have it:VF (aD 0) (GR us M.length Y Y) (M++[.dt []])=Z (us.map fun t=>aGr t.key,M++[.dt []]):=by
  show Z ((us.map fun t=>(t.key,PyData.int t.a)).map fun B=>aGr B.1,M++[.dt []])=_;rw[I0];rfl
 obtain⟨E,F,M',e,h,o⟩:=GH ok us Y Y (M++[.dt []]) 0 (fun _ h=>h) ⟨[],gG,⟨(fun k x h=>nomatch h),(fun a b v h=>nomatch h)⟩,A8 _⟩ 50;have ln:M'.length=M.length+1:=by rw[o.len,C1];rfl
 refine⟨M',dF rfl<|(aK A).trans ((aK<|iG it e).trans rfl),h.le 50,⟨50,fun k C hn=>?_⟩,ln⟩;rw[o.at_ k hn,C8 C]
abbrev LB:=Ua (Int×To)
def vB:To->CD
 |none=>.d .none
 |some q=>I q
def kvB(L:LB):Ua (Key×CD):=L.map fun p=>(.inl p.1,vB p.2)
noncomputable abbrev fs(L:LB):Ta:=L.map (·.1)
structure Bf(n:Nat)(Ps:Int->Int->Prop)(i:Int)(L:LB):Prop where
 nd:(fs L).Nodup
 rg:∀p∈L,0<=p.1/\p.1<n
 hd:L[0]?=Z (i,Y)
 pr:∀k w q,L[k]?=Z (w,q)->0<k->∃u m,q=Z u/\m<k/\(∃q',L[m]?=Z (u,q'))/\Ps u w
def Bf.len{L:LB}(h:Bf n Ps i L):L.length<=n:=by
 have:=US n (fs L) h.nd fun x k=>by
  obtain⟨p,o,rfl⟩:=C7.mp k;exact h.rg p o
 rwa [A4]at this
def Bf.add{w:Int}{q':To}{L:LB}(h:Bf n Ps i L)(o:0<=w/\w<n)(hn:w∉fs L)(hm:L[m]?=Z (u,q'))(ps:Ps u w):Bf n Ps i (L++[(w,Z u)]):=by
 have t:=(B3.mp hm).1;refine⟨?_,fun p hp=>?_,?_,fun k x q e A=>?_⟩
 .unfold fs;rw[F7,A2n];exact Z3.mpr ⟨h.nd,53,fun a ha b B e=>by rw[A6.mp B]at e;exact hn 54⟩
 .rcases C9.mp hp with hp|hp
  .exact h.rg p hp
  .rw[A6.mp hp];exact o
 .rw[C8 50];exact h.hd
 .by_cases c:k<L.length
  .rw[C8 c]at e;obtain⟨C,D,a,b,⟨E,d⟩,f⟩:=h.pr k x q e A;exact⟨C,D,a,b,⟨E,by rw[C8 50];exact d⟩,f⟩
  .rw[Y0 50]at e
   have:k-L.length=0:=by
    cases z:k-L.length with
    |zero=>rfl
    |succ y=>rw[z]at e;cases e
   rw[this]at e;cases e;exact⟨u,m,rfl,50,⟨q',by rw[C8 t];exact hm⟩,ps⟩
def aJn{L:LB}{k:Nat}{w:Int}{q:To}(nd:(fs L).Nodup)(h:L[k]?=Z (w,q)):lkC (kvB L) (Sum.inl w:Key)=Z (vB q):=by
 unfold lkC kvB;rw[A0s]
 have:L.find? ((fun t:Key×CD=>decide (t.1=Sum.inl w)) ∘ fun p=>(Sum.inl p.1,vB p.2))=Z (w,q):=by
  induction L generalizing k with
  |nil=>cases h
  |cons p L ih=>
   have o:=U1.mp nd;cases k with
   |zero=>
    cases h;rw[List.find?_cons_of_pos 53]
   |succ k=>
    have ne:p.1≠w:=fun e=>o.1<|C7.mpr ⟨(w,q),O6 h,e.symm⟩;rw[List.find?_cons_of_neg 54];exact ih o.2 h
 rw[this];rfl
def aHG{L:LB}{w:Int}(h:w∉fs L):lkC (kvB L) (Sum.inl w:Key)=Y:=by
 unfold lkC kvB;have q:L.find? ((fun k:Key×CD=>decide (k.1=Sum.inl w)) ∘ fun p=>(Sum.inl p.1,vB p.2))=Y:=A0b.mpr fun p o e=>h<|C7.mpr ⟨p,o,Sum.inl.inj<|D7 e⟩;rw[A0s,q];rfl
def aCm{L:LB}{w:Int}:(lkC (kvB L) (Sum.inl w:Key)).isSome=decide (w∈fs L):=by
 by_cases h:w∈fs L
 .obtain⟨p,k,e⟩:=C7.mp h;rw[C4 h];unfold lkC kvB;rw[A0s,Z2,Z2,List.find?_isSome];exact⟨p,k,C4<|A0h Sum.inl e⟩
 .rw[aHG h,F6 h];rfl
def aPa{L:LB}{w:Int}{q:To}(h:w∉fs L):putD (kvB L) (Sum.inl w:Key) (vB q)=kvB (L++[(w,q)]):=by
 unfold putD
 rw[B7 fun z=>by
  obtain⟨t,k,e⟩:=Y3.mp z;obtain⟨p,o,rfl⟩:=C7.mp k;exact h (C7.mpr ⟨p,o,Sum.inl.inj (D7 e)⟩)]
 unfold kvB;rw[F7];rfl
structure Pt(Ps:Int->Int->Prop)(L:LB)(k:Nat)(h:Int)(r:Ta)(t:Int):Prop where
 at_:∃q,L[k]?=Z (h,q)
 la:(h::r).getD r.length 0=t
 ad:∀p∈adj (h::r),Ps p.1 p.2
 up:∀x∈r,∃m q,k<m/\L[m]?=Z (x,q)
 nd:r.Nodup
def Pt.head{L:LB}{r:Ta}(p:Pt Ps L k h r t)(nd:(fs L).Nodup):h∉r:=fun hm=>by
 obtain⟨q,e⟩:=p.at_;obtain⟨m,q',lt,o⟩:=p.up h hm;have a:(fs L)[k]?=Z h:=54
 have b:(fs L)[m]?=Z h:=54
 have:=(List.getElem?_inj (B3.mp a).1 nd).mp (a.trans b.symm);omega
abbrev GY(d:Nat)(n i j:Int)(e:Nat)(pl:Th)(q:Nat)(at_ fn ot:Th):Ga:=[Z (.c d),Z<|I n,Z (.d (.list [.int i])),Z (.d (.list [.int j])),Z (.c e),pl,Z (.c q),at_,fn,ot]
def Li.hd{f:Nat}{r:Ta}(k:Li M f (h::r)):ixF (.c f) (I 0) M=Z (I h,M):=by
 show(match M[f]? with|some (.lst xs)=>_|_=>Y)=_;rw[k];show(atI (I h::r.map fun i=>I i) 0).bind _=_;rw[aNY];rfl
def Li.ins{f:Nat}(k:Li M f ns)(o:ns.length<=900):ER (.c f) [I 0,I u] M=Z (.d .none,M.set f<|cI (u::ns)):=by
 show(match M[f]? with|some (.lst xs)=>_|_=>Y)=_;rw[k];show(if (ns.map fun i=>I i).length<sizeLine then _ else Y)=_;rw[A7 (by rw[A4,J9];omega)];rfl
theorem GK{L:LB}{d e q f:Nat}{n i j:Int}{A:Th}(B:Bf O Ps i L)(ne:e≠f):∀(fu k:Nat)(h:Int)(r:Ta)(M:Sto),k<fu->Pt Ps L k h r t->Li M f (h::r)->M[e]?=Z (.dk (kvB L))->r.length+k<=800->
 ∃E M',dO (gB aMf) (eA<|cZ "list" ER (aD 8) aMh) fu (GY d n i j e o q at_ (Z (.c f)) A) M=Z (.nx (GY d n i j e o q at_ (Z (.c f)) A),M')/\Pt Ps L 0 i E t/\Li M' f (i::E)/\Oth f M M'
 |0=>fun k h r M H _ _ _ _=>absurd H<|A0g _
 |fu+1=>fun k h r M H P C Q hl=>by
  obtain⟨F,D⟩:=P.at_
  have K:qL (aD 4) (FW<|fOp ixF (aD 8)<|fC (.int 0)) (GY d n i j e o q at_ (Z (.c f)) A) M=Z (vB F,M):=by
   have R:fOp ixF (aD 8) (fC (.int 0)) (GY d n i j e o q at_ (Z (.c f)) A) M=Z (I h,M):=bG rfl rfl C.hd
   have S:FW (fOp ixF (aD 8)<|fC (.int 0)) (GY d n i j e o q at_ (Z (.c f)) A) M=Z (.inl (.inl h),M):=by
    unfold FW;rw[R,A1];rfl
   have T:atD M (.c e) (.inl (.inl h))=Z (Z<|vB F):=by
    simp only[atD,Q];rw[aJn B.nd D]
   unfold qL;rw[show aD 4 (GY d n i j e o q at_ (Z (.c f)) A) M=Z (.c e,M)from rfl,A1];rw[S,A1];rw[T,A1,A1]
  have U:gB aMf (GY d n i j e o q at_ (Z (.c f)) A) M=Z (!yW (vB F),M):=cM<|bG K rfl rfl;unfold dO;rw[U,A1];by_cases V:k=0
  .subst V;rw[B.hd]at D;cases D;exact⟨r,M,rfl,P,C,rfl,fun _ _=>rfl⟩
  .obtain⟨u,m,rfl,mk,⟨q',em⟩,ps⟩:=B.pr k h F D 50;have G:(h::r).length<=900:=54
   have W:eA (cZ "list" ER (aD 8) aMh) (GY d n i j e o q at_ (Z (.c f)) A) M=Z (.nx (GY d n i j e o q at_ (Z (.c f)) A),M.set f<|cI (u::h::r)):=oK<|oF rfl C.ty (aG rfl<|aG K aR)<|C.ins G;rw[W,A1]
   have X:Pt Ps L m u (h::r) t:=by
    refine⟨⟨q',em⟩,?_,fun p hp=>?_,fun x hx=>?_,U1.mpr ⟨P.head B.nd,P.nd⟩⟩
    .show(h::r).getD r.length 0=t;exact P.la
    .rcases B8.mp hp with rfl|hp
     .exact ps
     .exact P.ad p hp
    .rcases B8.mp hx with rfl|hx
     .exact⟨k,_,mk,D⟩
     .obtain⟨m2,q2,a,b⟩:=P.up x hx;exact⟨m2,q2,50,b⟩
   obtain⟨s1,s2⟩:=C.set;obtain⟨E,M',w,p',f',o'⟩:=GK B ne fu m u (h::r) (M.set f<|cI (u::h::r)) 50 X s1 54 54;exact⟨E,M',w,p',f',by rw[o'.len,s2.len],fun x hx=>by rw[o'.at_ x hx,s2.at_ x hx]⟩
def Pos(kvs:Ua (Ua Key×CD))(a b:Int):Prop:=∃v,lkC kvs [.inl a,.inl b]=Z (I v)/\0<v
structure Wst(kvs:Ua (Ua Key×CD))(L:LB)(d e q:Nat)(M0 M:Sto):Prop where
 rd:M[d]?=Z (.dt kvs)
 be:M[e]?=Z (.dk (kvB L))
 wa:Li M q (fs L)
 ex:Ex M0.length M0 M
def aEx{L:LB}{e:Nat}{j k:Int}{q':To}(F:RI kvs us U)(n8:n<=8)(G:0<=k/\k<n)(B:Bf n (Pos kvs) i L)(hm:L[m]?=Z (u,q'))(S:Wst kvs L d e q M0 M)(de:d<M0.length)(H:M0.length<=e)(K:M0.length<=q)(ne:e≠q):
 ∃o M',jY (GY d n i j e (Z<|I u) q at_ fn<|Z<|I k) M=Z (.nx (GY d n i j e (Z<|I u) q at_ fn<|Z<|I k),M')/\Bf n (Pos kvs) i o/\(o=L\/o=L++[(k,Z u)])/\Wst kvs o d e q M0 M':=by
 have t1:gB aJr (GY d n i j e (Z<|I u) q at_ fn<|Z<|I k) M=Z (!decide (k∈fs L),M):=by
  refine cM ?_;have C:atD M (.c e) (.inl (.inl k))=Z (lkC (kvB L) (Sum.inl k:Key)):=by simp only[atD,S.be]
  show(atD M (.c e) (.inl (.inl k))).bind _=_;rw[C,A1];show Z (CD.d (.bool (!(lkC (kvB L) (Sum.inl k:Key)).isSome)),M)=_;rw[aCm]
 obtain⟨v,O,P⟩:∃v:Int,pK (aD 0) (gT<|aC (aD 5) aAn) (fC (.int 0)) (GY d n i j e (Z<|I u) q at_ fn<|Z<|I k) M=Z (I v,M)/\(0<v->Pos kvs u k):=by
  have Q:OT M (.c d)=true:=by simp only[OT,S.rd]
  have C:atD M (.c d) (.inr [.inl u,.inl k])=Z (lkC kvs [.inl u,.inl k]):=by simp only[atD,S.rd]
  have g:pK (aD 0) (gT<|aC (aD 5) aAn) (fC (.int 0)) (GY d n i j e (Z<|I u) q at_ fn<|Z<|I k) M=Z ((lkC kvs [.inl u,.inl k]).getD (I 0),M):=by
   unfold pK;rw[show aD 0 (GY d n i j e (Z<|I u) q at_ fn<|Z<|I k) M=Z (.c d,M)from rfl,A1];rw[A7 Q,kt_at rfl rfl,A1];show(atD M (.c d) (.inr [.inl u,.inl k])).bind _=_;rw[C,A1]
  cases z:lkC kvs [.inl u,.inl k]with
  |none=>exact⟨0,by rw[g,z];rfl,fun h=>absurd h 52⟩
  |some x=>
   obtain⟨v,rfl⟩:=F.v _ _ z;exact⟨v,by rw[g,z];rfl,fun h=>⟨v,z,h⟩⟩
 have t2:gB aJm (GY d n i j e (Z<|I u) q at_ fn<|Z<|I k) M=Z (decide (0<v),M):=cM<|bG O rfl aIn;have E:sIf (FG (gB aJr)<|gB aJm) aNW cS (GY d n i j e (Z<|I u) q at_ fn<|Z<|I k) M=Z (.nx (GY d n i j e (Z<|I u) q at_ fn<|Z<|I k),M)->∃o M',jY (GY d n i j e (Z<|I u) q at_ fn<|Z<|I k) M=Z (.nx (GY d n i j e (Z<|I u) q at_ fn<|Z<|I k),M')/\Bf n (Pos kvs) i o/\(o=L\/o=L++[(k,Z u)])/\Wst kvs o d e q M0 M':=fun h=>⟨L,M,h,B,.inl rfl,S⟩;by_cases t:k∈fs L
 .rw[C4 t]at t1;exact E<|(bU (by unfold FG;rw[t1];rfl)).trans rfl
 rw[F6 t]at t1;by_cases D:0<v
 .rw[C4 D]at t2;have R:=B.add G t hm<|P D;have ll:=B.len;have T:(kvB L).length<sizeLine:=by unfold kvB;rw[A4,J9];omega
  have el:=(B3.mp S.be).1
  have V:gC (aD 4) (FW<|aD 9) (aD 5) (GY d n i j e (Z<|I u) q at_ fn<|Z<|I k) M=Z (.nx (GY d n i j e (Z<|I u) q at_ fn<|Z<|I k),M.set e (.dk (kvB (L++[(k,Z u)])))):=by
   have W:qD M (.c e) (.inl (.inl k)) (I u)=Z (M.set e (.dk (kvB (L++[(k,Z u)])))):=by
    simp only[qD,S.be,A7 T];rw[<- aPa t];rfl
   show(qD M (.c e) (.inl (.inl k))<|I u).bind _=_;rw[W,A1]
  have A:Li (M.set e (.dk (kvB (L++[(k,Z u)])))) q (fs L):=by
   unfold Li;rw[E1 ne];exact S.wa
  have X:eA (cZ "list" cU (aD 6) aAn) (GY d n i j e (Z<|I u) q at_ fn<|Z<|I k) (M.set e (.dk (kvB (L++[(k,Z u)]))))=Z (.nx (GY d n i j e (Z<|I u) q at_ fn<|Z<|I k),(M.set e (.dk (kvB (L++[(k,Z u)])))).set q (cI (fs L++[k]))):=oK<|oF rfl A.ty (aG rfl aR)<|A.push 54;obtain⟨s1,s2⟩:=A.set;refine⟨L++[(k,Z u)],_,(eB (by unfold FG;rw[t1];exact t2)).trans ((aK V).trans X),R,.inr rfl,?_,?_,?_,?_⟩
  .rw[s2.at_ d 50,E1 50];exact S.rd
  .rw[s2.at_ e ne];exact E2 el
  .unfold fs at s1 ⊢;rw[F7];exact s1
  .exact(S.ex.put H).put K
 .rw[F6 D]at t2;exact E<|(bU (by unfold FG;rw[t1];exact t2)).trans rfl
def aDb{L:LB}{e:Nat}{j:Int}{q':To}(E:RI kvs us U)(F:n<=8)(B:Bf n (Pos kvs) i L)(hm:L[m]?=Z (u,q'))(S:Wst kvs L d e q M0 M)(G:d<M0.length)(H:M0.length<=e)(K:M0.length<=q)(ne:e≠q):
 ∃t o M',jW (hName 9) jY (jV 0 n) (GY d n i j e (Z<|I u) q at_ fn C) M=Z (.nx (GY d n i j e (Z<|I u) q at_ fn o),M')/\Bf n (Pos kvs) i t/\L.length<=t.length/\Wst kvs t d e q M0 M':=by
 obtain⟨γ',M',O,t,o,rfl,P,Q,R,T⟩:=oJ (g:=hName 9) (n:=n) (Inv:=fun _ γ M=>∃t o,γ=GY d n i j e (Z<|I u) q at_ fn o/\Bf n (Pos kvs) i t/\L.length<=t.length/\t[m]?=Z (u,q')/\Wst kvs t d e q M0 M) (by
  rintro k hk γ M1 ⟨L1,V,rfl,W,X,A,S1⟩;obtain⟨L2,M2,e2,B2,D,S2⟩:=aEx (k:=(k:Nat)) E F ⟨50,50⟩ W A S1 G H K ne;refine⟨_,_,M2,rfl,e2,L2,_,rfl,B2,?_,?_,S2⟩
  .rcases D with rfl|rfl
   .exact X
   .rw[C1];omega
  .rcases D with rfl|rfl
   .exact A
   .rw[C8 (B3.mp A).1];exact A) n 0 (GY d n i j e (Z (I u)) q at_ fn C) M 50 ⟨L,C,rfl,B,A8 _,hm,S⟩
 exact⟨t,o,M',O,P,Q,T⟩
def aLE:inD false (I u) (.d (.list [.int j])) M=Z (B ((j==u) || false),M):=rfl
def Li.at_{k:Nat}{xs:Ta}(h:Li M c xs)(o:xs[k]?=Z z):ixF (.c c) (I k) M=Z (I z,M):=by
 show(match M[c]? with|some (.lst xs)=>_|_=>Y)=_;rw[h];show(atI (xs.map fun i=>I i) (k:Int)).bind _=_;rw[wU (by rw[D6,o];rfl)];rfl
abbrev wC:TF:=gB<|fOp ltI (aD 7)<|aP iE PR
noncomputable abbrev wB:SF:=xq8
theorem seek{us:Ua Tie}{n d e q:Nat}{i j:Int}{M0:Sto}(F:RI kvs us U)(G:n<=8)(H:d<M0.length)(K:M0.length<=e)(O:M0.length<=q)(ne:e≠q):∀(fu a:Nat)(L:LB)(o fn k:Th)(M:Sto),n-a<fu->a<=L.length->Bf n (Pos kvs) i L->Wst kvs L d e q M0 M->
 ∃M',((∃f C r,dO wC wB fu (GY d n i j e o q (Z<|I (a:Nat)) fn k) M=Z (.rt (.c f),M')/\Bf n (Pos kvs) i C/\Pt (Pos kvs) C 0 i r j/\Li M' f (i::r)/\M0.length<=f)\/(∃γ',dO wC wB fu (GY d n i j e o q (Z<|I (a:Nat)) fn k) M=Z (.nx γ',M')))/\Ex M0.length M0 M'
 |0=>fun a _ _ _ _ _ h _ _ _=>absurd h<|A0g _
 |fu+1=>fun a L o fn k M hf ha B S=>by
  have Q:wC (GY d n i j e o q (Z<|I (a:Nat)) fn k) M=Z (decide ((a:Int)<((fs L).length:Int)),M):=cM<|bG rfl (aZ (aG rfl aR) S.wa.ln) UA;rw[A4]at Q;unfold dO;rw[Q,A1];dsimp only;by_cases V:a<L.length
  .rw[C4 50,A7 rfl];obtain⟨u,q',R⟩:∃u q',L[a]?=Z (u,q'):=⟨_,_,C0 V⟩;have s1:aW (fOp ixF (aD 6)<|aD 7) (hName 5) (GY d n i j e o q (Z<|I (a:Nat)) fn k) M=Z (.nx (GY d n i j e (Z<|I u) q (Z<|I (a:Nat)) fn k),M):=bH<|bG rfl rfl<|S.wa.at_ 54;have s2:aW aCj (hName 7) (GY d n i j e (Z<|I u) q (Z<|I (a:Nat)) fn k) M=Z (.nx (GY d n i j e (Z<|I u) q (Z<|I ((a+1:Nat):Int)) fn k),M):=bH<|bG rfl rfl wD;have t:gB (fOp (inD false) (aD 5)<|aD 3) (GY d n i j e (Z<|I u) q (Z<|I ((a+1:Nat):Int)) fn k) M=Z (((j==u) || false),M):=cM<|bG rfl rfl aLE;by_cases T:j=u
   .subst T;rw[U4]at t;have W:aW (mH LO) (hName 8) (GY d n i j e (Z<|I j) q (Z<|I ((a+1:Nat):Int)) fn k) M=Z (.nx (GY d n i j e (Z<|I j) q (Z<|I ((a+1:Nat):Int)) (Z (.c M.length)) k),M++[cI [j]]):=bH<|xZ (aG rfl aR) (show 1<=900 by decide);have el:=(B3.mp S.be).1;have X:=S.ex.len;have D:(M++[cI [j]])[e]?=Z (.dk (kvB L)):=by rw[C8 el];exact S.be
    have ll:=B.len;obtain⟨r,M',w,P,f',o'⟩:=GK B 50 (a+1) a j [] (M++[cI [j]]) (S6 _) ⟨⟨q',R⟩,rfl,(fun p hp=>nomatch hp),(fun x E=>nomatch E),A0p⟩ gG D 54;have wh:=qR w;have bd:wB (GY d n i j e o q (Z<|I (a:Nat)) fn k) M=Z (.rt (.c M.length),M'):=(aK s1).trans ((aK s2).trans (fZ<|(eB t).trans ((aK W).trans ((aK wh).trans rfl))));refine⟨M',.inl ⟨M.length,L,r,by rw[bd];rfl,B,P,f',X⟩,⟨by rw[o'.len,C1];omega,fun x E hn=>?_⟩⟩;rw[o'.at_ x 50,C8 50];exact S.ex.at_ x E hn
   .rw[O0.mpr T]at t;have it:=rn1 (fa:=aC (aD 1) aO) (γ:=GY d n i j e (Z<|I u) q (Z<|I ((a+1:Nat):Int)) fn k) (M:=M) rfl 50 50;obtain⟨C,A,M1,e1,B1,l1,S1⟩:=aDb F G B R S H K O ne;have bd:wB (GY d n i j e o q (Z<|I (a:Nat)) fn k) M=Z (.nx (GY d n i j e (Z<|I u) q (Z<|I ((a+1:Nat):Int)) fn A),M1):=(aK s1).trans ((aK s2).trans ((aK<|(bU t).trans rfl).trans (iG it e1)));rw[bd,A1];have ll:=B.len;exact seek F G H K O ne fu (a+1) C (Z<|I u) fn A M1 50 50 B1 S1
  .rw[F6 50,B7 52];exact⟨M,.inr ⟨_,rfl⟩,S.ex⟩
structure Gw(kvs:Ua (Ua Key×CD))(n:Nat)(i j:Int)(ns:Ta):Prop where
 ne:0<ns.length
 hd:ns.getD 0 0=i
 la:ns.getD (ns.length-1) 0=j
 nd:ns.Nodup
 rg:∀a∈ns,0<=a/\a<n
 ad:∀p∈adj ns,Pos kvs p.1 p.2
abbrev NR(a:Nat)(b:Int)(c:Ud)(d:Ud):Ga:=[Z (.c a),Z<|I b,Z (.d c),Z (.d d),Y,Y,Y,Y,Y,Y]
abbrev rG(a:Nat)(b:Int)(c:Ud)(d:Ud)(e:Nat):Ga:=[Z (.c a),Z<|I b,Z (.d c),Z (.d d),Z (.c e),Y,Y,Y,Y,Y]
abbrev lO(a:Nat)(b:Int)(c:Ud)(d:Ud)(e:Nat)(f:Int):Ga:=[Z (.c a),Z<|I b,Z (.d c),Z (.d d),Z (.c e),Z<|I f,Y,Y,Y,Y]
abbrev yY(a:Nat)(b:Int)(c:Ud)(d:Ud)(e:Nat)(f:Int)(g:Nat):Ga:=[Z (.c a),Z<|I b,Z (.d c),Z (.d d),Z (.c e),Z<|I f,Z (.c g),Y,Y,Y]
def aNi(A:RI kvs us U)(C:n<=8)(hi:0<=i/\i<n)(hd:M[d]?=Z (.dt kvs)):∃f ns M',nW [.c d,I n,.d (.list [.int i]),.d (.list [.int j])] M=Z (.c f,M')/\Li M' f ns/\M.length<=f/\Ex M.length M M'/\(ns=[]\/Gw kvs n i j ns):=by
 have dl:=(B3.mp hd).1;have s1:aW JM (hName 4) (NR d n (.list [.int i]) (.list [.int j])) M=Z (.nx (rG d n (.list [.int i]) (.list [.int j]) M.length),M++[.dk []]):=bH rfl;have it:cA (aD 2) (rG d n (.list [.int i]) (.list [.int j]) M.length) (M++[.dk []])=Z ([I i],M++[.dk []]):=rfl
 have D:oQ (lO d n (.list [.int i]) (.list [.int j]) M.length i) (M++[.dk []])=Z (.nx (lO d n (.list [.int i]) (.list [.int j]) M.length i),M++[.dk (kvB [(i,Y)])]):=by
  have E:qD (M++[.dk []]) (.c M.length) (.inl (.inl i)) (.d .none)=Z (M++[.dk (kvB [(i,Y)])]):=by
   have F:(M++[Cell.dk []])[M.length]?=Z (.dk []):=gG;simp only[qD,F];rw[aFH];rfl
  show(qD (M++[.dk []]) (.c M.length) (.inl (.inl i)) (.d .none)).bind _=_;rw[E,A1]
 have s2:nM (cA<|aD 2) (hName 5) oQ (rG d n (.list [.int i]) (.list [.int j]) M.length) (M++[.dk []])=Z (.nx (lO d n (.list [.int i]) (.list [.int j]) M.length i),M++[.dk (kvB [(i,Y)])]):=iG it<|(iZ rfl D).trans rfl;have ln:(M++[Cell.dk (kvB [(i,Y)])]).length=M.length+1:=53
 have s3:aW (aP yQ FF) (hName 6) (lO d n (.list [.int i]) (.list [.int j]) M.length i) (M++[.dk (kvB [(i,Y)])])=Z (.nx (yY d n (.list [.int i]) (.list [.int j]) M.length i (M.length+1)),M++[.dk (kvB [(i,Y)])]++[cI [i]]):=by
  rw[<- ln];exact bH<|aZ (aG rfl aR) rfl
 have t:aW (fC (.int 0)) (hName 7) (yY d n (.list [.int i]) (.list [.int j]) M.length i (M.length+1)) (M++[.dk (kvB [(i,Y)])]++[cI [i]])=Z (.nx (GY d n i j M.length (Z<|I i) (M.length+1) (Z<|I ((0:Nat):Int)) Y Y),M++[.dk (kvB [(i,Y)])]++[cI [i]]):=bH rfl
 have G:Bf n (Pos kvs) i [(i,Y)]:=⟨53,fun p H=>by rw[A6.mp H];exact hi,rfl,fun k w q e K=>by
  cases k with
  |zero=>exact absurd K 52
  |succ k=>cases e⟩
 have O:Wst kvs [(i,Y)] d M.length (M.length+1) M (M++[.dk (kvB [(i,Y)])]++[cI [i]]):=by
  refine⟨?_,?_,?_,⟨by rw[C1];omega,fun x Q _=>?_⟩⟩
  .rw[C8 50,C8 dl];exact hd
  .rw[C8 50];exact gG
  .unfold Li;rw[<- ln];exact gG
  .rw[C8 50,C8 Q]
 obtain⟨M',h,ex⟩:=seek A C dl (A8 _) (A1t _) 50 (n+1) 0 [(i,Y)] (Z<|I i) Y Y _ 50 (F9 _) G O;rcases h with⟨f,L,r,w,B,P,R,fl⟩|⟨γ',w⟩
 .have o:=qR w;refine⟨f,i::r,M',dF rfl<|(aK s1).trans ((aK s2).trans ((aK s3).trans ((aK t).trans (fZ o)))),R,fl,ex,.inr ⟨Nat.succ_pos _,rfl,P.la,U1.mpr ⟨P.head B.nd,P.nd⟩,fun a ha=>?_,P.ad⟩⟩;rcases B8.mp ha with rfl|ha
  .exact hi
  .obtain⟨m,q,_,e⟩:=P.up a ha;exact B.rg _<|O6 e
 .have o:=qR w;have z:=show(M'++[Cell.lst []])[M'.length]?=Z (.lst [])from gG;exact⟨M'.length,[],M'++[Cell.lst []],dF rfl<|(aK s1).trans ((aK s2).trans ((aK s3).trans ((aK t).trans ((aK o).trans (gQ<|xZ aR 52))))),z,ex.len,ex.trans<|Ex.app _ _ _,.inl rfl⟩
theorem aDf:∀{ns:Ta},ns.Nodup->((adj ns).map kab).Nodup
 |[]=>fun _=>A0p
 |[_]=>fun _=>A0p
 |a::b::r=>fun nd=>by
  have k:=U1.mp nd;refine U1.mpr ⟨fun h=>?_,aDf k.2⟩;obtain⟨p,t,e⟩:=C7.mp h;have hm:=AN t;rcases aDQ (show kAB p.1 p.2=kAB a b from e)with⟨o,_⟩|⟨_,o⟩
  .exact k.1 (o▸hm.1)
  .exact k.1 (o▸hm.2)
def Gw.way(g:Gw kvs n i j ns)(k:RI kvs us U):CO us i j ns=true:=by
 unfold CO
 have o:qA ns=ns:=by
  have:=WW ns [] (by rw[A1z];exact g.nd)
  rwa [A1z]at this
 have al:=D5.mpr fun p A=>by
  obtain⟨v,e,B⟩:=g.ad p A;exact aEg (k.t _ _ v e B).1
 rw[g.hd,g.la,o,al,U4,U4,C4<|A8 _];rfl
def Gw.two(g:Gw kvs n i j ns)(ne:i≠j):2<=ns.length:=by
 have k:=g.ne;by_cases c:ns.length=1
 .have a:=g.hd;have b:=g.la;rw[c]at b;exact absurd (a.symm.trans b) ne
 .omega
theorem aDO:∀{ks:Ua (Ua Key)},ks.Nodup->nO ks=ks
 |[]=>51
 |k::ks=>fun nd=>by
  have o:=U1.mp nd;unfold nO;rw[aDO o.2,B7 fun z=>o.1<|any_mem.mp z]
abbrev GS(c:Nat)(us:Ua Tie)(n i j:Int)(d f:Nat)(g7 g8 g9 g10:Th):Ga:=[Z (.c c),Z<|fzW us,Z<|I n,Z<|I i,Z<|I j,Z (.c d),Z (.c f),g7,g8,g9,g10]
def aAR{f:Nat}{n:Int}(h:Rm M d us U q)(B:q<=500):∃M',gF (GS c us n i j d f g7 g8 (Z<|I a)<|Z<|I b) M=Z (.nx (GS c us n i j d f g7 g8 (Z<|I a)<|Z<|I b),M')/\Rm M' d us (U++[kAB a b]) (q+2)/\Oth d M M':=by
 obtain⟨kvs,hd,A,C⟩:=h.ex;have dl:=h.lt;have s1:=wF (γ:=GS c us n i j d f g7 g8 (Z<|I a)<|Z<|I b) (fo:=aD 5) (fv:=fC (.int 0)) rfl rfl (kt_at (f:=aD 9) (g:=aD 10) rfl rfl) hd 50;have D:=AR (k:=[.inl a,.inl b]) (v:=I 0) (kvs:=kvs);have o:(M.set d (.dt (putD kvs [.inl a,.inl b]<|I 0)))[d]?=Z (.dt (putD kvs [.inl a,.inl b]<|I 0)):=E2 dl;have s2:=wF (γ:=GS c us n i j d f g7 g8 (Z<|I a)<|Z<|I b) (fo:=aD 5) (fv:=fC (.int 0)) rfl rfl (kt_at (f:=aD 10) (g:=aD 9) rfl rfl) o 50;have E:=AR (k:=[.inl b,.inl a]) (v:=I 0) (kvs:=putD kvs [.inl a,.inl b]<|I 0);exact⟨_,(aK s1).trans s2,⟨_,E2 54,A.use,50⟩,by rw[U2,U2],fun k t=>by rw[E1 (S7 t),E1<|S7 t]⟩
theorem MC{c d f:Nat}{us:Ua Tie}{n i j:Int}{g7 g8:Th}:∀(ps:Ua (Int×Int))(g9 g10:Th)(U:Ua (Ua Key))(q:Nat)(M:Sto),Rm M d us U q->q+2*ps.length<=400->∃t o M',jW (gU 2<|cG (hName 9)<|cG (hName 10) pH) gF (ps.map pT) (GS c us n i j d f g7 g8 g9 g10) M=Z (.nx (GS c us n i j d f g7 g8 t o),M')/\Rm M' d us (U++ps.map kab) (q+2*ps.length)/\Oth d M M'
 |[]=>fun g9 g10 U q M h _=>⟨g9,g10,M,rfl,by rw[List.map_nil,L6];exact h,rfl,fun _ _=>rfl⟩
 |p::ps=>fun g9 g10 U q M h E=>by
  rw[D3]at E;obtain⟨M1,F,G,A⟩:=aAR h 50;obtain⟨t,o,M2,H,B,C⟩:=MC ps (Z<|I p.1) (Z<|I p.2) (U++[kab p]) (q+2) M1 G 50;rw[Y4]at B;refine⟨t,o,M2,?_,B.le 54,by rw[C.len,A.len],fun k D=>by rw[C.at_ k D,A.at_ k D]⟩;rw[D4,iZ rfl F];exact H
abbrev wyD(ns:Ta):Ud:=.tuple (ns.map .int)
structure Wys(us:Ua Tie)(n:Nat)(i j:Int)(ws:T0):Prop where
 ok:∀ns∈ws,2<=ns.length/\(∀a∈ns,0<=a/\a<n)/\CO us i j ns=true
 nd:((ws.flatMap adj).map kab).Nodup
structure Sw(us:Ua Tie)(n:Nat)(i j:Int)(c d f m k:Nat)(M0 M:Sto):Prop where
 ex:∃ws,Wys us n i j ws/\ws.length<=k/\M[f]?=Z (.lst (ws.map fun ns=>.d (wyD ns)))/\Rm M d us ((ws.flatMap adj).map kab) (60+14*k)
 dk:Dk M c m
 ke:Ex c M0 M
def Wys.adj8{ns:Ta}(k:n<=8)(rg:∀a∈ns,0<=a/\a<n)(h:CO us i j ns=true):(adj ns).length<=7:=by
 have:=wQ rg h;have:=wM ns;omega
def aAs{f k:Nat}{g8 g9 g10:Th}(n8:n<=8)(hi:0<=i/\i<n)(R:i≠j)(hk:k<5)(hc:c<M0.length)(hd:M0.length<=d)(hf:M0.length<=f)(df:d≠f)(S:Sw us n i j c d f m k M0 M):
 ∃T B o M',lE (GS c us n i j d f (Z<|I (k:Nat)) g8 g9 g10) M=Z (.nx (GS c us n i j d f (Z<|I (k:Nat)) T B o),M')/\Sw us n i j c d f m (k+1) M0 M':=by
 obtain⟨ws,W,wl,fa,U⟩:=S.ex;obtain⟨kvs,kd,V,kl⟩:=U.ex;have dl:=U.lt;have fl:=(B3.mp fa).1;obtain⟨g,ns,M1,X,lg,gl,H,h⟩:=aNi V n8 hi kd;have ca:aP nW aNI (GS c us n i j d f (Z<|I (k:Nat)) g8 g9 g10) M=Z (.c g,M1):=aZ (aG rfl<|aG rfl<|aG (JW rfl)<|aG (JW rfl) aR) X;have a0:M1[g]?=Z (.lst ((ns.map PyData.int).map .d)):=by rw[I0];exact lg
 have a1:=bH (i:=8)<|aEb ca a0
 have same:∀x,x<M.length->(M1.set g .dead)[x]?=M[x]?:=fun x hx=>by
  rw[E1 50];exact H.at_ x hx 50
 have m1:M.length<=(M1.set g .dead).length:=by rw[U2];exact H.len
 have C:Dk (M1.set g .dead) c m:=by
  obtain⟨xs,a,b⟩:=S.dk;exact⟨xs,by unfold Li;rw[same c a.lt];exact a,b⟩
 have D:Ex c M0 (M1.set g .dead):=⟨E6 S.ke.len m1,fun x hx hn=>by
  rw[same x 50];exact S.ke.at_ x hx hn⟩
 have E:=U.same<|same d dl;have A:=(same f fl).trans fa;generalize M1.set g .dead=M2 at a1 C D E A m1;rcases h with rfl|G
 .have t:gB (fOp (eqX true) (aD 8)<|dW aO) (GS c us n i j d f (Z<|I (k:Nat)) (Z (.d (.list []))) g9 g10) M2=Z (false,M2):=cM<|bG rfl rfl (ne_nil fun d hd=>nomatch hd);exact⟨_,_,_,M2,(aK a1).trans ((bU t).trans rfl),⟨ws,W,50,A,E.le 50⟩,C,D⟩
 .have nl:=US n ns G.nd G.rg;have ii:=aCc fun a ha=>by have:=G.rg a ha;omega
  have a2:(ns.map PyData.int).isEmpty=false:=by
   have:=G.ne;cases ns with
   |nil=>cases this
   |cons a r=>rfl
  have t:gB (fOp (eqX true) (aD 8)<|dW aO) (GS c us n i j d f (Z<|I (k:Nat)) (Z (.d (.list (ns.map .int)))) g9 g10) M2=Z (true,M2):=cM (by rw[bG rfl rfl (ne_nil ii),a2];rfl);have ap:eA aMU (GS c us n i j d f (Z<|I (k:Nat)) (Z (.d (.list (ns.map .int)))) g9 g10) M2=Z (.nx (GS c us n i j d f (Z<|I (k:Nat)) (Z (.d (.list (ns.map .int)))) g9 g10),M2.set f (.lst ((ws.map fun ns=>.d (wyD ns))++[.d (wyD ns)]))):=oK<|oF rfl (aCk A) (aG (aZ (aG rfl aR) rfl) aR)<|ET A (by rw[A4];omega);have a3:=(B3.mp A).1;have K:Rm (M2.set f (.lst ((ws.map fun ns=>.d (wyD ns))++[.d (wyD ns)]))) d us ((ws.flatMap adj).map kab) (60+14*k):=E.same<|E1<|S7 df;have O:(M2.set f (.lst ((ws.map fun ns=>.d (wyD ns))++[.d (wyD ns)])))[f]?=Z (.lst (((ws++[ns]).map fun ns=>.d (wyD ns)))):=by rw[E2 a3,F7];rfl
  have P:Dk (M2.set f (.lst ((ws.map fun ns=>.d (wyD ns))++[.d (wyD ns)]))) c m:=C.put 50;have F:Ex c M0 (M2.set f (.lst ((ws.map fun ns=>.d (wyD ns))++[.d (wyD ns)]))):=D.put hf;generalize M2.set f (.lst ((ws.map fun ns=>.d (wyD ns))++[.d (wyD ns)]))=M3 at ap K O P F;have wI:=G.way V;have a7:=Wys.adj8 n8 G.rg wI;have s1:fSl (aD 8) bF (cR xq2) (GS c us n i j d f (Z<|I (k:Nat)) (Z (.d (.list (ns.map .int)))) g9 g10) M3=Z (.d (Rw true<|(ns.map PyData.int).take ((ns.map PyData.int).length-1)),M3):=pP rfl rfl rfl<|aIE (k:=true) (by rw[A4];exact G.ne);have s2:fSl (aD 8) zP bF (GS c us n i j d f (Z<|I (k:Nat)) (Z (.d (.list (ns.map .int)))) g9 g10) M3=Z (.d (Rw true<|(ns.map PyData.int).drop 1),M3):=pP rfl rfl rfl<|JB (k:=true)
  have zp:lW (aC (fSl (aD 8) bF<|cR xq2)<|aC (fSl (aD 8) zP bF) aO) (GS c us n i j d f (Z<|I (k:Nat)) (Z (.d (.list (ns.map .int)))) g9 g10) M3=Z ((adj ns).map pT,M3):=by
   unfold lW;rw[aG s1 (aG s2 aR),A1,<- EL];rfl
  obtain⟨B,o,M4,e4,a4,Q⟩:=MC (adj ns) g9 g10 _ _ M3 K 50;refine⟨_,B,o,M4,(aK a1).trans ((eB t).trans ((aK ap).trans (iG zp e4))),⟨ws++[ns],⟨fun x hx=>?_,?_⟩,by rw[C1,D8];omega,by rw[Q.at_ f (S7 df)];exact O,?_⟩,P.oth Q 50,⟨by rw[Q.len];exact F.len,fun x hx hn=>by rw[Q.at_ x 50];exact F.at_ x hx hn⟩⟩
  .rcases C9.mp hx with hx|hx
   .exact W.ok x hx
   .rw[A6.mp hx];exact⟨G.two R,G.rg,wI⟩
  .rw[List.flatMap_append,List.flatMap_singleton,F7];refine Z3.mpr ⟨W.nd,aDf G.nd,fun x hx y hy e=>?_⟩;obtain⟨p,hp,rfl⟩:=C7.mp hy;obtain⟨v,X,h0⟩:=G.ad p hp;exact(V.t _ _ v X h0).2 (by rw[show kAB p.1 p.2=x from e.symm];exact hx)
  .rw[List.flatMap_append,List.flatMap_singleton,F7];exact a4.le 50
abbrev JD(a:Nat)(b:Ua Tie)(c:Int)(d:Int)(e:Int):Ga:=[Z (.c a),Z<|fzW b,Z<|I c,Z<|I d,Z<|I e,Y,Y,Y,Y,Y,Y]
abbrev vX(a:Nat)(b:Ua Tie)(c:Int)(d:Int)(e:Int)(f:Nat):Ga:=[Z (.c a),Z<|fzW b,Z<|I c,Z<|I d,Z<|I e,Z (.c f),Y,Y,Y,Y,Y]
def aLv(R:n<=8)(ok:OkW n us)(T:us.length<=30)(hi:0<=i/\i<n)(G:i≠j)(dk:Dk M c (m+1)):∃ws M',gX [.c c,fzW us,I n,I i,I j] M=Z (.d (.tuple (ws.map wyD)),M')/\Wys us n i j ws/\ws.length<=4/\Dk M' c m/\Ex c M M':=by
 have P:=dk.lt;obtain⟨M1,U,V,B,l1⟩:=aHx ok T;have X:aW (aP jU xq1) (hName 5) (JD c us n i j) M=Z (.nx (vX c us n i j M.length),M1):=bH<|aZ (aG rfl aR) U;have Q:aW (mH aO) (hName 6) (vX c us n i j M.length) M1=Z (.nx (GS c us n i j M.length M1.length Y Y Y Y),M1++[.lst []]):=bH<|xZ aR 52
 have o:Dk (M1++[.lst []]) c (m+1):=by
  obtain⟨xs,a,b⟩:=dk;exact(Dk.app ⟨xs,(by unfold Li;rw[B.at_ c P 50];exact a),b⟩)
 have C:Rm (M1++[.lst []]) M.length us [] 60:=V.same<|C8 50;have A:Ex c M (M1++[.lst []]):=⟨by rw[C1];omega,fun x H _=>by rw[C8 50];exact B.at_ x H 50⟩;have D:(M1++[Cell.lst []])[M1.length]?=Z (.lst []):=gG;generalize M1++[Cell.lst []]=M2 at Q o C A D;obtain⟨z,M3,p3,K,E,_⟩:=Dk.pop o;have pm:fOp dC xq0 (fC (.int 5)) (GS c us n i j M.length M1.length Y Y Y Y) M2=Z (I (z % 5),M3):=qF (pop_at rfl o.ty p3) 52
 have it:fH (aC (fOp dC xq0<|fC (.int 5)) aO) (GS c us n i j M.length M1.length Y Y Y Y) M2=Z (jV 0 (z % 5).toNat,M3):=by
  have h:=aG pm aR;simp only[fH,h,A1,PX (show -1000<=z % 5 by omega) 50,A1i]
 obtain⟨t,ht⟩:∃t:Nat,(z % 5).toNat=t:=⟨_,rfl⟩;rw[ht]at it
 have S0:Sw us n i j c M.length M1.length m 0 M M3:=by
  refine⟨⟨[],⟨(fun ns h=>nomatch h),A0p⟩,A8 _,by rw[E.at_ _ 50];exact D,C.same<|E.at_ _ 50⟩,K,⟨by rw[E.len];exact A.len,fun x H hn=>by rw[E.at_ x hn];exact A.at_ x H hn⟩⟩
 obtain⟨γ',F,e4,⟨g7,g8,g9,g10,rfl⟩,O⟩:=oJ (g:=hName 7) (n:=t) (Inv:=fun k γ N=>(∃g7 g8 g9 g10,γ=GS c us n i j M.length M1.length g7 g8 g9 g10)/\Sw us n i j c M.length M1.length m k M N) (by
  rintro k hk γ N ⟨⟨g7,g8,g9,g10,rfl⟩,S⟩;obtain⟨h8,h9,a0,N',e,S'⟩:=aAs R hi G 50 P (A8 _) 50 50 S;exact⟨_,_,N',rfl,e,⟨_,_,_,_,rfl⟩,S'⟩) t 0 (GS c us n i j M.length M1.length Y Y Y Y) M3 50 ⟨⟨_,_,_,_,rfl⟩,S0⟩
 obtain⟨ws,W,wl,fa,_⟩:=O.ex
 have tp:kX [.c M1.length] F=Z (.d (.tuple (ws.map wyD)),F):=by
  show(match F[M1.length]? with|some (.lst ys)=>(jL ys).bind _|_=>Y)=_;rw[fa];show(jL (ws.map fun ns=>.d (wyD ns))).bind _=_;rw[show(ws.map fun ns=>CD.d<|wyD ns)=(ws.map wyD).map .d by rw[I0];rfl,kI];rfl
 exact⟨ws,F,dF rfl<|(aK X).trans ((aK Q).trans ((aK<|iG it e4).trans (gQ<|aZ (aG rfl aR) tp))),W,50,O.dk,O.ke⟩
structure Thg(x:Ud):Prop where
 fit:Fit 400000 4 x
 len:∀ds,bC x=Z ds->ds.length<=40
 itm:∀ds,bC x=Z ds->∀d∈ds,Itm d
theorem RU{w k:Nat}:∀{ds:T5},(∀d∈ds,wt d<=w)->ds.length<=k->kU ds<=k*(w+2)
 |[]=>fun _ _=>F9 _
 |d::ds=>fun h o=>by
  have A:=h d B9;cases k with
  |zero=>simp at o
  |succ k=>
   have B:=RU (fun x t=>h x<|A9 _ t) (by simpa using o);show wt d+2+kU ds<=_;rw[Nat.succ_mul];omega
theorem JN:∀{ds:T5},(∀d∈ds,oks d=true)->mO ds=true
 |[]=>51
 |d::ds=>fun h=>by
  show(oks d&&mO ds)=true;rw[h d B9,JN fun x k=>h x<|A9 _ k];rfl
def aCd{ds:T5}(h:∀d∈ds,Itm d)(l:ds.length<=40):Thg (Rw k ds):=by
 have o:=JN fun d hd=>(h d hd).fit.ok;have w:=RU (fun d hd=>(h d hd).fit.wt) l;have dp:=xR h;refine⟨?_,fun es t=>?_,fun es t=>?_⟩
 .cases k
  .exact⟨o,by show kU ds+3<=400000;omega,by show PyData.depthAll ds+1<=4;omega⟩
  .exact⟨o,by show kU ds+3<=400000;omega,by show PyData.depthAll ds+1<=4;omega⟩
 .rw[cO]at t;cases t;exact l
 .rw[cO]at t;cases t;exact h
def aIQ(d:Ud):Bool:=oks d&&decide (wt d<=9000)&&decide (d.depth<=2)&&d.canLay0
def aDk(d:Ud):Bool:=oks d&&decide (wt d<=400000)&&decide (d.depth<=4)&&(match bC d with|some ds=>decide (ds.length<=40)&&ds.all aIQ|none=>true)
def aEj{d:Ud}(h:aIQ d=true):Itm d:=by
 unfold aIQ at h;simp only[B4,U7]at h;exact⟨⟨h.1.1.1,h.1.1.2,h.1.2⟩,h.2⟩
def RT{d:Ud}(h:aDk d=true):Thg d:=by
 unfold aDk at h;simp only[B4,U7]at h;obtain⟨⟨⟨o,t⟩,A⟩,k⟩:=h;refine⟨⟨o,t,A⟩,fun ds e=>?_,fun ds e=>?_⟩
 .rw[e]at k;simp only[B4,U7]at k;exact k.1
 .rw[e]at k;simp only[B4,U7]at k;exact fun d hd=>aEj<|D5.mp k.2 d hd
def aLc{L:T5}{m:Int}(M:Sto)(hm:0<m)(k:(L.length:Int)=m):∃d,ixF (.d (.list L)) (I (z % m)) M=Z (.d d,M)/\d∈L:=by
 obtain⟨d,o,t⟩:=vW hm k;refine⟨d,?_,t⟩;show(atI L (z % m)).bind _=_;rw[o];rfl
def qM:T5:=[.none,.bool true,.bool false,.int 0,.int 1,.int (-1),.int 1000000000000000000000000000000,.str "",.str "0",.str "01",.tuple [],.list [],.dict [],.dict [(.int 0,.int 1)],.tuple [.int 0],.list [.int 0]]
def vH:T5:=[.tuple [.int 1,.int 0],.tuple [.tuple [.int 0],.int 1],.tuple [.none],.tuple [.bool true],.tuple [.int 0,.bool true],.tuple [.str "0",.int 1],.tuple [.tuple []],.tuple [.tuple [],.tuple []]]
def II:T5:=[.tuple [.int 0,.int 1,.int 2,.int 40],.list [.list [.int 0]],.tuple [.int (-1),.int 0],.tuple [.int 0,.int 0],.tuple [.tuple [.int 0,.int 1,.tuple [.int 1,.int 1]]]]
def aCH:IE [((fC (.int 0)),(fC (.int 1)))] γ M=Z (.d (.dict [(.int 0,.int 1)]),(M++[Cell.dk []]).set M.length Cell.dead):=by
 have k:JT [((fC (.int 0)),(fC (.int 1)))] γ (M++[.dk []])=Z ([(I 0,I 1)],M++[.dk []]):=rfl;have o:(M++[Cell.dk []])[M.length]?=Z (.dk []):=53
 have nd:(([(.inl 0,.int 1)]:Ua (Key×Ud)).map (·.1)).Nodup:=by
  simp
 unfold IE;rw[k,A1];rw[o];rfl
structure TH(x:Ud):Prop where
 fit:Fit 4000000 6 x
 it:∀ds,bC x=Z ds->ds.length<=9/\∀d∈ds,Thg d
def TH.tt(h:TH x):TT x:=⟨fun ds hd=>⟨(h.it ds hd).1,fun d hm es k=>⟨E6 (((h.it ds hd).2 d hm).len es k) 52,((h.it ds hd).2 d hm).itm es k⟩⟩⟩
def aJa{ds:T5}(h:∀d∈ds,Thg d)(l:ds.length<=9):mO ds=true/\kU ds<=3600018/\PyData.depthAll ds<=4:=by
 refine⟨JN fun d hd=>(h d hd).fit.ok,?_,?_⟩
 .have:=RU (fun d hd=>(h d hd).fit.wt) l;omega
 .clear l
  induction ds with
  |nil=>exact F9 _
  |cons d ds ih=>
   exact Nat.max_le.mpr ⟨(h d B9).fit.dp,ih fun x k=>h x<|A9 _ k⟩
def aIt{ds:T5}(h:∀d∈ds,Thg d)(l:ds.length<=9):TH (Rw k ds):=by
 obtain⟨a,b,c⟩:=aJa h l;refine⟨?_,fun es o=>by rw[cO]at o;cases o;exact⟨l,h⟩⟩;cases k
 .exact⟨a,by show kU ds+3<=4000000;omega,by show PyData.depthAll ds+1<=6;omega⟩
 .exact⟨a,by show kU ds+3<=4000000;omega,by show PyData.depthAll ds+1<=6;omega⟩
def thB(d:Ud):Bool:=oks d&&decide (wt d<=4000000)&&decide (d.depth<=6)&&(match bC d with|some ds=>decide (ds.length<=9)&&ds.all aDk|none=>true)
def WE{d:Ud}(h:thB d=true):TH d:=by
 unfold thB at h;simp only[B4,U7]at h;obtain⟨⟨⟨o,t⟩,A⟩,k⟩:=h;refine⟨⟨o,t,A⟩,fun ds e=>?_⟩;rw[e]at k;simp only[B4,U7]at k;exact⟨k.1,fun d hd=>RT<|D5.mp k.2 d hd⟩
def aNa(H:2<=n)(dk:Dk M c (m+2)):∃i j M',oX [.c c,I n] M=Z (.d (.tuple [.int i,.int j]),M')/\(0<=i/\i<n)/\(0<=j/\j<n)/\i≠j/\Dk M' c m/\Ex c M M':=by
 obtain⟨z,M1,C,k,o,_⟩:=Dk.popE dk;have s1:aW aEH (hName 2) [Z (.c c),Z<|I n,Y] M=Z (.nx [Z (.c c),Z<|I n,Z<|I (z % n)],M1):=bH<|iA (pop_at rfl dk.ty C) rfl 50;obtain⟨y,M2,D,t,A,_⟩:=Dk.popE k;have B:=em (z:=z) (n:=n) 50;generalize z % (n:Int)=i at s1 B;have r:fOp dC aOp (aD 1) [Z (.c c),Z<|I n,Z<|I i] M1=Z (I ((i+1+y % ((n:Int)-1)) % n),M2):=iA (bG (bG rfl rfl wD) (iA (pop_at rfl k.ty D) (bG rfl rfl aBk) 50) wD) rfl 50;have E:=S5 y (show(n:Int)-1≠0 by omega);have F:=L7 y (show 0<(n:Int)-1 by omega);generalize y % ((n:Int)-1)=v at r E F;refine⟨i,(i+1+v) % n,M2,dF rfl<|(aK s1).trans (gQ<|CY rfl r),B,em 50,fun e=>?_,t,o.trans A⟩;by_cases G:i+1+v<n
 .rw[Int.emod_eq_of_lt 50 G]at e;omega
 .have:(i+1+v) % (n:Int)=i+1+v-n:=by
   rw[<- Int.sub_emod_right,Int.emod_eq_of_lt 50 50]
  omega
def Tm:Nat->Ud->Prop
 |0,d=>bC d=Y
 |m+1,d=>∀ds,bC d=Z ds->ds.length<64/\∀x∈ds,Tm m x
def Tm.up:∀{m:Nat}{d:Ud},Tm m d->Tm (m+1) d
 |0,d=>fun h=>fun ds hd=>by rw[show bC d=Y from h]at hd;cases hd
 |m+1,d=>fun h=>fun ds hd=>⟨(h ds hd).1,fun x k=>((h ds hd).2 x k).up⟩
def Tm.upTo{k:Nat}{d:Ud}(h:Tm m d)(le:m<=k):Tm k d:=by
 induction le with
 |refl=>exact h
 |step _ ih=>exact ih.up
noncomputable def lsD:Nat->Ud->Ud
 |m+1,.tuple ds=>.list (ds.map<|lsD m)
 |_,d=>d
def ON:∀(m:Nat)(d:Ud)(M:Sto),Tm m d->cX (m+1) [.d d] M=Z (.d (lsD m d),M):=by
 have non:∀(m:Nat)(d:Ud)(M:Sto),(∀ds,d≠.tuple ds)->lsD m d=d/\cX (m+1) [.d d] M=Z (.d d,M):=fun m d M h=>by
  cases d with
  |tuple ds=>exact absurd rfl<|h ds
  |_=>exact⟨by cases m<;>rfl,rfl⟩
 intro m
 induction m with
 |zero=>
  intro d M h;obtain⟨A,k⟩:=non 0 d M fun ds e=>by rw[e]at h;cases h
  exact k
 |succ m ih=>
  intro d M h;by_cases q:∃ds,d=.tuple ds
  .obtain⟨ds,rfl⟩:=q;obtain⟨D,B⟩:=h ds rfl;have C:=aJM (i:=0) (cap:=[Y]) (f:=aD 0) (e:=aP (cX (m+1)) xT) (γ:=[Z (.d (.tuple ds))]) rfl rfl 50 fun x o=>aZ (aG rfl aR)<|ih x M<|B x o;refine dF rfl ?_;have t:gB (zW "tuple"<|aD 0) [Z (.d (.tuple ds))] M=Z (true,M):=rfl;exact fZ<|(eB t).trans (gQ C)
  .obtain⟨A,k⟩:=non (m+1) d M fun ds e=>q ⟨ds,e⟩;rw[A];exact k
structure Bw(d:Ud):Prop where
 t:Thg d
 l:Thg (lsD 6 d)
 m:Tm 6 d
structure Es(k:Nat)(es:T5):Prop where
 len:es.length<=k
 ok:∀e∈es,Itm e/\lsD 5 e=e/\Tm 5 e
def Es.le(h:Es k es)(o:k<=l):Es l es:=⟨E6 h.len o,h.ok⟩
def Es.cut{lo:To}(h:Es k es):Es k (gP es lo hi):=⟨E6 (AH ..) h.len,fun e o=>h.ok e<|sQ e o⟩
def Es.app{fs:T5}(h:Es k es)(g:Es l fs):Es (k+l) (es++fs):=⟨by rw[C1];have:=h.len;have:=g.len;omega,fun e o=>(C9.mp o).elim (h.ok e) (g.ok e)⟩
def Es.rev(h:Es k es):Es k es.reverse:=⟨by rw[Y5];exact h.len,fun e o=>h.ok e<|List.mem_reverse.mp o⟩
def RJ(h:0<=i/\i<1000):Itm (.int i)/\lsD 5 (.int i)=.int i/\Tm 5 (.int i):=⟨zY 50,rfl,Tm.upTo (m:=0) rfl 52⟩
def LU{ns:Ta}{k:Nat}(l:ns.length<=k)(h:∀a∈ns,0<=a/\a<1000):Es k (ns.map .int):=⟨by rw[A4];exact l,fun e o=>by
 obtain⟨a,ha,rfl⟩:=C7.mp o;exact RJ (h a ha)⟩
def LJ{e:Ud}(h:Itm e/\lsD 5 e=e/\Tm 5 e):Es 1 [e]:=⟨A8 _,fun x k=>by rw[A6.mp k];exact h⟩
def aEL:Itm (.bool true)/\lsD 5 (.bool true)=.bool true/\Tm 5 (.bool true):=⟨aEj rfl,rfl,Tm.upTo (m:=0) rfl 52⟩
def TN(h:Es 30 es):Bw (.tuple es):=by
 have t:es.map (lsD 5)=es:=by
  rw[Z6 (g:=id) fun e o=>(h.ok e o).2.1,List.map_id]
 have A:=h.len;refine⟨aCd (k:=false) (fun e o=>(h.ok e o).1) 50,?_,fun ds hd=>?_⟩
 .show Thg (.list (es.map<|lsD 5));rw[t];exact aCd (k:=true) (fun e o=>(h.ok e o).1) 50
 .cases hd;exact⟨50,fun e o=>(h.ok e o).2.2⟩
def VI:T5:=[.tuple [],.tuple [.int 0],.none,.tuple [.int 0,.int 1],.tuple [.int 1,.int 0],.str "01",.tuple [.int 0,.int 0],.int 7]
def aCg:∀d∈VI,Bw d:=by
 have o:VI.all (fun d=>aDk d&&aDk (lsD 6 d))=true:=by decide +kernel
 intro d hd;have:=D5.mp o d hd;rw[B4]at this;refine⟨RT this.1,RT this.2,?_⟩
 have t:Tm 2 d:=by
  simp only[VI,B8,L9,A0r]at hd;rcases hd with rfl|rfl|rfl|rfl|rfl|rfl|rfl|rfl<;>intro ds A<;>cases A<;>refine⟨52,fun x k=>?_⟩<;>simp only[B8,L9,A0r]at k
  .rw[k];exact Tm.upTo (m:=0) rfl 52
  .rcases k with rfl|rfl<;>exact Tm.upTo (m:=0) rfl 52
  .rcases k with rfl|rfl<;>exact Tm.upTo (m:=0) rfl 52
  .rcases k with rfl|rfl<;>exact Tm.upTo (m:=0) rfl 52
 exact t.upTo 52
theorem aCR:∀ws:T0,PyData.canLayAll0 (ws.map wyD)=true/\PyData.depthAll (ws.map wyD)<=1
 |[]=>⟨rfl,F9 _⟩
 |ns::ws=>by
  obtain⟨a,b⟩:=aCR ws;constructor
  .show(PyData.canLayAll0 (ns.map .int)&&PyData.canLayAll0 (ws.map wyD))=true;rw[sC,a];rfl
  .show max (PyData.depthAll (ns.map .int)+1) (PyData.depthAll<|ws.map wyD)<=1;rw[uN];exact Nat.max_le.mpr ⟨A8 _,b⟩
def aOy{ws:T0}:eqX false (.d (.tuple (ws.map wyD))) (.d (.tuple [])) M=Z (B ws.isEmpty,M):=by
 have k:SeqAt.shaped (.tuple (ws.map wyD))=true:=by
  obtain⟨a,b⟩:=aCR ws;unfold SeqAt.shaped;rw[show PyData.canLay0 (.tuple (ws.map wyD))=true from a,C4 (by show PyData.depthAll (ws.map wyD)+1<=64;omega)];rfl
 show(if (SeqAt.shaped (.tuple (ws.map wyD))&&SeqAt.shaped (.tuple []))=true then Z (CD.d (.bool (PyData.eqv (.tuple (ws.map wyD)) (.tuple []))),M)else Y)=_;rw[k,show SeqAt.shaped (.tuple [])=true from rfl,A7 (by rfl)];cases ws<;>rfl
def UV{M1:Sto}(h:f γ M=Z (.d x,M1)):bI (aC f aO) γ M=Z (.d (.tuple [x]),M1):=by
 unfold bI;rw[aG h aR,A1];show(if 1<=sizeLine then Z (CD.d (.tuple [x]),M1)else Y)=_;rw[A7 (sz 52)]
def Vt(k:Nat)(f:EF)(γ:Ga)(M:Sto):Prop:=∃es,f γ M=Z (.d (.tuple es),M)/\Es k es
def vG{l u:OF}{p q:To}(h:Vt k f γ M)(o:l γ M=Z (p,M))(t:u γ M=Z (q,M)):Vt k (fSl f l u) γ M:=let⟨_,e,s⟩:=h;⟨_,pP e o t sl_tup,s.cut⟩
def uG(h:Vt k f γ M)(t:Vt l g γ M)(B:k+l<=900):Vt (k+l) (fOp dU f g) γ M:=let⟨_,e,s⟩:=h;let⟨_,A,o⟩:=t;⟨_,bG e A<|sS (by have:=s.len;have:=o.len;omega),s.app o⟩
def aMd(h:f γ M=Z (.d x,M))(k:Itm x/\lsD 5 x=x/\Tm 5 x):Vt 1 (bI<|aC f aO) γ M:=⟨_,UV h,LJ k⟩
def aAZ{y:Ud}(h:f γ M=Z (.d x,M))(k:g γ M=Z (.d y,M))(o:Itm x/\lsD 5 x=x/\Tm 5 x)(t:Itm y/\lsD 5 y=y/\Tm 5 y):Vt 2 (bI<|aC f<|aC g aO) γ M:=⟨_,CY h k,(LJ o).app (LJ t)⟩
def BE(x:CD):Prop:=∃es,x=.d (.tuple es)/\Es 30 es
def AG{b:Nat}{xs:T8}(t:γ[v]?=Z (Z (.c b)))(o:M[b]?=Z (.lst xs))(A:∀x∈xs,BE x)(C:xs.length<=100)(h:Vt k f γ M)(B:k<=30):∃ys,eA (cZ "list" cU (aD v)<|aC f aO) γ M=Z (.nx γ,M.set b (.lst ys))/\(∀x∈ys,BE x)/\ys.length=xs.length+1:=by
 obtain⟨es,e,s⟩:=h;refine⟨xs++[.d (.tuple es)],oK<|oF (aAY t) (aCk o) (aG e aR)<|ET o 50,fun x hx'=>?_,by rw[C1,D8]⟩;rcases C9.mp hx' with hx'|hx'
 .exact A x hx'
 .rw[A6.mp hx'];exact⟨es,rfl,s.le B⟩
def VJ(h:γ[v]?=Z (Z (.d (.tuple ds)))):NA (aD v) (cR xq2) γ M=Z (.d (.tuple ds.reverse),M):=by
 unfold NA;rw[aAY h];rfl
abbrev GB(c:Nat)(ds:T5)(n k:Int)(g4 g5 g6 g7 g8 g9:Th):Ga:=[Z (.c c),Z (.d (.tuple ds)),Z<|I n,Z<|I k,g4,g5,g6,g7,g8,g9]
abbrev GC(c:Nat)(ws:T0)(n k a:Int)(ns:Ta)(w p:Int)(g8 g9:Th):Ga:=GB c (ws.map wyD) n k (Z<|I a) (Z (.d (wyD ns))) (Z<|I w) (Z<|I p) g8 g9
abbrev b4D(ns:Ta)(e2 e3 e4:T5):T8:=[.d (.tuple (ns.map PyData.int).reverse),.d (.tuple e2),.d (.tuple e3),.d (.tuple e4)]
def aIv{ws:T0}(o:n<=8)(W:Wys us n i j ws):∀d∈ws.map wyD,Bw d:=fun d hd=>by
 obtain⟨ns,hn,rfl⟩:=C7.mp hd;obtain⟨_,rg,k⟩:=W.ok ns hn;have:=wQ rg k;exact TN (LU 50 fun a ha=>by have:=rg a ha;omega)
def aJG{ds:T5}(hd:∀d∈ds,Bw d)(D:ds.length<=4)(dk:Dk M c (m+1)):∃es M',cQ aNz (GB c ds n k g4 g5 g6 g7 g8 g9) M=Z (.rt (.d (.tuple es)),M')/\es.length<=8/\(∀d∈es,Bw d)/\Dk M' c m/\Ex c M M':=by
 obtain⟨z,M1,C,o,t,_⟩:=Dk.popE dk;obtain⟨d,A,B⟩:=vW (ds:=VI) 52 rfl;have ix:fOp ixF fY (fOp dC xq0<|fC (.int 8)) (GB c ds n k g4 g5 g6 g7 g8 g9) M=Z (.d d,M1):=bG (tK _ _) (qF (pop_at rfl dk.ty C) 52)<|MB rfl A;refine⟨ds++[d],M1,gQ<|bG rfl (UV ix)<|sS 54,by rw[C1,D8];omega,fun x hx=>?_,o,t⟩;rcases C9.mp hx with hx|hx
 .exact hd x hx
 .rw[A6.mp hx];exact aCg d B
abbrev OU(a:Nat)(b:Ud)(c:Int):Ga:=[Z (.c a),Z (.d b),Z<|I c,Y,Y,Y,Y,Y,Y,Y]
def aKQ{ws:T0}(n2:2<=n)(n8:n<=8)(W:Wys us n i j ws)(wl:ws.length<=4)(dk:Dk M c (m+3)):∃es M',hZ [.c c,.d (.tuple (ws.map wyD)),I n] M=Z (.d (.tuple es),M')/\es.length<=8/\(∀d∈es,Bw d)/\Dk M' c m/\Ex c M M':=by
 have bw:=aIv n8 W;have hc:=dk.lt;have dl:(ws.map wyD).length<=4:=by rw[A4];exact wl
 obtain⟨z,M1,p1,P,Q,_⟩:=Dk.popE (m:=m+2) dk;have s1:aW aAU (hName 3) (OU c (.tuple (ws.map wyD)) n) M=Z (.nx (GB c (ws.map wyD) n (z % 9) Y Y Y Y Y Y),M1):=bH (i:=3)<|qF (pop_at rfl dk.ty p1) 52;have k0:=S5 z (show(9:Int)≠0 by decide);have k9:=L7 z (show(0:Int)<9 by decide);generalize z % 9=k at s1 k0 k9;have t:gOr (gB<|fOp (eqX false) (aD 1)<|bI aO) aJS (GB c (ws.map wyD) n k Y Y Y Y Y Y) M1=Z (ws.isEmpty || (k==0),M1):=rH (cM<|bG rfl rfl aOy) fun _=>cM<|bG rfl rfl LR;cases h:(ws.isEmpty || (k==0))with
 |true=>
  rw[h]at t;obtain⟨es,M2,e,a,b,d,x⟩:=aJG (n:=n) (k:=k) (m:=m+1) (g4:=Y) (g5:=Y) (g6:=Y) (g7:=Y) (g8:=Y) (g9:=Y) bw dl P;exact⟨es,M2,dF rfl<|(aK s1).trans (fZ<|(eB t).trans e),a,b,d.le 50,Q.trans x⟩
 |false=>
  rw[h]at t;rw[Bool.or_eq_false_iff]at h;have kn:k≠0:=by simpa using h.2
  have wp:0<ws.length:=by
   cases ws with
   |nil=>cases h.1
   |cons a r=>exact Nat.succ_pos _
  obtain⟨y,M2,p2,S,T,_⟩:=Dk.popE (m:=m+1) P
  have s3:aW (fOp dC xq0<|aP iE xq1) (hName 4) (GB c (ws.map wyD) n k Y Y Y Y Y Y) M1=Z (.nx (GB c (ws.map wyD) n k (Z<|I (y % ws.length)) Y Y Y Y Y),M2):=by
   have:=bH (i:=4) (γ:=GB c (ws.map wyD) n k Y Y Y Y Y Y)<|iA (g:=aP iE xq1) (pop_at (v:=0) rfl P.ty p2) (aZ (aG rfl aR)<|AQ (r:=.tuple (ws.map wyD)) (ds:=ws.map wyD) rfl M2) (by rw[A4];omega);rw[A4]at this;exact this
  have a0:=S5 y (show(ws.length:Int)≠0 by omega);have a1:=L7 y (show 0<(ws.length:Int)by omega);generalize y % (ws.length:Int)=a at s3 a0 a1;obtain⟨d,ab,ac⟩:=aDR (xs:=ws.map wyD) (p:=a) ⟨a0,by rw[A4];exact a1⟩;obtain⟨ns,hn,rfl⟩:=C7.mp ac;have s4:aW (fOp ixF (aD 1)<|aD 4) (hName 5) (GB c (ws.map wyD) n k (Z<|I a) Y Y Y Y Y) M2=Z (.nx (GB c (ws.map wyD) n k (Z<|I a) (Z (.d (wyD ns))) Y Y Y Y),M2):=bH (i:=5)<|bG rfl rfl<|MB rfl ab;obtain⟨w,M3,p3,ae,U,ak⟩:=Dk.popE (m:=m) S;have s5:aW xq0 (hName 6) (GB c (ws.map wyD) n k (Z<|I a) (Z (.d (wyD ns))) Y Y Y Y) M2=Z (.nx (GB c (ws.map wyD) n k (Z<|I a) (Z (.d (wyD ns))) (Z<|I w) Y Y Y),M3):=bH (i:=6)<|pop_at rfl S.ty p3;obtain⟨l2,rg,hw⟩:=W.ok ns hn;have l8:=wQ rg hw
  have s6:aW (fOp dC (aD 6)<|aP iE LO) (hName 7) (GB c (ws.map wyD) n k (Z<|I a) (Z (.d (wyD ns))) (Z<|I w) Y Y Y) M3=Z (.nx (GB c (ws.map wyD) n k (Z<|I a) (Z (.d (wyD ns))) (Z<|I w) (Z<|I (w % ns.length)) Y Y),M3):=by
   have:=bH (i:=7) (γ:=GB c (ws.map wyD) n k (Z<|I a) (Z (.d (wyD ns))) (Z<|I w) Y Y Y)<|iA (f:=aD 6) (g:=aP iE LO) (M:=M3) (z:=w) rfl (aZ (aG rfl aR)<|AQ (r:=wyD ns) (ds:=ns.map .int) rfl M3) (by rw[A4];omega);rw[A4]at this;exact this
  generalize w % (ns.length:Int)=p at s6;have es:Es 8 (ns.map .int):=LU 50 fun x hx=>by have:=rg x hx;omega
  have ii:∀x∈ns,Itm (.int x)/\lsD 5 (.int x)=.int x/\Tm 5 (.int x):=fun x hx=>RJ (by have:=rg x hx;omega);have g0:ns.getD 0 0∈ns:=by rw[E3,C0 (show 0<ns.length by omega)];exact A0q _
  have gl:ns.getD (ns.length-1) 0∈ns:=by rw[E3,C0 (show ns.length-1<ns.length by omega)];exact A0q _
  have C:∀g8 g9 M,Vt 8 (aD 5) (GC c ws n k a ns w p g8 g9) M:=fun g8 g9 M=>⟨_,rfl,es⟩;have f0:∀g8 g9 M,fOp ixF (aD 5) (fC (.int 0)) (GC c ws n k a ns w p g8 g9) M=Z (I<|ns.getD 0 0,M):=fun g8 g9 M=>bG rfl rfl<|NV (d:=wyD ns) rfl 50;have fl:∀g8 g9 M,fOp ixF (aD 5) xq2 (GC c ws n k a ns w p g8 g9) M=Z (I<|ns.getD (ns.length-1) 0,M):=fun g8 g9 M=>bG rfl aKc<|WL (d:=wyD ns) rfl 50;have pl:∀g8 g9 M,cR (aD 7) (GC c ws n k a ns w p g8 g9) M=Z (Z p,M):=fun _ _ _=>rfl;have V:∀g8 g9 M,cR aCj (GC c ws n k a ns w p g8 g9) M=Z (Z (p+1),M):=fun _ _ _=>rfl;obtain⟨G,q2,z2⟩:=uG (vG (C Y Y M3) (l:=bF) rfl<|pl Y Y M3) (vG (C Y Y M3) (V Y Y M3) (u:=bF) rfl) 52;obtain⟨H,q3,z3⟩:=uG (C Y Y M3) (vG (C Y Y M3) (l:=bF) (u:=cR<|fC (.int 1)) rfl rfl) 52;obtain⟨K,q4,z4⟩:=vG (C Y Y M3) (l:=bF) (u:=cR xq2) rfl rfl;have q1:NA (aD 5) (cR xq2) (GC c ws n k a ns w p Y Y) M3=Z (.d (.tuple (ns.map PyData.int).reverse),M3):=VJ rfl;have s7:aW xq9 (hName 8) (GC c ws n k a ns w p Y Y) M3=Z (.nx (GC c ws n k a ns w p (Z (.c M3.length)) Y),M3++[.lst (b4D ns G H K)]):=bH (i:=8)<|xZ (aG q1<|aG q2<|aG q3<|aG q4 aR) (show 4<=900 by decide);have X:Dk (M3++[.lst (b4D ns G H K)]) c m:=ae.app;have a2:Ex c M (M3++[.lst (b4D ns G H K)]):=(Q.trans<|T.trans U).trans (Ex.app _ _ _);have ml:M.length<=M3.length:=(Q.trans<|T.trans U).len;have b4:(M3++[Cell.lst (b4D ns G H K)])[M3.length]?=Z (.lst (b4D ns G H K)):=gG
  have x4:∀x∈(b4D ns G H K),BE x:=fun x hx=>by
   simp only[b4D,B8,L9,A0r]at hx;rcases hx with rfl|rfl|rfl|rfl
   .exact⟨_,rfl,es.rev.le 52⟩
   .exact⟨_,rfl,z2.le 52⟩
   .exact⟨_,rfl,z3.le 52⟩
   .exact⟨_,rfl,z4.le 52⟩
  generalize M3++[Cell.lst (b4D ns G H K)]=N4 at s7 X a2 b4;obtain⟨af,B⟩:∃xs:T8,xs=(b4D ns G H K):=⟨_,rfl⟩;rw[<- B]at b4 x4;have l4:af.length=4:=by rw[B];rfl
  clear B;have hb:M3.length≠c:=50
  generalize M3.length=b at s7 b4 ml hb;have o:∀{N:Sto}{xs:T8}{ys:T8},N[b]?=Z (.lst xs)->(N.set b (.lst ys))[b]?=Z (.lst ys):=fun h=>E2 (B3.mp h).1;have am:=S5 (w / 8) (show(n:Int)≠0 by omega);have ao:=L7 (w / 8) (show 0<(n:Int)by omega);obtain⟨D,u5,x5,l5⟩:=AG (v:=8) (γ:=GC c ws n k a ns w p (Z (.c b)) Y) rfl b4 x4 50 (uG (uG (vG (C (Z (.c b)) Y N4) (l:=bF) rfl<|pl _ _ _) (aMd (f:=fOp dC (fOp iV (aD 6)<|fC (.int 8))<|aD 2) (iA (yG rfl 52 52) rfl 50)<|RJ 50) 52) (vG (C (Z (.c b)) Y N4) (pl _ _ _) (u:=bF) rfl) 52) 52;have b5:=o (ys:=D) b4;have a3:Dk (N4.set b (.lst D)) c m:=X.put hb;have a4:Ex c M (N4.set b (.lst D)):=a2.put ml;generalize N4.set b (.lst D)=R at u5 b5 a3 a4;obtain⟨E,u6,x6,l6⟩:=AG (v:=8) (γ:=GC c ws n k a ns w p (Z (.c b)) Y) rfl b5 x5 50 (uG (uG (vG (C (Z (.c b)) Y R) (l:=bF) rfl<|pl _ _ _) (show Vt 1 fV _ R from⟨_,tM _ _,LJ aEL⟩) 52) (vG (C (Z (.c b)) Y R) (V _ _ _) (u:=bF) rfl) 52) 52;have b6:=o (ys:=E) b5;have a5:Dk (R.set b (.lst E)) c m:=a3.put hb;have a6:Ex c M (R.set b (.lst E)):=a4.put ml;generalize R.set b (.lst E)=N6 at u6 b6 a5 a6;obtain⟨F,u7,x7,l7⟩:=AG (v:=8) (γ:=GC c ws n k a ns w p (Z (.c b)) Y) rfl b6 x6 50 (uG (vG (C (Z (.c b)) Y N6) (l:=bF) (u:=cR xq2) rfl rfl) (aAZ (f0 _ _ _) (fl _ _ _) (ii _ g0)<|ii _ gl) 52) 52;have b7:=o (ys:=F) b6;have a7:Dk (N6.set b (.lst F)) c m:=a5.put hb;have a8:Ex c M (N6.set b (.lst F)):=a6.put ml;generalize N6.set b (.lst F)=N7 at u7 b7 a7 a8;obtain⟨A,u8,x8,ap⟩:=AG (v:=8) (γ:=GC c ws n k a ns w p (Z (.c b)) Y) rfl b7 x7 50 (aAZ (f0 _ _ N7) (fl _ _ N7) (ii _ g0)<|ii _ gl) 52;have b8:=o (ys:=A) b7;have a9:Dk (N7.set b (.lst A)) c m:=a7.put hb;have aa:Ex c M (N7.set b (.lst A)):=a8.put ml;generalize N7.set b (.lst A)=O at u8 b8 a9 aa
  have ag:aW aNm (hName 9) (GC c ws n k a ns w p (Z (.c b)) Y) O=Z (.nx (GC c ws n k a ns w p (Z (.c b))<|Z (.d (.tuple (gP (gP (ws.map wyD) (Z a)<|Z (a+1)) Y<|Z (w / 64 % 2))))),O):=bH (i:=9) (pP (pP rfl rfl rfl sl_tup) rfl (by
   have:fOp dC (fOp iV (aD 6) (fC (.int 64))) (fC (.int 2)) (GC c ws n k a ns w p (Z (.c b)) Y) O=Z (I (w / 64 % 2),O):=qF (yG rfl 52 52) 52;unfold cR;rw[this];rfl) sl_tup)
  obtain⟨v,ah,ai⟩:=aDR (xs:=A) (p:=k-1) ⟨50,50⟩;obtain⟨ev,rfl,aj⟩:=x8 v ai
  have ix:fOp ixF (aD 8) (fOp KR (aD 3)<|fC (.int 1)) (GC c ws n k a ns w p (Z (.c b))<|Z (.d (.tuple (gP (gP (ws.map wyD) (Z a)<|Z (a+1)) Y<|Z (w / 64 % 2))))) O=Z (.d (.tuple ev),O):=bG rfl (bG rfl rfl aBk) (by
   show(match O[b]? with|some (.lst xs)=>_|_=>Y)=_;rw[b8];show(atI A (k-1)).bind _=_;rw[ah];rfl)
  have c2:=aFJ (ds:=ws.map wyD) (a:=a) a0 (by rw[A4];exact a1);have c3:=AH (gP (ws.map wyD) (Z a)<|Z (a+1)) Y<|Z (w / 64 % 2);have c4:=AH (ws.map wyD) (Z a)<|Z (a+1);refine⟨_,O,dF rfl<|(aK s1).trans ((aK<|(bU t).trans rfl).trans ((aK s3).trans ((aK s4).trans ((aK s5).trans ((aK s6).trans ((aK s7).trans ((aK u5).trans ((aK u6).trans ((aK u7).trans ((aK u8).trans ((aK ag).trans (gQ<|bG (bG (bG (pP rfl rfl rfl sl_tup) (UV ix)<|sS (by rw[D8];omega)) (pP rfl rfl rfl sl_tup)<|sS (by rw[C1,D8];omega)) rfl<|sS (by rw[C1,C1,D8];omega))))))))))))),by rw[C1,C1,C1,D8];omega,fun x hx=>?_,a9,aa⟩;rcases C9.mp hx with hx|hx
  .rcases C9.mp hx with hx|hx
   .rcases C9.mp hx with hx|hx
    .exact bw x<|sQ x hx
    .rw[A6.mp hx];exact TN aj
   .exact bw x<|sQ x hx
  .exact bw x<|sQ x<|sQ x hx
def BI{h:FX}{f:AF}{M1 M2:Sto}{y:CD}(ha:f γ M=Z (xs,M1))(e:h xs M1=Z (.v y,M2)):oS h f γ M=Z (y,M2):=by
 unfold oS;rw[ha,A1];rw[e];rfl
def tmB:Nat->Ud->Bool
 |0,d=>(bC d).isNone
 |m+1,d=>match bC d with
  |none=>true
  |some ds=>decide (ds.length<64)&&ds.all (tmB m)
theorem SZ:∀{m:Nat}{d:Ud},tmB m d=true->Tm m d
 |0,d=>fun h=>Option.isNone_iff_eq_none.mp h
 |m+1,d=>fun h=>fun ds hd=>by
  unfold tmB at h;rw[hd]at h;rw[B4,U7,D5]at h;exact⟨h.1,fun x k=>SZ<|h.2 x k⟩
def aPm{s:Str}:eqX false (.d (.str s)) (.d (.str s)) M=Z (B true,M):=by
 show Z (B (s==s),M)=_;rw[U4]
def aOz{b:Bool}(h:γ[v]?=Z (Z<|B b)):zW "bool" (aD v) γ M=Z (B true,M):=by
 simp only[zW,aD,h];rfl
def VM(h:TH x):wG [.d x] M=Z (.d (.str (PyData.shown x)),M):=by
 rw[aFt];exact aDC h.fit (by rw[J9];decide) 52
def aDS{b:Bool}(h:f γ M=Z (B true,M))(k:g γ M=Z (B b,M)):lL f g γ M=Z (B b,M):=by
 unfold lL;rw[h,A1];exact k
abbrev YI(a:Nat)(b:Ua Tie)(c:Int)(d:Int)(e:Ud):Ga:=[Z (.c a),Z<|fzW b,Z<|I c,Z<|I d,Z (.d e),Y,Y,Y]
abbrev HY(a:Nat)(b:Ua Tie)(c:Int)(d:Int)(e:Ud)(f:Ud):Ga:=[Z (.c a),Z<|fzW b,Z<|I c,Z<|I d,Z (.d e),Z (.d f),Y,Y]
abbrev HP(a:Nat)(b:Ua Tie)(c:Int)(d:Int)(e:Ud)(f:Ud)(g:Bool):Ga:=[Z (.c a),Z<|fzW b,Z<|I c,Z<|I d,Z (.d e),Z (.d f),Z<|B g,Y]
abbrev ZM(a:Nat)(b:Ua Tie)(c:Int)(d:Int)(e:Ud)(f:Ud)(g:Bool)(h:Bool):Ga:=[Z (.c a),Z<|fzW b,Z<|I c,Z<|I d,Z (.d e),Z (.d f),Z<|B g,Z<|B h]
def aHM(t:n<=8)(A:lK M w n ws)(C:Tw n us ws)(k:TH x)(D:ulk n (.int i) (.int j)=true):oP [.c w,fzW us,I i,I j,.d x] M=Z (B true,M):=by
 obtain⟨fs,o,E,_,_⟩:=A.obj;have s1:aW (aP wG xq4) (hName 5) (YI w us i j x) M=Z (.nx (HY w us i j x (.str (PyData.shown x))),M):=bH<|aZ (aG rfl aR)<|VM k;have s2:aW (oS bM<|aC (aD 0) aHa) (hName 6) (HY w us i j x (.str (PyData.shown x))) M=Z (.nx (HP w us i j x (.str (PyData.shown x))<|apD n us i j x),M):=bH<|BI (aG rfl<|aG rfl<|aG rfl<|aG rfl aR)<|JI t A C k.tt D;have s3:aW aMO (hName 7) (HP w us i j x (.str (PyData.shown x))<|apD n us i j x) M=Z (.nx (ZM w us i j x (.str (PyData.shown x)) (apD n us i j x)<|apD n us i j x),M):=bH<|aZ (aG rfl<|aG (by simp![uT,o,E])<|aG rfl<|aG rfl<|aG rfl aR)<|OR t k.tt;refine dF rfl<|(aK s1).trans ((aK s2).trans ((aK s3).trans (gQ<|aDS (aOz rfl)<|aDS ?_<|bG (aZ (aG rfl aR)<|VM k) rfl aPm)));rw[bG rfl rfl aIe,U4]
abbrev aJc(a:Nat)(b:Ud)(c:Ud)(d:Ud):Ga:=[Z (.c a),Z (.d b),Z (.d c),Z (.d d),Y]
abbrev aFD(a:Nat)(b:Ud)(c:Ud)(d:Ud):Ga:=[Z (.c a),Z (.d b),Z (.d c),Z (.d d),Y,Y]
abbrev oG(a:Nat)(b:Ud)(c:Ud)(d:Ud)(e:Bool):Ga:=[Z (.c a),Z (.d b),Z (.d c),Z (.d d),Z<|B e,Y]
def GJ{us:Ua Tie}{y z:Ud}(k:lK M w n ws)(t:ulk n x y=false):gL [.c w,.d x,.d y,.d z] M=Z (B true,M++[.exc false "NoPlace" []]):=by
 obtain⟨fs,o,A,_,_⟩:=k.obj;have fa:aC aDF xq3 (aJc w x y z) M=Z ([I n,.d x,.d y],M):=aG (by simp![uT,o,A])<|aG rfl<|aG rfl aR;have r:bM [.c w,.d x,.d y,.d z] M=Z (.x ⟨"NoPlace",[]⟩,M):=aNg rfl<|aIS<|UR fa<|aNF t;have s1:aW ZV (hName 4) (aFD w x y z) M=Z (.nx (oG w x y z false),M):=rfl;have C:hV (oG w x y z false) M=Z (.xc (oG w x y z false) ⟨"NoPlace",[]⟩,M):=UR (aG rfl<|aG rfl<|aG rfl<|aG rfl aR) r;have e:(M++[Cell.exc false "NoPlace" []])[M.length]?=Z (.exc false "NoPlace" []):=gG;have D:List.lookup ("NoPlace":Str) [(("NoPlace":Str),true)]=Z true:=rfl;have E:jA.lookup ("NoPlace":Str)=Z true:=rfl;have F:fQ.lookup ("NoPlace":Str)=Z true:=rfl
 have G:UL [⟨[("NoPlace",true)],(Z 5),eW⟩] (oG w x y z false) ⟨"NoPlace",[]⟩ M=Z (.nx (oG w x y z true),M++[.exc false "NoPlace" []]):=by
  simp![UL,D,eW,e,E,F]
 have s2:ZE hV [⟨[("NoPlace",true)],(Z 5),eW⟩] (oG w x y z false) M=Z (.nx (oG w x y z true),M++[.exc false "NoPlace" []]):=by
  unfold ZE;rw[C,A1];exact G
 exact dF rfl<|(aK s1).trans ((aK s2).trans rfl)
def aCz(i j n:Int):T5:=[.tuple [.int i,.int i],.tuple [.int i,.int n],.tuple [.int (-1),.int j],.tuple [.int i,.none],.tuple [.str "0",.int j],.tuple [.int i,.bool true],.tuple [.bool false,.int j],.tuple [.tuple [.int 0],.int j],.tuple [.int i,.int 1000000000000000000000000000000],.tuple [.int n,.int n]]
def aAG{i j:Int}{n:Nat}(t:n<=8):∀d∈aCz i j n,∃x y,d=.tuple [x,y]/\ulk n x y=false:=by
 have o:plc n (.int 1000000000000000000000000000000)=false:=by
  show(decide (0<=(1000000000000000000000000000000:Int))&&decide ((1000000000000000000000000000000:Int)<n))=false;rw[F6 (show ¬(1000000000000000000000000000000:Int)<n by omega),A1d]
 have k:plc n (.int n)=false:=by
  show(decide (0<=(n:Int))&&decide ((n:Int)<n))=false;rw[F6 (show ¬(n:Int)<n by omega),A1d]
 intro d hd;simp only[aCz,B8,L9,A0r]at hd;rcases hd with rfl|rfl|rfl|rfl|rfl|rfl|rfl|rfl|rfl|rfl<;>refine⟨_,_,rfl,?_⟩
 .show(_&&(_&&!(i==i)))=false;rw[U4,Bool.not_true,A1d,A1d]
 .show(_&&(plc n (.int n)&&_))=false;rw[k,A0d,A1d]
 .rfl
 .rfl
 .rfl
 .rfl
 .rfl
 .rfl
 .show(_&&(plc n (.int 1000000000000000000000000000000)&&_))=false;rw[o,A0d,A1d]
 .show(plc n (.int n)&&_)=false;rw[k,A0d]
abbrev ecIIId(a:Nat)(b:Int)(c:Int)(d:Int)(e:Ud):Ga:=[Z (.c a),Z<|I b,Z<|I c,Z<|I d,Z (.d e)]
def aBG(B:n<=8)(dk:Dk M c (m+1)):∃x y M',iS [.c c,I i,I j,I n] M=Z (.d (.tuple [x,y]),M')/\ulk n x y=false/\Dk M' c m/\Ex c M M':=by
 obtain⟨z,M1,C,k,o,_⟩:=Dk.popE dk;obtain⟨d,t,A⟩:=vW (ds:=aCz i j n) (m:=10) 52 rfl;obtain⟨x,y,rfl,D⟩:=aAG B d A;refine⟨x,y,M1,dF rfl ?_,D,k,o⟩;refine(aK rfl).trans ?_;refine(aK rfl).trans ?_;exact gQ<|bG rfl (qF (pop_at rfl dk.ty C) 52)<|MB rfl t
def WI{ws:T0}(k o:Bool)(W:Wys us n i j ws):apD n us i j (Rw k (ws.map fun ns=>Rw o<|ns.map .int))=true:=by
 have ha:(ws.map fun ns=>Rw o<|ns.map PyData.int).all (kB n us i j)=true:=D5.mpr fun d hd=>by
  obtain⟨ns,hn,rfl⟩:=C7.mp hd;obtain⟨t,rg,A⟩:=W.ok ns hn;rw[JO t ?_]
  .exact A
  .refine D5.mpr fun e B=>?_;obtain⟨a,ha,rfl⟩:=C7.mp B;have:=rg a ha;show(decide (0<=a)&&decide (a<n))=true;rw[C4 this.1,C4 this.2];rfl
 have st:fN (ws.map fun ns=>Rw o<|ns.map PyData.int)=ws.flatMap adj:=by
  unfold fN;rw[List.flatMap_map];congr 1;funext ns;rw[vR]
 unfold apD;rw[cO];dsimp only;rw[ha,st,aDO W.nd,A4,U4];rfl
structure ThL(y:Ud):Prop where
 a:TH y
 b:TH (lsD 7 y)
 c:Tm 7 y
def uS{es:T5}(h:∀d∈es,Bw d)(l:es.length<=9):ThL (.tuple es):=by
 refine⟨aIt (k:=false) (fun d hd=>(h d hd).t) l,aIt (k:=true) (fun d hd=>?_) 54,fun ds hd=>?_⟩
 .obtain⟨e,o,rfl⟩:=C7.mp hd;exact(h e o).l
 .cases hd;exact⟨50,fun x A=>(h x A).m⟩
def aHz:∀d∈qM++vH++II,ThL d:=fun d hd=>by
 have k:(qM++vH++II).all (fun d=>thB d&&(thB (lsD 7 d)&&tmB 7 d))=true:=by decide +kernel
 have:=D5.mp k d hd;rw[B4,B4]at this;exact⟨WE this.1,WE this.2.1,SZ this.2.2⟩
def aAE(dk:Dk M c (m+1)):∃d M',uK [.c c] M=Z (.d d,M')/\ThL d/\Dk M' c m/\Ex c M M':=by
 have t:=aCH (γ:=[Z (.c c),Y]) (M:=M);have cl:=dk.lt;have k:Dk ((M++[Cell.dk []]).set M.length Cell.dead) c (m+1):=(Dk.app dk).put 50;have A:Ex c M ((M++[Cell.dk []]).set M.length Cell.dead):=(Ex.app _ _ _).put (A8 _);generalize (M++[Cell.dk []]).set M.length Cell.dead=M0 at t k A;obtain⟨z,M1,po,B,C,_⟩:=Dk.popE k;have D:=pop_at (γ:=[Z (.c c),Z (.d (.list (qM++vH++II)))]) (v:=0) rfl k.ty po;obtain⟨d,E,F⟩:=aLc (L:=qM++vH++II) (z:=z) (m:=29) M1 52 rfl;have G:lC z 29=true:=eJ 52;refine⟨d,M1,dF rfl ?_,aHz d F,B,A.trans C⟩;show aY _ _ [Z (.c c),Y] M=_;have H:(16:Nat)<=sizeLine:=52
 have K:(0:Nat)<=sizeLine:=52
 have O:aAr (I 1) M=Z (I (-1),M):=rfl;have o:ZA (I 10) (I 30) M=Z (I 1000000000000000000000000000000,M):=rfl;have f0:CM [Z (.c c),Y] M=Z (.d (.dict []),M):=rfl
 have P:aW (dW<|aC (fC .none)<|aC RB<|aC ZV<|aC (fC (.int 0))<|aC (fC (.int 1))<|aC xq2<|aC aKG<|aC (fC (.str ""))<|aC (fC (.str "0"))<|aC (fC (.str "01"))<|aC (bI aO)<|aC (dW aO)<|aC CM<|aC (IE [((fC (.int 0)),(fC (.int 1)))])<|aC oR<|aC nR aO) (hName 1) [Z (.c c),Y] M=Z (.nx [Z (.c c),Z (.d (.list qM))],M0):=by
  refine(bH ?_).trans rfl;simp only[dW,bI,aC,fC,aO,fUn,fOp,A1,O,o,f0,t,jL,A1h,K,A1i];rfl
 have Q:aW (fOp dU (aD 1) oW) (hName 1) [Z (.c c),Z (.d (.list qM))] M0=Z (.nx [Z (.c c),Z (.d (.list (qM++vH)))],M0):=by
  refine(bH ?_).trans rfl;have q:=JR (xs:=qM) (ys:=vH) (M:=M0) 52;exact q
 have R:aW (fOp dU (aD 1) oA) (hName 1) [Z (.c c),Z (.d (.list (qM++vH)))] M0=Z (.nx [Z (.c c),Z (.d (.list (qM++vH++II)))],M0):=by
  refine(bH ?_).trans rfl;have q:=JR (xs:=qM++vH) (ys:=II) (M:=M0) 52;exact q
 rw[aK P,aK Q,aK R];simp only[cQ,fOp,aD,fC,List.getElem?_cons_zero,List.getElem?_cons_succ,A1,D,dC,pI,ifS,G,A1i,E]
abbrev GT(s:CD)(c:Nat)(kk:Th)(n:Int)(g4 g5 g6 g7 g8 g9 g10 g11 g12:Th):Ga:=[Z s,Z (.c c),kk,Z<|I n,g4,g5,g6,g7,g8,g9,g10,g11,g12]
theorem XQ:∀us:Ua Tie,tV (kvW us)=Z (us.map fun t=>(t.key,PyData.int t.a))
 |[]=>rfl
 |t::us=>by
  show(tV<|kvW us).bind _=_;rw[XQ us];rfl
abbrev GU(s:CD)(c:Nat)(kk:Th)(n:Int)(us:Ua Tie)(w:Nat)(i j:Int)(ys:T0)(g9 g10 g11 g12:Th):Ga:=GT s c kk n (Z<|fzW us) (Z (.c w)) (Z<|I i) (Z<|I j) (Z (.d (.tuple (ys.map wyD)))) g9 g10 g11 g12
abbrev t6D(ys:T0)(i j:Int):T5:=[.tuple (ys.map wyD).reverse,.tuple [],.list [],.tuple (ys.map wyD++gP (ys.map wyD) Y (Z 1)),.tuple [.tuple [.int i,.int j]],.tuple [.tuple [.int i,.int j],.tuple [.int i,.int j]]]
structure TL(M:Sto)(t q:Nat):Prop where
 ex:∃ds:T5,M[t]?=Z (.lst (ds.map .d))/\(∀d∈ds,ThL d)/\ds.length=q
def TL.to(h:TL M t q)(e:Ex c M M')(ne:t≠c):TL M' t q:=⟨let⟨ds,a,b⟩:=h.ex;⟨ds,e.to a ne,b⟩⟩
def aGl(ws:T0):lsD 7 (.tuple (ws.map wyD))=Rw true (ws.map fun ns=>Rw true<|ns.map .int):=by
 show PyData.list ((ws.map wyD).map (lsD 6))=.list _;rw[I0];congr 1;refine Z6 fun ns _=>?_;show PyData.list ((ns.map PyData.int).map (lsD 5))=.list (ns.map .int);rw[I0];rfl
def ZT{ws:T0}(A:2<=n)(B:n<=8)(W:Wys us n i j ws)(C:ws.length<=4)(dk:Dk M c (m+3))(h:TL M t q)(P:q<=100)(ne:t≠c):∃M',LP (GT s c kk n g4 g5 g6 g7 (Z (.d (.tuple (ws.map wyD)))) (Z (.c t)) g10 g11 g12) M=Z (.nx (GT s c kk n g4 g5 g6 g7 (Z (.d (.tuple (ws.map wyD)))) (Z (.c t)) g10 g11 g12),M')/\TL M' t (q+1)/\Dk M' c m/\(∀w,w<M.length->w≠c->w≠t->M'[w]?=M[w]?)/\M.length<=M'.length:=by
 obtain⟨es,M1,D,Q,E,o,k⟩:=aKQ A B W C dk;obtain⟨ds,a,b,l⟩:=(h.to k ne).ex;have F:=(B3.mp a).1;obtain⟨G,H,_⟩:=h.ex;refine⟨_,oK<|oF rfl (aCk H) (aG (aZ (aG rfl<|aG rfl<|aG rfl aR) D) aR)<|ET a 54,⟨ds++[.tuple es],by rw[E2 F,F7];rfl,fun d hd=>?_,by rw[C1,D8,l]⟩,o.put ne,fun w I K O=>by rw[E1 (S7 O)];exact k.at_ w I K,by rw[U2];exact k.len⟩;rcases C9.mp hd with hd|hd
 .exact b d hd
 .rw[A6.mp hd];exact uS E 50
abbrev aMC(a:Nat)(b:Ua Tie)(c:Int)(d:Int):Ga:=[Z (.c a),Z<|fzW b,Z<|I c,Z<|I d,Y]
def aCQ(dk:Dk M c (m+120)):∃h3 h4 h5 h6 h7 h8 h9 aw ax ay M',XO [Z s,Z (.c c),kk,g3,g4,g5,g6,g7,g8,g9,g10,g11,g12] M=Z (.nx [Z s,Z (.c c),kk,h3,h4,h5,h6,h7,h8,h9,aw,ax,ay],M')/\Dk M' c m:=by
 obtain⟨z,M1,p1,az,bz,_⟩:=Dk.popE (m:=m+119) dk;have z0:=S5 z (show(7:Int)≠0 by decide);have z1:=L7 z (show(0:Int)<7 by decide);obtain⟨n,hn,n2,P⟩:∃n:Nat,(2:Int)+z % 7=n/\2<=n/\n<=8:=⟨(2+z % 7).toNat,50,50,50⟩
 have s1:aW aOJ (hName 3) [Z s,Z (.c c),kk,g3,g4,g5,g6,g7,g8,g9,g10,g11,g12] M=Z (.nx (GT s c kk n g4 g5 g6 g7 g8 g9 g10 g11 g12),M1):=by
  rw[<- hn];exact bH (i:=3)<|bG rfl (qF (pop_at rfl dk.ty p1) 52) wD
 obtain⟨d,M2,e2,dt,a5,c2,dc,dl⟩:=aNx (m:=m+48) n2 P az;have s2:aW (aP oB aDB) (hName 4) (GT s c kk n g4 g5 g6 g7 g8 g9 g10 g11 g12) M1=Z (.nx (GT s c kk n (Z (.c d)) g5 g6 g7 g8 g9 g10 g11 g12),M2):=bH (i:=4)<|aZ (aG rfl<|aG rfl aR) e2;obtain⟨us,ud,ok,ul⟩:=dt;have d2:=(B3.mp ud).1;obtain⟨G,ws,e3,b0,tw⟩:=aLw (γ:=GT s c kk n (Z (.c d)) g5 g6 g7 g8 g9 g10 g11 g12) 50 50 ud ok ul rfl rfl;have b1:(M2++G)[d]?=Z (.dt (kvW us)):=by rw[C8 d2];exact ud
 have s3:QC 4 (aW (IK "Web" gJ aLY)<|hName 5) (GT s c kk n (Z (.c d)) g5 g6 g7 g8 g9 g10 g11 g12) M2=Z (.nx (GT s c kk n (Z<|fzW us) (Z (.c M2.length)) g6 g7 g8 g9 g10 g11 g12),(M2++G).set d .dead):=by
  unfold QC;rw[bH (i:=5) e3,A1]
  have f3:VC 4 (GT s c kk n (Z (.c d)) (Z (.c M2.length)) g6 g7 g8 g9 g10 g11 g12) (M2++G)=Z (GT s c kk n (Z<|fzW us) (Z (.c M2.length)) g6 g7 g8 g9 g10 g11 g12,(M2++G).set d .dead):=by
   show(match (M2++G)[d]? with|some (.dt kvs)=>(tV kvs).bind _|_=>Y)=_;rw[b1];show(tV<|kvW us).bind _=_;rw[XQ];rfl
  show(VC 4 (GT s c kk n (Z (.c d)) (Z (.c M2.length)) g6 g7 g8 g9 g10 g11 g12) (M2++G)).bind _=_;rw[f3,A1]
 have wk:lK ((M2++G).set d .dead) M2.length n ws:=b0.put (.inl d2);have cw:c<M2.length:=a5.lt;have a6:Dk ((M2++G).set d .dead) c (m+48):=a5.app.put dc;generalize hw:M2.length=w at s3 wk cw;generalize (M2++G).set d .dead=M3 at s3 wk a6;obtain⟨i,j,M4,e4,hi,hj,a7,b2,b3⟩:=aNa (m:=m+46) n2 a6;have b4:=wk.to b3 cw
 have s4:aW (aP oX aDB) (gU 2<|cG (hName 6)<|cG (hName 7) pH) (GT s c kk n (Z<|fzW us) (Z (.c w)) g6 g7 g8 g9 g10 g11 g12) M3=Z (.nx (GT s c kk n (Z<|fzW us) (Z (.c w)) (Z<|I i) (Z<|I j) g8 g9 g10 g11 g12),M4):=by
  unfold aW;rw[aZ (xs:=[.c c,I n]) (aG rfl<|aG rfl aR) e4,A1];rfl
 have hu:ulk n (.int i) (.int j)=true:=by
  show(plc n (.int i)&&(plc n (.int j)&&!(i==j)))=true;rw[show plc n (.int i)=true from(by show(decide (0<=i)&&decide (i<n))=true;rw[C4 hi.1,C4 hi.2];rfl),show plc n (.int j)=true from(by show(decide (0<=j)&&decide (j<n))=true;rw[C4 hj.1,C4 hj.2];rfl),O0.mpr a7];rfl
 obtain⟨ys,C,e5,W,yl,b5,b6⟩:=aLv (m:=m+45) P ok ul hi a7 b2;have H:=b4.to b6 cw;have s5:aW aNf (hName 8) (GT s c kk n (Z<|fzW us) (Z (.c w)) (Z<|I i) (Z<|I j) g8 g9 g10 g11 g12) M4=Z (.nx (GU s c kk n us w i j ys g9 g10 g11 g12),C):=bH (i:=8)<|aZ (aG rfl<|aG rfl<|aG rfl<|aG rfl<|aG rfl aR) e5;have bw:=aIv P W;have c3:(ys.map wyD).length<=4:=by rw[A4];exact yl
 have a0:=uS bw 50
 have b7:bM [.c w,I i,I j,.d (.tuple (ys.map wyD))] C=Z (.v (B true),C):=by
  rw[JI P H tw a0.a.tt hu,show apD n us i j (.tuple (ys.map wyD))=true from WI false false W]
 have b8:bM [.c w,I i,I j,.d (lsD 7 (.tuple (ys.map wyD)))] C=Z (.v (B true),C):=by
  rw[JI P H tw a0.b.tt hu,show apD n us i j (lsD 7 (.tuple (ys.map wyD)))=true from by rw[aGl];exact WI true true W]
 have t6:aMQ (GU s c kk n us w i j ys g9 g10 g11 g12) C=Z (false,C):=rH (eY<|cM<|BI (aG rfl<|aG rfl<|aG rfl<|aG rfl aR) b7) fun _=>eY<|cM<|BI (aG rfl<|aG rfl<|aG rfl<|aG (aZ (aG rfl aR)<|ON 7 _ C a0.c) aR) b8
 have a1:Bw (.tuple [.int i,.int j]):=TN (LU (ns:=[i,j]) (k:=30) (show 2<=30 by decide) fun a ha=>by
  rcases B8.mp ha with rfl|ha
  .omega
  .rw[A6.mp ha];omega)
 have r1:NA (aD 8) (cR xq2) (GU s c kk n us w i j ys g9 g10 g11 g12) C=Z (.d (.tuple (ys.map wyD).reverse),C):=VJ rfl;have c1:=AH (ys.map wyD) Y<|Z 1;have r4:fOp dU (aD 8) (fSl (aD 8) bF zP) (GU s c kk n us w i j ys g9 g10 g11 g12) C=Z (.d (.tuple (ys.map wyD++gP (ys.map wyD) Y (Z 1))),C):=bG rfl (pP rfl rfl rfl sl_tup)<|sS 50;have p2:bI (aC (aD 6)<|aC (aD 7) aO) (GU s c kk n us w i j ys g9 g10 g11 g12) C=Z (.d (.tuple [.int i,.int j]),C):=CY rfl rfl;have s7:aW xq6 (hName 9) (GU s c kk n us w i j ys g9 g10 g11 g12) C=Z (.nx (GU s c kk n us w i j ys (Z (.c C.length)) g10 g11 g12),C++[.lst ((t6D ys i j).map .d)]):=bH (i:=9)<|xZ (aG r1<|aG rfl<|aG rfl<|aG r4<|aG (UV p2)<|aG (CY p2 p2) aR) (show 6<=900 by decide)
 have T7:TL (C++[.lst ((t6D ys i j).map .d)]) C.length 6:=by
  refine⟨_,gG,fun x hx=>?_,rfl⟩;simp only[t6D,B8,L9,A0r]at hx;rcases hx with rfl|rfl|rfl|rfl|rfl|rfl
  .exact uS (fun x hx=>bw x<|List.mem_reverse.mp hx) (by rw[Y5];omega)
  .exact uS (fun x hx=>nomatch hx) 52
  .exact⟨WE (by decide +kernel),WE (by decide +kernel),SZ (by decide +kernel)⟩
  .exact uS (fun x hx=>(C9.mp hx).elim (bw x) fun h=>bw x<|sQ x h) (by rw[C1];omega)
  .exact uS (fun x hx=>by rw[A6.mp hx];exact a1) (show 1<=9 by decide)
  .exact uS (fun x hx=>by
    rcases B8.mp hx with rfl|hx
    .exact a1
    .rw[A6.mp hx];exact a1) (show 2<=9 by decide)
 have a8:=H.app (L:=[.lst ((t6D ys i j).map .d)]);have aa:Dk (C++[.lst ((t6D ys i j).map .d)]) c (m+45):=b5.app;have t5:=H.lt;generalize C++[Cell.lst ((t6D ys i j).map .d)]=M7 at s7 T7 a8 aa;generalize C.length=t at s7 T7 t5;obtain⟨Q,M8,e8,h8,ba,ab⟩:=aAE (m:=m+44) aa;obtain⟨R,K,e9,h9,bb,ac⟩:=aAE (m:=m+43) ba;have T9:=(T7.to ab 50).to ac 50;have ae:=(a8.to ab cw).to ac cw;obtain⟨ds,a9,b9,l9⟩:=T9.ex
 have ll:dW (aC aEC<|aC aEC aO) (GU s c kk n us w i j ys (Z (.c t)) g10 g11 g12) M7=Z (.d (.list [Q,R]),K):=by
  unfold dW;rw[aG (aZ (aG rfl aR) e8) (aG (aZ (aG rfl aR) e9) aR),A1];show(if 2<=sizeLine then Z (CD.d (.list [Q,R]),K)else Y)=_;rw[A7 (sz 52)]
 have s8:aW aOA (hName 9) (GU s c kk n us w i j ys (Z (.c t)) g10 g11 g12) M7=Z (.nx (GU s c kk n us w i j ys (Z (.c K.length)) g10 g11 g12),K++[.lst (ds.map .d++[Q,R].map .d)]):=bH (i:=9)<|bG rfl ll<|XH a9 (by rw[A4];show _+2<=900;omega)
 have a2:TL (K++[.lst (ds.map .d++[Q,R].map .d)]) K.length 8:=by
  refine⟨ds++[Q,R],by rw[F7];exact gG,fun x hx=>?_,by rw[C1,l9];rfl⟩;rcases C9.mp hx with hx|hx
  .exact b9 x hx
  .rcases B8.mp hx with rfl|hx
   .exact h8
   .rw[A6.mp hx];exact h9
 have S:=ae.app (L:=[.lst (ds.map .d++[Q,R].map .d)]);have U:Dk (K++[.lst (ds.map .d++[Q,R].map .d)]) c (m+43):=bb.app;have t9:=ae.lt;generalize K++[Cell.lst (ds.map .d++[Q,R].map .d)]=af at s8 a2 S U;generalize K.length=t at s8 a2 t9
 obtain⟨γ',A,bc,⟨o,rfl⟩,bf,ag,ah⟩:=oJ (g:=hName 10) (b:=LP) (n:=6) (Inv:=fun q γ N=>(∃g,γ=GU s c kk n us w i j ys (Z (.c t)) g g11 g12)/\TL N t (8+q)/\Dk N c (m+25+3*(6-q))/\lK N w n ws) (by
  rintro q hq γ N ⟨⟨g,rfl⟩,T,bg,a3⟩;obtain⟨N',e,T',bh,kp,ln⟩:=ZT (s:=s) (m:=m+25+3*(6-(q+1))) (kk:=kk) (g4:=Z<|fzW us) (g5:=Z (.c w)) (g6:=Z<|I i) (g7:=Z<|I j) (g10:=Z<|I (q:Nat)) (g11:=g11) (g12:=g12) n2 P W yl (by rw[show m+25+3*(6-(q+1))+3=m+25+3*(6-q)by omega];exact bg) T 50 50;have wl:=a3.lt;refine⟨_,_,N',rfl,e,⟨_,rfl⟩,T',bh,⟨?_,?_⟩⟩
  .obtain⟨fs,a,b⟩:=a3.ob;exact⟨fs,by rw[kp w 50 50 50];exact a,b⟩
  .rw[kp (w+2) wl 50 50];exact a3.wt) 6 0 (GU s c kk n us w i j ys (Z (.c t)) g10 g11 g12) af 50 ⟨⟨_,rfl⟩,a2,U,S⟩
 have it:=rn1 (fa:=aC (fC (.int 6)) aO) (γ:=GU s c kk n us w i j ys (Z (.c t)) g10 g11 g12) (M:=af) (J:=6) rfl 50 50;obtain⟨es,O,a4,bi⟩:=bf.ex;have bx:es.length=14:=bi
 obtain⟨y,bj,ai⟩:∃y,atI (es.map CD.d) (-1)=Z (.d y)/\y∈es:=by
  have:=LK (xs:=es) (x0:=.none) 50;refine⟨es.getD (es.length-1) .none,?_,?_⟩
  .rw[LK (xs:=es.map CD.d) (x0:=.d .none) (by rw[A4];omega),A4,E3,D6,E3,C0 (show es.length-1<es.length by omega)];rfl
  .rw[E3,C0 (show es.length-1<es.length by omega)];exact A0q _
 have ix:fOp ixF (aD 9) xq2 (GU s c kk n us w i j ys (Z (.c t)) o g11 g12) A=Z (.d y,A):=bG rfl aKc (by
  show(match A[t]? with|some (.lst xs)=>_|_=>Y)=_;rw[O];show(atI (es.map CD.d) (-1)).bind _=_;rw[bj];rfl)
 have aj:=(B3.mp O).1;have ap:eA aJW (GU s c kk n us w i j ys (Z (.c t)) o g11 g12) A=Z (.nx (GU s c kk n us w i j ys (Z (.c t)) o g11 g12),A.set t (.lst (es.map .d++[.d (lsD 7 y)]))):=oK (x:=.d .none)<|oF (x:=.c t) rfl (aCk O) (aG (aZ (aG ix aR)<|ON 7 y A (a4 y ai).c) aR)<|ET O (by rw[A4];omega)
 have ak:aDj 9 (eA aJW) (GU s c kk n us w i j ys (Z (.c t)) o g11 g12) A=Z (.nx (GU s c kk n us w i j ys (Z (.d (.list (es++[lsD 7 y])))) o g11 g12),(A.set t (.lst (es.map .d++[.d (lsD 7 y)]))).set t .dead):=by
  unfold aDj;rw[ap,A1]
  have f:aFf 9 (GU s c kk n us w i j ys (Z (.c t)) o g11 g12) (A.set t (.lst (es.map .d++[.d (lsD 7 y)])))=Z (GU s c kk n us w i j ys (Z (.d (.list (es++[lsD 7 y])))) o g11 g12,(A.set t (.lst (es.map .d++[.d (lsD 7 y)]))).set t .dead):=by
   show(match (A.set t (.lst (es.map .d++[.d (lsD 7 y)])))[t]? with|some (.lst xs)=>(jL xs).bind _|_=>Y)=_;rw[E2 aj];show(jL (es.map CD.d++[lsD 7 y].map CD.d)).bind _=_;rw[<- F7,kI];rfl
  show(aFf 9 (GU s c kk n us w i j ys (Z (.c t)) o g11 g12)<|A.set t (.lst (es.map .d++[.d (lsD 7 y)]))).bind _=_;rw[f,A1]
 have F:lK ((A.set t (.lst (es.map .d++[.d (lsD 7 y)]))).set t .dead) w n ws:=(ah.put (.inr 50)).put (.inr 50);have V:Dk ((A.set t (.lst (es.map .d++[.d (lsD 7 y)]))).set t .dead) c (m+25):=((ag.le 50).put 50).put 50;generalize (A.set t (.lst (es.map .d++[.d (lsD 7 y)]))).set t .dead=D at ak F V
 have c0:LV (GU s c kk n us w i j ys (Z (.d (.list (es++[lsD 7 y])))) o g11 g12) D=Z (.d (.list ((es++[lsD 7 y]).map fun _=>.bool true)),D):=by
  refine mE (XE rfl rfl) (by rw[A4,C1,D8];omega) (LI (γ0:=(aMC w us i j)) CD.d (fun _=>.bool true) (es++[lsD 7 y]) fun x hx=>?_) (by rw[A4,C1,D8];omega)
  have bn:TH x:=by
   rcases C9.mp hx with hx|hx
   .exact(a4 x hx).a
   .rw[A6.mp hx];exact(a4 y ai).b
  exact aZ (aG rfl<|aG rfl<|aG rfl<|aG rfl<|aG rfl aR)<|aHM P F tw bn hu
 have bo:(fX<|gB<|aP FI<|aC LV aO) (GU s c kk n us w i j ys (Z (.d (.list (es++[lsD 7 y])))) o g11 g12) D=Z (false,D):=by
  have:=eY<|cM<|aZ (aG c0 aR)<|all_map' (f:=fun _=>true) (ds:=es++[lsD 7 y]) (M:=D);rw[show(es++[lsD 7 y]).all (fun _=>true)=true from D5.mpr fun _ _=>rfl]at this;exact this
 obtain⟨x,x',E,bp,nu,am,ao⟩:=aBG (i:=i) (j:=j) (m:=m+24) P V;have X:=F.to ao cw
 have bq:aW (aP iS aNd) (gU 2<|cG (hName 11)<|cG (hName 12) pH) (GU s c kk n us w i j ys (Z (.d (.list (es++[lsD 7 y])))) o g11 g12) D=Z (.nx (GU s c kk n us w i j ys (Z (.d (.list (es++[lsD 7 y])))) o (Z (.d x))<|Z (.d x')),E):=by
  unfold aW;rw[aZ (xs:=[.c c,I i,I j,I n]) (aG rfl<|aG rfl<|aG rfl<|aG rfl aR) bp,A1];rfl
 have r1:=GJ (us:=us) (z:=.tuple (ys.map wyD)) X nu;obtain⟨x3,aq,br,c4,ar,au⟩:=aAE (M:=E++[.exc false "NoPlace" []]) (m:=m+23) am.app;have av:=(X.app (L:=[.exc false "NoPlace" []])).to au cw;have r2:=GJ (us:=us) (z:=x3) av nu;have bt:gB aLl (GU s c kk n us w i j ys (Z (.d (.list (es++[lsD 7 y])))) o (Z (.d x))<|Z (.d x')) E=Z (true,E++[.exc false "NoPlace" []]):=cM<|aZ (aG rfl<|aG rfl<|aG rfl<|aG rfl aR) r1;have bu:gB aJO (GU s c kk n us w i j ys (Z (.d (.list (es++[lsD 7 y])))) o (Z (.d x))<|Z (.d x')) (E++[.exc false "NoPlace" []])=Z (true,aq++[.exc false "NoPlace" []]):=cM<|aZ (aG rfl<|aG rfl<|aG rfl<|aG (aZ (aG rfl aR) br) aR) r2
 have bv:(gOr (fX<|gB aLl)<|fX<|gB aJO) (GU s c kk n us w i j ys (Z (.d (.list (es++[lsD 7 y])))) o (Z (.d x))<|Z (.d x')) E=Z (false,aq++[.exc false "NoPlace" []]):=by
  unfold gOr fX;rw[bt,A1,A1];dsimp only;rw[Bool.not_true,B7 52,bu];rfl
 exact⟨_,_,_,_,_,_,_,_,_,_,_,(aK s1).trans ((aK s2).trans ((aK s3).trans ((aK s4).trans ((aK s5).trans ((aK<|(bU t6).trans rfl).trans ((aK s7).trans ((aK s8).trans ((aK<|iG it bc).trans ((aK ak).trans ((aK<|(bU bo).trans rfl).trans ((aK bq).trans ((bU bv).trans rfl)))))))))))),(ar.app (L:=[.exc false "NoPlace" []])).le 50⟩
abbrev rM(a:Ud)(b:Nat):Ga:=[Z (.d a),Z (.c b),Y,Y,Y,Y,Y,Y,Y,Y,Y,Y,Y]
abbrev BS(a:PyData)(b:Nat)(c:Option CD)(d:Option CD)(e:Option CD)(f:Option CD)(g:Option CD)(h:Option CD)(i:Option CD)(j:Option CD)(k:Option CD)(l:Option CD)(m:Option CD):Ga:=[some (.d a),some (.c b),c,d,e,f,g,h,i,j,k,l,m]
def main(ns:Ta)(G:ns.length<=63):∃M',F_law [.d (.list (ns.map .int))] []=Z (.d (.bool true),M'):=by
 obtain⟨c,M1,B,o⟩:=aJs ns;have s1:aW aOM (hName 1) [Z (.d (.list (ns.map .int))),Y,Y,Y,Y,Y,Y,Y,Y,Y,Y,Y,Y] []=Z (.nx (rM (.list (ns.map .int)) c),M1):=bH<|aZ (aG rfl<|aG rfl aR) B
 obtain⟨γ',M2,C,⟨t,g3,g4,g5,g6,g7,g8,g9,g10,g11,g12,rfl⟩,_⟩:=oJ (g:=hName 2) (Inv:=fun k γ M=>(∃t g3 g4 g5 g6 g7 g8 g9 g10 g11 g12,γ=(BS (.list (ns.map .int)) c t g3 g4 g5 g6 g7 g8 g9 g10 g11 g12))/\Dk M c (120*(4-k))) (by
  rintro k H γ M ⟨⟨t,g3,g4,g5,g6,g7,g8,g9,g10,g11,g12,rfl⟩,dk⟩;obtain⟨I,K,O,P,Q,R,S,D,E,F,M',e,A⟩:=aCQ (by rw[show 120*(4-(k+1))+120=120*(4-k)by omega];exact dk);exact⟨_,_,M',rfl,e,⟨_,_,_,_,_,_,_,_,_,_,_,rfl⟩,A⟩) 4 0 (rM (.list (ns.map .int)) c) M1 rfl ⟨⟨_,_,_,_,_,_,_,_,_,_,_,rfl⟩,o.le 52⟩
 exact⟨M2,dF rfl<|(aK s1).trans ((aK<|iG (aCG rfl<|PX 52 52) C).trans rfl)⟩
end Q57
end
end
open PySem PySem.W PyProof.Rows
set_option maxRecDepth 100000 in
set_option maxHeartbeats 0 in
theorem PySem.Challenge.cw_cutstree_k57_ways_told_holds : PySem.Challenge.rw_cutstree_k57_ways_told.Holds := by
 refine Q57.k_top ?_
 k_fill
 refine L2.law_walk (l:=PySem.Challenge.rw_cutstree_k57_ways_told) (F:=Q57.F_law) (k:=10) (p:="_law_script") (by decide +kernel) rfl rfl ⟨fun _=>rfl,by decide,by decide,rfl⟩ (fun w h a=>PySem.W.kIn_of a) ?T Q57.main (fun _=>by kernel_rfl)
 case T=>
  intro w mg h KX G;refine Q57.fn_law (K:=_) (mg:=mg) ?TT
  refine' Q57.txt_mk KX G ?v0 ?v1 ?v2 ?v3 ?v4 ?v5 ?v6 ?v7 ?v8 ?v9 ?v10 ?v11 ?v12 ?v13 ?v14 ?v15 ?v16 ?v17 ?v18 ?v19 ?v20 ?v21 ?v22 ?v23 ?v24 ?v25 ?v26 ?v27 ?v28 ?v29 ?v30 ?v31 ?v32 ?v33 ?v34 ?v35 ?v36 ?v37 ?v38 ?v39 ?v40 ?v41 ?v42 ?v43 ?v44 ?v45 ?v46 ?v47 ?v48 ?v49 ?v50 ?v51 ?v52 ?v53 ?v54 ?v55 ?v56 ?v57 ?v58 ?v59 ?v60 ?v61 ?v62 ?v63 ?v64 ?v65 ?v66 ?v67 ?v68 ?v69 ?v70 ?v71 ?v72 ?v73 ?v74 ?v75 ?v76 ?v77 ?v78 ?v79 ?v80 ?v81 ?v82 ?v83 ?v84 ?v85 ?v86 ?v87 ?v88 ?v89 ?v90 ?v91
  (case v0|v1|v2|v3|v4|v5|v6|v7|v8|v9|v10|v11|v12|v13|v14|v15|v16|v17|v18|v19|v21|v25|v26|v28|v29|v30|v32|v33|v34|v35|v38|v41|v42|v43|v44|v45|v46|v49|v50|v51|v52|v53=>k_is)
  (case v20|v22|v23|v24|v27|v31|v36|v37|v39|v40|v47|v48|v54=>kernel_rfl)
  (case v55|v56|v57|v58|v59|v60|v61|v62|v63|v64|v65|v66|v67|v68|v69|v70|v71|v72|v73|v74|v75|v76|v77|v78|v79|v80|v81|v82|v83|v84|v85|v86|v87|v88|v89|v90|v91=>exact L2.def_mk KX G (by k_is) (by k_is) (by k_is) (by k_is))